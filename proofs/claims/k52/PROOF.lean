import PyProof.Rows.All
import Wide.All
import OpenK.AllK
import Wide.FinOn
import Lean
import PyProof.EqAt
import PyProof.EqKinds
import PyProof.TupleCall
import KE.KSortTup
import PyProof.EnumMake
import PyProof.EnumStmt
import PyProof.ListRange
import PyProof.Rows.SortPure
import PyProof.Rows.SortRuns
import KE.KDictList
import KE.KRevIter
import PyProof.DictItems
import PyProof.ZipIter
import PyProof.DictUpdate
import PyProof.TupleIter
import PyProof.ListNew
import PyProof.Rows.ZipGen
import PyProof.AttrMiss
import PyProof.FactsAll.dict_1
import PyProof.AttrMissHeap
import KE.KDictOf
import PyProof.Rows.SetFrom
import PyProof.Rows.Range3
import PyProof.DictIter
import PyProof.Rows.TupDisplay
import PyProof.ExcClass3
import PyProof.RulesAs
import PyProof.RaisesMany
import PyProof.InstStore
import PyProof.InstStoreFacts
import PyProof.ExcBaseAll.ValueError
import PyProof.ExcArgs
import PyProof.InstLoad
import PyProof.ExcAttrAll.ValueError
import KE.KIsAll
import PyProof.Toks
import PyProof.FString4
import PyProof.StrLawsRepr
import PyProof.FitsReplace
import PySem.Challenge.RW_pricecover_k52_cheapest
set_option Elab.async false
set_option bootstrap.genMatcherCode false
set_option linter.all false
set_option maxRecDepth 100000
set_option maxHeartbeats 4000000
open List renaming length_map → aa0,getElem?_eq_getElem → aa1,length_append → aa2,map_append → aa5,size_toArray → aa6,getElem?_map → aa8,mem_cons_self → aa9,mem_cons_of_mem → aaa,getElem?_append_right → aab,mem_of_getElem? → aac,getD_eq_getElem?_getD → aad,getElem?_append_left → aaf,length_singleton → aag,not_mem_nil → aah,replicate → aaj,filter_cons → aan,length_drop → aao,length_cons → aap,mem_cons → aaq,length_reverse → aas,map_cons → aau,range → aav,drop_eq_getElem_cons → aaw,mem_append_right → aax,append_nil → aay,length_take → ab0,zip → ab2,getElem_mem → ab3,replicate_succ → ab5,take_add_one → ab7,length_filter_le → ab8,filter_append → aba,contains_cons → abb,length_replicate → abd,getElem?_eq_none → abe,Nodup → abf,filterMap_cons → abh,append_assoc → abi,take_length → abm,length_filterMap_le → abo,count_append → abq,find?_cons → abr,mem_of_mem_take → abv,flatten_cons → abx,take_of_length_le → aby,drop_of_length_le → abz,take_append_drop → ac1,getElem?_reverse → ac3,map_drop → ac4,length_range → ac5,mem_append_left → ac6,count_replicate_self → ac7,length → ac8,drop_length → aca,length_nil → acb,reverse_cons → acg,nodup_nil → acj,map_map → ack,count_replicate → acp,count_singleton → acq,any_cons → acs,of_mem_zip → acv,getElem?_take_of_lt → acx,headD_eq_head?_getD → ad2,getElem?_set_self → ad4,sum_cons → ad7,getElem_inj → ad8,getElem?_toArray → ad9,filterMap_append → ada,eraseIdxIfInBounds_toArray → adb,getElem?_set_ne → ade,length_dropLast → adg,nil_append → adh,toArray → adi,forIn_cons → adj,length_zip → adk,drop_drop → adl,forIn_nil → adm,dropLast_concat_getLast → adn,getElem?_drop → ado,zip_cons_cons → adp,take_sublist → ads,mem_of_find?_eq_some → adw,map_nil → adz,lookup_cons → ae0,getElem?_replicate → ae3,eraseIdx_cons_succ → ae4,getElem?_cons_succ → ae5,range_succ → ae7,sum_append → ae8,countP_mono_left → aeb,map → aec,dropLast_concat → aed,replicate_succ' → aee,mem_of_mem_drop → aef,getLast?_concat → aeg,map_take → aei,map_congr_left → aej,getElem?_range → aek,flatMap_append → ael,reverse_append → aem,getElem?_tail → aep,map_filterMap → aeq,any_eq_false → aet,ext_getElem? → aev,getElem?_inj → aew,cons_append → aey,countP_cons → aez,append_inj' → af0,zipIdx_cons → af1,mem_flatMap → af2,map_reverse → af3,length_set → af4,foldl → af5,foldl_cons → af6,zipIdx_nil → af8
open Option.some renaming inj → aa3,injEq → adv
open Nat renaming le_refl → aa4,zero_le → aa7,lt_of_succ_lt → aae,lt_of_lt_of_le → aai,ne_of_lt → aam,le_trans → aar,ne_of_gt → ab9,lt_irrefl → abc,le_add_right → abj,eq_zero_or_pos → abn,le_of_lt → abu,not_lt_zero → ac2,lt_succ_of_lt → ach,sub_zero → acm,add_lt_add_left → acu,lt_of_le_of_lt → acy,add_sub_cancel → acz,sub_self → ad0,zero_add → ad1,le_succ → ad5,le_succ_of_le → adu,add_comm → ady,lt_succ_self → ae2,lt_trans → aen,lt_or_ge → aer,le_of_not_lt → aex,min_eq_left → af7
open Bool renaming false_ne_true → aak,false_eq_true → aaz,and_eq_true → ac9,or_true → acn,eq_iff_iff → adf,or_false → adq,noConfusion → ae1,or_eq_true → ae6,and_false → aea
open And renaming intro → aal
open Int renaming emod_nonneg → aat,toNat → ab1,le_refl → abp,toNat_natCast → abw,emod_lt_of_pos → acf
open Or renaming inl → ab4,inr → ab6
open Iff renaming rfl → abg
open List.cons renaming inj → abk,injEq → ace
open Array renaming getElem?_eq_getElem → abl,length_toList → abt,getElem?_toList → aci,getD_eq_getD_getElem? → aco,getElem?_eq_none → ad6,toArray_toList → aeh,forIn_toList → aeo
open Option renaming isSome_some → ac0,isSome_none → acd,bind_some → acr,map_some → acw,isSome_map → adt,getD_none → adx
open List.Perm renaming refl → ad3
open Prod.mk renaming inj → ae9
open Exists renaming intro → aes
open List.Pairwise renaming nil → aeu
local macro_rules | `(tactic| omega)=>`(tactic| first | lia | omega +splitNatSub)
namespace L2
open PySem PySem.Spec PyProof.Rows
abbrev Key:=Sum Int Str
noncomputable def ym:Key→Value→Bool
 | .inl k,v=>Value.isInt k v
 | .inr x,v=>Value.isStrOf x v
noncomputable def keyH (w:World):Key→Int
 | .inl k=>hashInt k
 | .inr x=>hashStr w x
theorem ck:∀{k:Key} {v:Value},ym k v=true→(∃i t,k=Sum.inl i∧v=Value.int i t)∨(∃x t,k=Sum.inr x∧v=Value.str x t)
 | .inl i,v,h=>by
  obtain ⟨t,e⟩:=Value.isInt_shape (k:=i) (v:=v) h;exact .inl ⟨i,t,rfl,e⟩
 | .inr x,v,h=>by
  obtain ⟨t,e⟩:=Value.isStrOf_shape (x:=x) (v:=v) h;exact .inr ⟨x,t,rfl,e⟩
theorem Hg (i:Int) (t:Tok):ym (.inl i) (.int i t)=true:=by simp[ym,Value.isInt]
theorem Iy (x:Str) (t:Tok):ym (.inr x) (.str x t)=true:=by simp[ym,Value.isStrOf]
theorem key_ll (a b:Int):decide ((Sum.inl a:Key)=Sum.inl b)=(a==b):=by
 by_cases e:a=b
 ·subst e;simp
 ·have h:¬(Sum.inl a:Key)=Sum.inl b:=λq=>e (Sum.inl.inj q);rw[decide_eq_false h];exact (beq_eq_false_iff_ne.mpr e).symm
theorem key_rr (a b:Str):decide ((Sum.inr a:Key)=Sum.inr b)=decide (a=b):=by
 by_cases e:a=b
 ·subst e;simp
 ·have h:¬(Sum.inr a:Key)=Sum.inr b:=λq=>e (Sum.inr.inj q);rw[decide_eq_false h,decide_eq_false e]
theorem key_lr (a:Int) (b:Str):decide ((Sum.inl a:Key)=Sum.inr b)=false:=decide_eq_false (λq=>nomatch q)
theorem key_rl (a:Str) (b:Int):decide ((Sum.inr a:Key)=Sum.inl b)=false:=decide_eq_false (λq=>nomatch q)
noncomputable def bh (prog:Program) (w:World):PySem.KeyKind prog w Key where
 is:=ym
 hash:=keyH w
 inj:=λv a b ha hb=>by
  rcases ck ha with ⟨i,t,rfl,rfl⟩ | ⟨x,t,rfl,rfl⟩
  ·rcases ck hb with ⟨j,u,rfl,e⟩ | ⟨y,u,rfl,e⟩
   ·injection e with e1 _;rw[e1]
   ·exact nomatch e
  ·rcases ck hb with ⟨j,u,rfl,e⟩ | ⟨y,u,rfl,e⟩
   ·exact nomatch e
   ·injection e with e1 _;rw[e1]
 byValue:=λk v h=>by
  rcases ck h with ⟨i,t,rfl,rfl⟩ | ⟨x,t,rfl,rfl⟩ <;> rfl
 pyHash:=λhv h=>by
  rcases ck hv with ⟨i,t,rfl,rfl⟩ | ⟨x,t,rfl,rfl⟩
  ·exact wpAny_pyHash_int h
  ·exact wpAny_pyHash_str h
 eqBool:=λhu hv h=>by
  rcases ck hu with ⟨i,t,rfl,rfl⟩ | ⟨x,t,rfl,rfl⟩
  ·rcases ck hv with ⟨j,u,rfl,rfl⟩ | ⟨y,u,rfl,rfl⟩
   ·rw[key_ll] at h;exact wpAny_eqBool_int h
   ·rw[key_lr] at h;exact SeqAt.EqAt.int_str i t y u _ _ _ _ h
  ·rcases ck hv with ⟨j,u,rfl,rfl⟩ | ⟨y,u,rfl,rfl⟩
   ·rw[key_rl] at h;exact SeqAt.EqAt.str_int x t j u _ _ _ _ h
   ·rw[key_rr] at h;exact wpAny_eqBool_str h
 «strs»:=λk x t v h=>by
  rcases ck h with ⟨i,u,rfl,e⟩ | ⟨y,u,rfl,e⟩
  ·exact nomatch e
  ·injection e with e1 _
   subst e1;cases v <;> rfl
theorem Dk (prog:Program) (w:World) (i:Int) (t:Tok):(bh prog w).is (.inl i) (.int i t)=true:=Hg i t
theorem ko (prog:Program) (w:World) (x:Str) (t:Tok):(bh prog w).is (.inr x) (.str x t)=true:=Iy x t
inductive V where
 | non | bl (b:Bool) | int (i:Int) | str (x:Str) | byt (b:Array UInt8) | flt (b:UInt64) | ref (a:Addr) | ty (n:String)
 deriving DecidableEq
def RelV:V→Value→Prop
 | .non,u=>u=Value.none
 | .bl b,u=>u=Value.bool b
 | .int i,u=>∃t,u=Value.int i t
 | .str x,u=>∃t,u=Value.str x t
 | .byt b,u=>∃t,u=Value.bytes b t
 | .flt b,u=>∃t,u=Value.float b t
 | .ref a,u=>u=Value.ref a
 | .ty n,u=>u=Value.type n
abbrev Vals:List V→List Value→Prop:=Paired RelV
theorem Vals.length {xs:List V} {us:List Value} (r:Vals xs us):xs.length=us.length:=Paired.length r
theorem Vals.get:∀{xs:List V} {us:List Value} {i:Nat} {x:V},Vals xs us→xs[i]?=some x→∃u,us[i]?=some u∧RelV x u
 | _,_,_,_,.nil,e=>by simp at e
 | _,_,0,_,.cons r _,e=>by simp at e;subst e;exact ⟨_,rfl,r⟩
 | _,_,i+1,x,.cons _ t,e=>by
  obtain ⟨u,h1,h2⟩:=Vals.get (i:=i) (x:=x) t (by simpa using e);exact ⟨u,by simpa using h1,h2⟩
theorem Vals.set {x:V} {u:Value} (r:RelV x u):∀{xs:List V} {us:List Value} (i:Nat),Vals xs us→Vals (xs.set i x) (us.set i u)
 | _,_,_,.nil=>.nil
 | _,_,0,.cons _ t=>.cons r t
 | _,_,i+1,.cons q t=>.cons q (Vals.set r i t)
theorem Vals.append:∀{xs ys:List V} {us ws:List Value},Vals xs us→Vals ys ws→Vals (xs++ys) (us++ws)
 | _,_,_,_,.nil,s=>s
 | _,_,_,_,.cons r t,s=>.cons r (Vals.append t s)
theorem Vals.take:∀{xs:List V} {us:List Value} (n:Nat),Vals xs us→Vals (xs.take n) (us.take n)
 | _,_,0,_=>.nil
 | _,_,_+1,.nil=>.nil
 | _,_,n+1,.cons r t=>.cons r (Vals.take n t)
theorem Vals.drop:∀{xs:List V} {us:List Value} (n:Nat),Vals xs us→Vals (xs.drop n) (us.drop n)
 | _,_,0,r=>r
 | _,_,_+1,.nil=>.nil
 | _,_,n+1,.cons _ t=>Vals.drop n t
def kc:Option V→Option Value→Prop
 | some v,some u=>RelV v u
 | none,none=>True
 | _,_=>False
def KV {κ:Type}:List (κ×V)→List (κ×Value)→Prop:=Paired λ(p:κ×V) (q:κ×Value)=>p.1=q.1∧RelV p.2 q.2
noncomputable def kV:Key→V
 | .inl i=>.int i
 | .inr x=>.str x
inductive HO where
  | lst (xs:List V)
  | tup (xs:List V)
  | dK (kvs:List (Key×V)) | dT (kvs:List (List Key×V))
  | set (S:Int→Bool) (n:Nat)
  | ins (C dx:Addr) (fs:List (Str×V))
  | own (x:Addr)
  | xd (fs:List (Str×V))
  | met (f x:Addr)
  | rng (lo hi:Int)
  | frz (o:Obj) (u:HO)
  | tbl (ps:Array Value)
  | ext (φ:Heap→Prop)
abbrev Hp:=Addr→Option HO
noncomputable def upd (H:Hp) (a:Addr) (o:HO):Hp:=λb=>if b=a then some o else H b
theorem ae {H:Hp} {a:Addr} {o:HO}:upd H a o a=some o:=by unfold upd;rw[if_pos rfl]
theorem af {H:Hp} {a b:Addr} {o:HO} (h:b≠a):upd H a o b=H b:=by unfold upd;rw[if_neg h]
theorem eh {H:Hp} {a b:Addr} {o u:HO} (h:H a=some o) (h':H b=some u) (d:o≠u):a≠b:=by
 intro e;subst e;rw[h] at h';exact d (aa3 h')
theorem ah {H:Hp} {a b:Addr} {o:HO} (h:H a=some o) (h':H b=none):a≠b:=by
 intro e;subst e;rw[h] at h';cases h'
section
variable (P:Program) (w:World)
def Ds (h:Heap) (a:Addr) (its:Array Value):Prop:=∃o,h.get? a=some o∧o.cls=.type "tuple"∧∃n,o.data=.seq its n∧o.dict=none
theorem Ds.tup {h:Heap} {a:Addr} {its:Array Value} (x:Ds h a its):IsTup h a its:=let ⟨o,h1,h2,n,h3,_⟩:=x;⟨o,h1,h2,n,h3⟩
def bp (H:Hp) (h:Heap) (a:Addr):HO→Prop
 | .lst xs=>xs.length≤sizeLine∧∃(its:List Value) (n:Nat),Vals xs its∧h.get? a=some { cls:=.type "list",data:=.seq its.toArray n }
 | .tup xs=>xs.length≤sizeLine∧∃its:List Value,Vals xs its∧Ds h a its.toArray
 | .dK kvs=>kvs.length≤sizeLine∧(a==sysModules)=false∧∃vs,KV kvs vs∧h.DictOf (bh P w) a vs
 | .dT kvs=>kvs.length≤sizeLine∧(a==sysModules)=false∧∃xs:List (List Key×Addr×Value),
   Paired (λ(p:List Key×V) (q:List Key×Addr×Value)=>p.1=q.1∧H q.2.1=some (.tup (p.1.map kV))∧RelV p.2 q.2.2) kvs xs∧
   ∃o es ep,h.get? a=some o∧o.ExactDict∧o.data=.dict es ep∧es.toList=xs.map (entryOfKey (tupleKind (bh P w)))∧(xs.map (·.1)).Nodup
 | .set S n=>h.SetOf (intKind P w) a S n
 | .ins C dx fs=>H dx=some (.own a)∧fs.length≤1000∧dx≠a∧h.get? a=some (PySem.W.instObj C dx)∧
   ∃mA,h.Ns1 dx mA∧(∀f,kc (fs.lookup f) (mA f))∧PySem.Within mA (fs.map (·.1))
 | .own _=>∃o,h.get? a=some o
 | .xd fs=>∃mA,h.Ns1 a mA∧∀f,kc (fs.lookup f) (mA f)
 | .rng lo hi=>∃t u v,h.get? a=some { cls:=.type "range",data:=.fields #[.int lo t,.int hi u,.int 1 v] }
 | .frz o u=>h.get? a=some o∧bp H h a u
 | .tbl ps=>h.get? a=some { cls:=.none,data:=.fields ps }
 | .met f x=>h.get? a=some (PySem.W.methodObj (.ref f) (.ref x))
 | .ext φ=>φ h∧(∃o,h.get? a=some o)∧∀h1 h2:Heap,φ h1→(∀o,h1.get? a=some o→h2.get? a=some o)→φ h2
def HOk (H:Hp) (h:Heap):Prop:=∀a o,H a=some o→bp P w H h a o
end
section
variable {P:Program} {w:World} {H H':Hp} {h h':Heap} {a:Addr} {o:HO}
theorem bp.lt (x:bp P w H h a o):a < h.objs.size:=by
 cases o with
 | lst xs=>obtain ⟨_,_,_,_,e⟩:=x;exact Heap.lt_size e
 | tup xs=>obtain ⟨_,_,_,p⟩:=x;exact p.tup.lt
 | dK kvs=>obtain ⟨_,_,_,_,o,_,_,e,_⟩:=x;exact Heap.lt_size e
 | dT kvs=>obtain ⟨_,_,_,_,o,_,_,e,_⟩:=x;exact Heap.lt_size e
 | set S n=>obtain ⟨o,_,_,_,e,_⟩:=x;exact Heap.lt_size e
 | ins C dx fs=>obtain ⟨_,_,_,e,_⟩:=x;exact Heap.lt_size e
 | own y=>obtain ⟨_,e⟩:=x;exact Heap.lt_size e
 | xd fs=>obtain ⟨_,⟨_,_,_,e,_⟩,_⟩:=x;exact Heap.lt_size e
 | rng lo hi=>obtain ⟨_,_,_,e⟩:=x;exact Heap.lt_size e
 | frz ob u=>obtain ⟨e,_⟩:=x;exact Heap.lt_size e
 | tbl ps=>exact Heap.lt_size (show h.get? a=some _ from x)
 | met f y=>exact Heap.lt_size (show h.get? a=some _ from x)
 | ext φ=>obtain ⟨_,⟨_,e⟩,_⟩:=x;exact Heap.lt_size e
theorem Paired.mapP {α β:Type} {F G:α→β→Prop}:∀{l₁:List α} {l₂:List β},Paired F l₁ l₂→(∀a b,F a b→G a b)→Paired G l₁ l₂
 | _,_,.nil,_=>.nil
 | _,_,.cons r t,f=>.cons (f _ _ r) (Paired.mapP t f)
theorem bp.se (x:bp P w H h a o) (k:∀b u,(b=a∨H b=some (.own a))→h.get? b=some u→h'.get? b=some u)
  (ho:∀b,H b=some (.own a)→H' b=some (.own a)) (ht:∀b xs,H b=some (.tup xs)→H' b=some (.tup xs)):bp P w H' h' a o:=by
 induction o with
 | lst xs=>obtain ⟨z,its,n,r,e⟩:=x;exact ⟨z,its,n,r,k _ _ (.inl rfl) e⟩
 | tup xs=>obtain ⟨z,its,r,ob,e,c⟩:=x;exact ⟨z,its,r,ob,k _ _ (.inl rfl) e,c⟩
 | dK kvs=>obtain ⟨z,y,vs,r,ob,es,ep,e,c⟩:=x;exact ⟨z,y,vs,r,ob,es,ep,k _ _ (.inl rfl) e,c⟩
 | dT kvs=>
  obtain ⟨z,y,xs,r,ob,es,ep,e,c⟩:=x;exact ⟨z,y,xs,Paired.mapP r λp q z=>⟨z.1,ht _ _ z.2.1,z.2.2⟩,ob,es,ep,k _ _ (.inl rfl) e,c⟩
 | set S n=>obtain ⟨ob,es,ep,t,e,c⟩:=x;exact ⟨ob,es,ep,t,k _ _ (.inl rfl) e,c⟩
 | ins C dx fs=>
  obtain ⟨d,z,ne,e,mA,⟨od,es,ep,e2,c⟩,r⟩:=x;exact ⟨ho _ d,z,ne,k _ _ (.inl rfl) e,mA,⟨od,es,ep,k _ _ (.inr d) e2,c⟩,r⟩
 | own y=>obtain ⟨ob,e⟩:=x;exact ⟨ob,k _ _ (.inl rfl) e⟩
 | xd fs=>obtain ⟨mA,⟨od,es,ep,e,c⟩,r⟩:=x;exact ⟨mA,⟨od,es,ep,k _ _ (.inl rfl) e,c⟩,r⟩
 | rng lo hi=>obtain ⟨t,u,v,e⟩:=x;exact ⟨t,u,v,k _ _ (.inl rfl) e⟩
 | frz ob u ih=>obtain ⟨e,q⟩:=x;exact ⟨k _ _ (.inl rfl) e,ih q⟩
 | tbl ps=>
  have e:h.get? a=some { cls:=.none,data:=.fields ps }:=x;show h'.get? a=some { cls:=.none,data:=.fields ps }
  exact k a _ (.inl rfl) e
 | met f y=>
  have e:h.get? a=some (PySem.W.methodObj (.ref f) (.ref y)):=x;show h'.get? a=some (PySem.W.methodObj (.ref f) (.ref y))
  exact k a _ (.inl rfl) e
 | ext φ=>obtain ⟨p,⟨o,e⟩,st⟩:=x;exact ⟨st _ _ p λo q=>k _ _ (.inl rfl) q,⟨o,k _ _ (.inl rfl) e⟩,st⟩
theorem HOk.lt (x:HOk P w H h) (e:H a=some o):a < h.objs.size:=(x a o e).lt
theorem tup_rd {xs:List V} (x:HOk P w H h) (e:H a=some (.tup xs)):xs.length≤sizeLine∧∃its:List Value,Vals xs its∧IsTup h a its.toArray:=
 let ⟨z,its,r,p⟩:=x a _ e
 ⟨z,its,r,p.tup⟩
theorem HOk.fresh (x:HOk P w H h) (e:h.objs.size≤a):H a=none:=by
 cases q:H a with
 | none=>rfl
 | some u=>exact absurd (aai (x.lt q) e) (abc _)
theorem HOk.kept (x:HOk P w H h) (k:∀b u,h.get? b=some u→h'.get? b=some u):HOk P w H h':=λa o e=>
 (x a o e).se (λb u _ q=>k b u q) (λ_ q=>q) λ_ _ q=>q
theorem HOk.laid (x:HOk P w H h) (k:∀b u,h.get? b=some u→h'.get? b=some u) (hp:h.objs.size≤a) (new:bp P w (upd H a o) h' a o):HOk P w (upd H a o) h':=λb u e=>by
 have hn:=x.fresh hp;by_cases hb:b=a
 ·subst hb;rw[ae] at e;cases e;exact new
 ·rw[af hb] at e;exact (x b u e).se (λc v _ q=>k c v q) (λc q=>by rw[af (ah q hn)];exact q) λc xs q=>by rw[af (ah q hn)];exact q
end
def Rd (H:Hp) (a:Addr) (u:HO):Prop:=H a=some u∨∃o,H a=some (.frz o u)
theorem Rd.ok {P:Program} {w:World} {H:Hp} {h:Heap} {a:Addr} {u:HO} (r:Rd H a u) (x:HOk P w H h):bp P w H h a u:=by
 rcases r with r | ⟨o,r⟩
 ·exact x a u r
 ·obtain ⟨_,q⟩:=x a _ r;exact q
def Mut:Option HO→Prop
 | some (.lst _)=>True
 | some (.dK _)=>True
 | some (.dT _)=>True
 | some (.set _ _)=>True
 | some (.ins _ _ _)=>True
 | some (.ext _)=>True
 | _=>False
section
variable {P:Program} {w:World} {H:Hp} {h h':Heap} {x e:Addr} {o':HO}
theorem HOk.write (ok:HOk P w H h) (mu:Mut (H x)) (he:e=x∨H e=some (.own x)) (k:∀b u,b≠e→h.get? b=some u→h'.get? b=some u) (heo:∃u,h'.get? e=some u)
  (new:bp P w (upd H x o') h' x o'):HOk P w (upd H x o') h':=λb u q=>by
 have nown:∀c y,H c=some (.own y)→c≠x:=λc y r z=>by subst z;rw[r] at mu;exact mu
 have ntup:∀c xs,H c=some (.tup xs)→c≠x:=λc xs r z=>by subst z;rw[r] at mu;exact mu
 by_cases hb:b=x
 ·subst hb;rw[ae] at q;cases q;exact new
 ·rw[af hb] at q;by_cases hbe:b=e
  ·have q':H b=some (.own x):=by
    rcases he with z | z
    ·exact absurd (hbe.trans z) hb
    ·rw[hbe];exact z
   rw[q] at q';cases q';obtain ⟨v,hv⟩:=heo;exact ⟨v,by rw[hbe];exact hv⟩
  ·refine (ok b u q).se (λc v hc r=>k c v ?_ r) (λc r=>by rw[af (nown c b r)];exact r) λc xs r=>by rw[af (ntup c xs r)];exact r
   rcases hc with rfl | hc
   ·exact hbe
   ·rintro rfl;rcases he with z | z
    ·exact nown c b hc z
    ·rw[hc] at z;cases z;exact hb rfl
end
structure Un (fs ex:List Addr) (H H':Hp) (h h':Heap):Prop where
 keep:∀b o,h.get? b=some o→H b=none→b∉fs→b∉ex→h'.get? b=some o
 slot:∀b o,h.get? b=some o→H b=none→b∈fs→b∉ex→∃sl,h'.get? b=some { o with slots:=sl }
 free:∀b o,h.get? b=some o→H b=none→b∉ex→H' b=none
 there:∀b o,h.get? b=some o→b∉ex→∃o',h'.get? b=some o'
 tups:∀b xs,H b=some (.tup xs)→H' b=some (.tup xs)
 frzs:∀b o u,H b=some (.frz o u)→H' b=some (.frz o u)
 tbls:∀b ps,H b=some (.tbl ps)→∃more,H' b=some (.tbl (ps++more))
section
variable {fs fs' ex ex':List Addr} {H H1 H2:Hp} {h h1 h2 h':Heap} {a x e:Addr} {o:HO}
theorem Un.any (u:Un fs ex H H1 h h1) {b:Addr} {ob:Obj} (q:h.get? b=some ob) (n:H b=none) (hx:b∉ex):∃sl,h1.get? b=some { ob with slots:=sl }:=by
 by_cases hb:b∈fs
 ·exact u.slot b ob q n hb hx
 ·exact ⟨ob.slots,u.keep b ob q n hb hx⟩
theorem Un.kept (k:∀b u,h.get? b=some u→h'.get? b=some u):Un fs ex H H h h':=
 ⟨λb ob q _ _ _=>k b ob q,λb ob q _ _ _=>⟨ob.slots,k b ob q⟩,λ_ _ _ n _=>n,λb ob q _=>⟨ob,k b ob q⟩,λ_ _ q=>q,λ_ _ _ q=>q,λ_ ps q=>⟨#[],by rw[q];simp⟩⟩
theorem Un.refl:Un fs ex H H h h:=Un.kept λ_ _ q=>q
theorem Un.laid (k:∀b u,h.get? b=some u→h'.get? b=some u) (hp:h.objs.size≤a) (hn:H a=none):Un fs ex H (upd H a o) h h' where
 keep:=λb u q _ _ _=>k b u q
 slot:=λb u q _ _ _=>⟨u.slots,k b u q⟩
 free:=λb u q n _=>by rw[af (aam (aai (Heap.lt_size q) hp))];exact n
 there:=λb u q _=>⟨u,k b u q⟩
 tups:=λb xs q=>by rw[af (ah q hn)];exact q
 frzs:=λb u xs q=>by rw[af (ah q hn)];exact q
 tbls:=λb ps q=>⟨#[],by rw[af (ah q hn),q];simp⟩
theorem Un.write (mu:Mut (H x)) (he:e=x∨H e=some (.own x)) (k:∀b u,b≠e→h.get? b=some u→h'.get? b=some u) (heo:∃u,h'.get? e=some u):Un fs ex H (upd H x o) h h':=by
 have hx:∀b,H b=none→b≠x:=λb n z=>by subst z;rw[n] at mu;exact mu
 have hb:∀b,H b=none→b≠e:=λb n z=>by
  subst z;rcases he with r | r
  ·exact hx b n r
  ·rw[n] at r;cases r
 have hm:∀b u,H b=some u→¬Mut (some u)→b≠x:=λb u q nm z=>by subst z;rw[q] at mu;exact nm mu
 refine ⟨λb u q n _ _=>k b u (hb b n) q,λb u q n _ _=>⟨u.slots,k b u (hb b n) q⟩,λb u q n _=>by rw[af (hx b n)];exact n,λb u q _=>?_,
  λb xs q=>by rw[af (hm b _ q λz=>z)];exact q,λb u xs q=>by rw[af (hm b _ q λz=>z)];exact q,λb ps q=>⟨#[],by rw[af (hm b _ q λz=>z),q];simp⟩⟩
 by_cases hbe:b=e
 ·subst hbe;exact heo
 ·exact ⟨u,k b u hbe q⟩
end
noncomputable def trk (h:Heap) (H:Hp):List Addr:=(aav h.objs.size).filter λa=>(H a).isSome
noncomputable def Ae (h:Heap) (H:Hp):Heap:=PySem.W.hideAll h (trk h H)
theorem Hx (h:Heap) (H:Hp):(Ae h H).objs.size=h.objs.size:=PySem.W.hideAll_size _ _
theorem Md {h:Heap} {H:Hp} {b:Addr} {o:Obj} (e:h.get? b=some o) (n:H b=none):(Ae h H).get? b=some o:=
 PySem.W.hideAll_get _ e λhm=>by
  have q:(H b).isSome=true:=(List.mem_filter.mp hm).2;rw[n] at q;simp at q
theorem P7 {h:Heap} {H:Hp} {b:Addr} {o:Obj} (e:(Ae h H).get? b=some o):h.get? b=some o∧H b=none:=by
 have e':h.get? b=some o:=PySem.W.of_hideAll (trk h H) e;refine ⟨e',?_⟩;cases q:H b with
 | none=>rfl
 | some x=>
  have hm:b∈trk h H:=List.mem_filter.mpr ⟨List.mem_range.mpr (Heap.lt_size e'),by simp[q]⟩;have z:(Ae h H).get? b=none:=PySem.W.hideAll_none (trk h H) hm;rw[z] at e;cases e
noncomputable def Pt (g h:Heap) (L:Addr):List (Addr×Obj):=(aav h.objs.size).filterMap λa=>if a=L∨(g.get? a).isSome=true then none else (h.get? a).map λo=>(a,o)
noncomputable def rest (g h:Heap) (L d:Addr):List (Addr×Obj):=(Pt g h L).filter λp=>decide (p.1≠d)
structure Mod (K:PySem.W.Frag) (mg:Str→Option Value) (base:Heap):Prop where
 kin:K.In base
 glob:base.Ns mainGlobals mg
 blt:∃mb,base.Ns builtinsNs mb∧∀x:Str,x≠"__name__"→mb x=bootBuiltins x
 nolimit:base.NoLimit
structure Cx where
 prog:Program
 w:World
 K:PySem.W.Frag
 mg:Str→Option Value
 base:Heap
 A:Around
 N:List Str
 s₀:Shared
 H₀:Hp
 env:Env
 outer:List Env
 stack:List Env
 ex:List Addr
 fn:Str→Bool
 calm:Bool
 pn:List (Addr×Obj)
 xe:Value→Shared→Prop
noncomputable def frs (l:List Env):List Addr:=l.filterMap (·.frame)
noncomputable abbrev Cx.fs (X:Cx):List Addr:=frs X.outer
def Vis (sc:Scope) (x:Str):Prop:=sc.names.lookup x=some .local∨sc.names.lookup x=some .cell∨sc.names.lookup x=some .free
def Loc (sc:Scope) (x:Str):Prop:=sc.names.lookup x=some .local∨sc.names.lookup x=some .cell
def Look (env:Env) (h:Heap) (m:Str→Option Value) (x:Str) (u:Value):Prop:=
 (env.kindOf x=some .local∧m x=some u)∨((env.kindOf x=some .cell∨env.kindOf x=some .free)∧∃c,env.cells.lookup x=some c∧h.IsCell c (some u))
structure Cx.Ok (X:Cx):Prop where
 mod:Mod X.K X.mg X.base
 kind:X.env.scope.kind=.function
 glob:X.env.globals=mainGlobals
 blt:X.env.builtins=builtinsNs
 above:X.s₀.heap.objs.size≤X.env.locals
 inj:∀x y c,X.env.cells.lookup x=some c→X.env.cells.lookup y=some c→x=y
 has:∀x,(X.env.kindOf x=some .cell∨X.env.kindOf x=some .free)→∃c,X.env.cells.lookup x=some c
 cab:∀x c,X.fn x=true→X.env.cells.lookup x=some c→X.s₀.heap.objs.size≤c
 hd:X.calm=true→X.A.handled=none
 frames:X.A.frames=some X.stack
 stk:X.stack=X.outer∨(X.stack=X.env::X.outer∧X.env.frame=some X.env.locals)
 exf:∀b∈X.ex,b≠X.env.locals∧∀x c,X.env.cells.lookup x=some c→c≠b
 bs:∀b o,X.base.get? b=some o→X.s₀.heap.get? b=some o∧X.H₀ b=none
 bsz:X.base.objs.size≤X.s₀.heap.objs.size
 noex:∀b o,X.base.get? b=some o→b∉X.ex
 exfs:∀b∈X.ex,b∉X.fs
 ql:X.s₀.heap.FunFrames X.base X.outer
 frf:∀b∈X.fs,X.H₀ b=none
structure Inv (X:Cx) (pins:List (Addr×Obj)) (σ:List (Option V)) (H:Hp) (s:Shared):Prop where
 ok:X.Ok
 os:s.os=X.s₀.os
 bare:AllBare s.gens
 base:Un X.fs X.ex X.H₀ H X.s₀.heap s.heap
 loc:∃m,s.heap.Ns X.env.locals m∧∀(i:Nat) (x:Str) (v:V),X.N[i]?=some x→σ[i]?=some (some v)→Vis X.env.scope x→∃u,RelV v u∧Look X.env s.heap m x u
 cell:∀x c,X.env.cells.lookup x=some c→∃v,s.heap.IsCell c v
 free:H X.env.locals=none
 freeC:∀x c,X.env.cells.lookup x=some c→H c=none
 pin:∀p∈X.pn++pins,s.heap.get? p.1=some p.2∧H p.1=none∧p.1≠X.env.locals∧p.1∉X.fs∧∀v,p.2.data≠.cell v
 hok:HOk X.prog X.w H s.heap
 len:σ.length=X.N.length
section
variable {X:Cx} {pins:List (Addr×Obj)} {σ:List (Option V)} {H H':Hp} {s:Shared} {h':Heap}
theorem Cx.Ok.nofr (ok:X.Ok) {b:Addr} {o:Obj} (e:X.base.get? b=some o):b∉X.fs:=λhb=>by
 have:=(ok.ql.mem hb).1;rw[e] at this;cases this
theorem Inv.bs (I:Inv X pins σ H s):∀b o,X.base.get? b=some o→s.heap.get? b=some o∧H b=none:=λb o e=>
 ⟨I.base.keep b o (I.ok.bs b o e).1 (I.ok.bs b o e).2 (I.ok.nofr e) (I.ok.noex b o e),I.base.free b o (I.ok.bs b o e).1 (I.ok.bs b o e).2 (I.ok.noex b o e)⟩
theorem Inv.bk (I:Inv X pins σ H s):∀b o,X.base.get? b=some o→s.heap.get? b=some o:=λb o e=>(I.bs b o e).1
theorem Inv.mod (I:Inv X pins σ H s):Mod X.K X.mg X.base:=I.ok.mod
theorem Inv.kIn (I:Inv X pins σ H s):X.K.In s.heap:=I.ok.mod.kin.keeps I.bk
theorem Inv.lt (I:Inv X pins σ H s):X.env.locals < s.heap.objs.size:=let ⟨_,hn,_⟩:=I.loc;hn.lt
theorem Inv.sz (I:Inv X pins σ H s):X.s₀.heap.objs.size≤s.heap.objs.size:=aar I.ok.above (abu I.lt)
theorem Inv.nofs (I:Inv X pins σ H s) {a:Addr} (h:s.heap.objs.size≤a):a∉X.fs:=λhb=>by
 obtain ⟨_,o,ho,_⟩:=I.ok.ql.mem hb;exact absurd (aai (Heap.lt_size ho) (aar I.sz h)) (abc _)
theorem Inv.cne (I:Inv X pins σ H s):∀x c,X.env.cells.lookup x=some c→c≠X.env.locals:=λx c e z=>by
 obtain ⟨v,o,ho,hd⟩:=I.cell x c e;obtain ⟨m,⟨o',es,ep,ho',hd',_⟩,_⟩:=I.loc;rw[z,ho'] at ho;cases ho;rw[hd'] at hd;cases hd
theorem Inv.ql (I:Inv X pins σ H s):s.heap.FunFrames X.base X.outer:=by
 have all:∀(l:List Env),(∀b∈frs l,b∈X.fs)→X.s₀.heap.FunFrames X.base l→s.heap.FunFrames X.base l:=by
  intro l;induction l with
  | nil=>intro _ _;trivial
  | cons env r ih=>
   intro hs hl;obtain ⟨hk,⟨L,o,hf,hn,ho,hd⟩,hr⟩:=hl;have hL:L∈X.fs:=hs L (by unfold frs;rw[abh,hf];exact aa9);obtain ⟨sl,e⟩:=I.base.slot L o ho (I.ok.frf L hL) hL λz=>I.ok.exfs L z hL;exact ⟨hk,⟨L,_,hf,hn,e,hd⟩,ih (λb hb=>hs b (by unfold frs;rw[abh,hf];exact aaa _ hb)) hr⟩
 exact all X.outer (λ_ hb=>hb) I.ok.ql
theorem Inv.stack (I:Inv X pins σ H s):s.heap.FunFrames X.base X.stack:=by
 rcases I.ok.stk with e | ⟨e,hf⟩
 ·rw[e];exact I.ql
 ·rw[e];obtain ⟨m,hn,_⟩:=I.loc;refine .cons (by rw[I.ok.kind];decide) hf hn ?_ I.ql;exact Heap.get?_none_of_le (aar I.ok.bsz I.ok.above)
theorem Inv.Dm (I:Inv X pins σ H s):∀b∈frs X.stack,b∈X.env.locals::X.fs:=λb hb=>by
 rcases I.ok.stk with e | ⟨e,hf⟩
 ·rw[e] at hb;exact aaa _ hb
 ·rw[e] at hb;unfold frs at hb;rw[abh,hf] at hb;exact hb
theorem Inv.Au (I:Inv X pins σ H s):∀b∈frs X.stack,H b=none:=λb hb=>by
 rcases List.mem_cons.mp (I.Dm b hb) with e | hb
 ·rw[e];exact I.free
 ·obtain ⟨_,o,ho,_⟩:=I.ok.ql.mem hb;exact I.base.free b o ho (I.ok.frf b hb) λz=>I.ok.exfs b z hb
theorem Inv.step {g':Array GenState} {t':Nat} {d':Drawn} {ch:List Addr} (I:Inv X pins σ H s)
  (hch:∀b∈ch,(b∈X.ex∨X.s₀.heap.objs.size≤b)∧b≠X.env.locals∧(∀x c,X.env.cells.lookup x=some c→c≠b)∧∀p∈X.pn++pins,p.1≠b)
  (keep:∀b o,b≠X.env.locals→b∉X.fs→b∉ch→s.heap.get? b=some o→H b=none→h'.get? b=some o)
  (slot:∀b o,b≠X.env.locals→b∈X.fs→b∉ch→s.heap.get? b=some o→H b=none→∃sl,h'.get? b=some { o with slots:=sl }) (free:∀b o,b∉ch→s.heap.get? b=some o→H b=none→H' b=none)
  (there:∀b o,b∉ch→s.heap.get? b=some o→∃o',h'.get? b=some o')
  (tups:∀b xs,H b=some (.tup xs)→H' b=some (.tup xs)) (frzs:∀b o u,H b=some (.frz o u)→H' b=some (.frz o u)) (tbls:∀b ps,H b=some (.tbl ps)→∃more,H' b=some (.tbl (ps++more)))
  (ns:∀m,s.heap.Ns X.env.locals m→h'.Ns X.env.locals m) (hok:HOk X.prog X.w H' h') (hg:AllBare g'):
  Inv X pins σ H' { s with heap:=h',gens:=g',drawn:=d',toks:=t' }:=by
 have neL:∀b o,X.s₀.heap.get? b=some o→b≠X.env.locals:=λb o e=>aam (aai (Heap.lt_size e) I.ok.above);have neC:∀b o,X.s₀.heap.get? b=some o→b∉X.ex→b∉ch:=λb o e hx hb=>by
  rcases (hch b hb).1 with z | z
  ·exact hx z
  ·exact absurd (aai (Heap.lt_size e) z) (abc _)
 have cellK:∀x c,X.env.cells.lookup x=some c→∀v,s.heap.IsCell c v→h'.IsCell c v:=λx c e v ⟨o,ho,hd⟩=>by
  have nch:c∉ch:=λz=>(hch c z).2.2.1 x c e rfl;by_cases hc:c∈X.fs
  ·obtain ⟨sl,q⟩:=slot c o (I.cne x c e) hc nch ho (I.freeC x c e);exact ⟨_,q,hd⟩
  ·exact ⟨o,keep c o (I.cne x c e) hc nch ho (I.freeC x c e),hd⟩
 refine ⟨I.ok,I.os,hg,⟨λb o e n hb hx=>?_,λb o e n hb hx=>?_,λb o e n hx=>?_,λb o e hx=>?_,λb xs e=>tups b xs (I.base.tups b xs e),λb o xs e=>frzs b o xs (I.base.frzs b o xs e),λb ps e=>?_⟩,?_,λx c e=>?_,?_,λx c e=>?_,λp hp=>?_,hok,I.len⟩
 ·exact keep b o (neL b o e) hb (neC b o e hx) (I.base.keep b o e n hb hx) (I.base.free b o e n hx)
 ·obtain ⟨sl,e1⟩:=I.base.slot b o e n hb hx;obtain ⟨sl',e2⟩:=slot b _ (neL b o e) hb (neC b o e hx) e1 (I.base.free b o e n hx);exact ⟨sl',e2⟩
 ·obtain ⟨o',e1⟩:=I.base.there b o e hx;exact free b o' (neC b o e hx) e1 (I.base.free b o e n hx)
 ·obtain ⟨o',e1⟩:=I.base.there b o e hx;exact there b o' (neC b o e hx) e1
 ·obtain ⟨m1,e1⟩:=I.base.tbls b ps e;obtain ⟨m2,e2⟩:=tbls b _ e1;exact ⟨m1++m2,by rw[e2,Array.append_assoc]⟩
 ·obtain ⟨m,hn,hl⟩:=I.loc;refine ⟨m,ns m hn,λi x v e1 e2 e3=>?_⟩;obtain ⟨u,r,l⟩:=hl i x v e1 e2 e3;refine ⟨u,r,?_⟩;rcases l with l | ⟨k,c,e,z⟩
  ·exact .inl l
  ·exact .inr ⟨k,c,e,cellK x c e _ z⟩
 ·obtain ⟨v,z⟩:=I.cell x c e;exact ⟨v,cellK x c e v z⟩
 ·obtain ⟨m,⟨o,_,_,ho,_⟩,_⟩:=I.loc;exact free _ o (λz=>(hch _ z).2.1 rfl) ho I.free
 ·obtain ⟨v,o,ho,hd⟩:=I.cell x c e;exact free c o (λz=>(hch c z).2.2.1 x c e rfl) ho (I.freeC x c e)
 ·obtain ⟨e,n,ne,nf,d⟩:=I.pin p hp;have nch:p.1∉ch:=λz=>(hch p.1 z).2.2.2 p hp rfl;exact ⟨keep p.1 p.2 ne nf nch e n,free p.1 p.2 nch e n,ne,nf,d⟩
theorem Inv.un {t':Nat} (I:Inv X pins σ H s) (u:Un X.fs [] H H' s.heap h') (hok:HOk X.prog X.w H' h'):Inv X pins σ H' { s with heap:=h',toks:=t' }:=by
 obtain ⟨m,⟨o,es,ep,ho,r⟩,_⟩:=id I.loc;obtain ⟨sl,hL⟩:=u.any ho I.free (by simp);exact I.step (g':=s.gens) (d':=s.drawn) (ch:=[]) (λ_ z=>nomatch z) (λb o _ hb _ e n=>u.keep b o e n hb (by simp)) (λb o _ hb _ e n=>u.slot b o e n hb (by simp)) (λb o _ e n=>u.free b o e n (by simp)) (λb o _ e=>u.there b o e (by simp)) u.tups u.frzs u.tbls (λm' hm=>by
  obtain ⟨o',es',ep',ho',r'⟩:=hm;rw[ho] at ho';cases ho';exact ⟨_,es',ep',hL,r'⟩) hok I.bare
theorem Inv.call {g':Array GenState} {t':Nat} {d':Drawn} {ch:List Addr} (I:Inv X pins σ H s) (u:Un (frs X.stack) ch H H' s.heap h') (hok:HOk X.prog X.w H' h') (hg:AllBare g')
  (hch:∀b∈ch,(b∈X.ex∨X.s₀.heap.objs.size≤b)∧b≠X.env.locals∧(∀x c,X.env.cells.lookup x=some c→c≠b)∧∀p∈X.pn++pins,p.1≠b):
  Inv X pins σ H' { s with heap:=h',gens:=g',drawn:=d',toks:=t' }:=by
 obtain ⟨m,⟨o,es,ep,ho,r⟩,_⟩:=id I.loc;obtain ⟨sl,hL⟩:=u.any ho I.free λz=>(hch _ z).2.1 rfl;exact I.step (ch:=ch) hch (λb o hL hb hc e n=>u.keep b o e n (λz=>(List.mem_cons.mp (I.Dm b z)).elim hL hb) hc) (λb o _ _ hc e n=>u.any e n hc) (λb o hc e n=>u.free b o e n hc) (λb o hc e=>u.there b o e hc) u.tups u.frzs u.tbls (λm' hm=>by
  obtain ⟨o',es',ep',ho',r'⟩:=hm;rw[ho] at ho';cases ho';exact ⟨_,es',ep',hL,r'⟩) hok hg
theorem Inv.turned {t':Nat} {it:Addr} (I:Inv X pins σ H s) (k:∀b o,b≠it→s.heap.get? b=some o→h'.get? b=some o) (hn:H it=none) (hL:it≠X.env.locals)
  (h1:it∈X.ex∨X.s₀.heap.objs.size≤it) (h2:∀x c,X.env.cells.lookup x=some c→c≠it) (h3:∀p∈X.pn++pins,p.1≠it):Inv X pins σ H { s with heap:=h',toks:=t' }:=by
 have nit:∀b u,H b=some u→b≠it:=λb u e z=>by rw[z,hn] at e;cases e
 refine I.step (g':=s.gens) (d':=s.drawn) (ch:=[it]) (λb hb=>?_) (λb o _ _ hc e _=>k b o (λz=>hc (by simp[z])) e) (λb o _ _ hc e _=>⟨o.slots,k b o (λz=>hc (by simp[z])) e⟩) (λ_ _ _ _ n=>n)
  (λb o hc e=>⟨o,k b o (λz=>hc (by simp[z])) e⟩) (λ_ _ e=>e) (λ_ _ _ e=>e) (λb ps e=>⟨#[],by rw[e];simp⟩) (λm hm=>?_) (λb u e=>?_) I.bare
 ·have e:b=it:=by simpa using hb
  subst e;exact ⟨h1,hL,h2,h3⟩
 ·obtain ⟨o,es,ep,ho,r⟩:=hm;exact ⟨o,es,ep,k _ o (Ne.symm hL) ho,r⟩
 ·refine (I.hok b u e).se (λc v hc q=>k c v ?_ q) (λ_ q=>q) λ_ _ q=>q;rcases hc with z | z
  ·rw[z];exact nit b u e
  ·exact nit c _ z
theorem Inv.tok (I:Inv X pins σ H s) (t:Nat):Inv X pins σ H { s with toks:=t }:=I.un (h':=s.heap) (t':=t) Un.refl I.hok
theorem Inv.kept {t':Nat} (I:Inv X pins σ H s) (k:∀b u,s.heap.get? b=some u→h'.get? b=some u):Inv X pins σ H { s with heap:=h',toks:=t' }:=I.un (Un.kept k) (I.hok.kept k)
theorem Inv.laid {a:Addr} {o:HO} {t':Nat} (I:Inv X pins σ H s) (k:∀b u,s.heap.get? b=some u→h'.get? b=some u) (hp:s.heap.objs.size≤a) (new:bp X.prog X.w (upd H a o) h' a o):
  Inv X pins σ (upd H a o) { s with heap:=h',toks:=t' }:=I.un (Un.laid k hp (I.hok.fresh hp)) (I.hok.laid k hp new)
theorem Inv.write {x e:Addr} {o:HO} {t':Nat} (I:Inv X pins σ H s) (mu:Mut (H x)) (he:e=x∨H e=some (.own x)) (k:∀b u,b≠e→s.heap.get? b=some u→h'.get? b=some u) (heo:∃u,h'.get? e=some u)
  (new:bp X.prog X.w (upd H x o) h' x o):Inv X pins σ (upd H x o) { s with heap:=h',toks:=t' }:=I.un (Un.write mu he k heo) (I.hok.write mu he k heo new)
theorem Inv.weak {σ':List (Option V)} (I:Inv X pins σ H s) (hl:σ'.length=σ.length) (w:∀(i:Nat) v,σ'[i]?=some (some v)→σ[i]?=some (some v)):Inv X pins σ' H s:=
 ⟨I.ok,I.os,I.bare,I.base,let ⟨m,hn,hl'⟩:=I.loc;⟨m,hn,λi x v e1 e2 e3=>hl' i x v e1 (w i v e2) e3⟩,I.cell,I.free,I.freeC,I.pin,I.hok,hl.trans I.len⟩
theorem Inv.G5 {pins':List (Addr×Obj)} (I:Inv X pins σ H s) (h:∀p∈pins',s.heap.get? p.1=some p.2∧H p.1=none∧p.1≠X.env.locals∧p.1∉X.fs∧∀v,p.2.data≠.cell v):Inv X pins' σ H s:=
 ⟨I.ok,I.os,I.bare,I.base,I.loc,I.cell,I.free,I.freeC,λp hp=>(List.mem_append.mp hp).elim (λz=>I.pin p (ac6 _ z)) (h p),I.hok,I.len⟩
theorem vx {N:List Str} (hN:N.Nodup) {i j:Nat} {x:Str} (a:N[i]?=some x) (b:N[j]?=some x):i=j:=by
 obtain ⟨h1,e1⟩:=List.getElem?_eq_some_iff.mp a;obtain ⟨h2,e2⟩:=List.getElem?_eq_some_iff.mp b;exact (ad8 hN).mp (e1.trans e2.symm)
theorem yj {M:Model} {A:Around} {E:Value→Shared→Prop} {i:Nat} {x:Str} {v:V} {u:Value} {Q:Unit→Shared→Prop} (I:Inv X pins σ H s) (hN:X.N.Nodup) (hi:X.N[i]?=some x) (hx:Loc X.env.scope x) (r:RelV v u)
  (h:∀s',Inv X pins (σ.set i (some v)) H s'→(∃a,Heap.SameBut a s.heap s'.heap∧(a=X.env.locals∨X.env.cells.lookup x=some a))→Q () s') (hf:X.fn x=true∨X.env.scope.names.lookup x=some .local:=by first | exact .inl rfl | exact .inr rfl | assumption):wpAny M A (storeName X.env x u) Q E s:=by
 obtain ⟨m,hn,hl⟩:=id I.loc;have hcls:(X.env.scope.kind==.class||(X.env.scope.kind==.module&&X.env.locals !=X.env.globals))=false:=by rw[I.ok.kind];rfl
 have hiσ:i < σ.length:=by rw[I.len];exact (List.getElem?_eq_some_iff.mp hi).1
 have cne:=I.cne;have tracked:∀{a:Addr} {h':Heap},(∃o,s.heap.get? a=some o∧H a=none)→Heap.SameBut a s.heap h'→HOk X.prog X.w H h':=λ{a h'} ha hs b ob e=>by
  obtain ⟨_,_,hfree⟩:=ha;refine (I.hok b ob e).se (λc w' hc q=>(hs.2 c ?_).trans q) (λ_ q=>q) λ_ _ q=>q;rintro rfl;rcases hc with rfl | hc
  ·rw[hfree] at e;cases e
  ·rw[hfree] at hc;cases hc
 rcases hx with hk | hk
 ·refine wpAny_storeName_local hk hn (λh' hn' hs=>?_) hcls;obtain ⟨oL,_,_,hoL,_⟩:=id hn;refine h _ ⟨I.ok,I.os,I.bare,⟨λb o e n hb hx=>?_,λb o e n hb hx=>?_,I.base.free,λb o e hx=>?_,I.base.tups,I.base.frzs,I.base.tbls⟩,⟨_,hn',λj y v' e1 e2 e3=>?_⟩,λy c e=>?_,I.free,I.freeC,λp hp=>?_,tracked ⟨oL,hoL,I.free⟩ hs,by simpa using I.len⟩ ⟨_,hs,.inl rfl⟩
  ·exact (hs.2 b (aam (aai (Heap.lt_size e) I.ok.above))).trans (I.base.keep b o e n hb hx)
  ·obtain ⟨sl,e1⟩:=I.base.slot b o e n hb hx;exact ⟨sl,(hs.2 b (aam (aai (Heap.lt_size e) I.ok.above))).trans e1⟩
  ·obtain ⟨o',e1⟩:=I.base.there b o e hx;exact ⟨o',(hs.2 b (aam (aai (Heap.lt_size e) I.ok.above))).trans e1⟩
  ·by_cases hj:j=i
   ·subst hj;rw[hi] at e1;cases e1;rw[ad4 hiσ] at e2;cases e2
    exact ⟨u,r,.inl ⟨hk,by simp⟩⟩
   ·rw[ade (Ne.symm hj)] at e2;obtain ⟨u',r',q⟩:=hl j y v' e1 e2 e3;refine ⟨u',r',?_⟩;rcases q with ⟨k,e⟩ | ⟨k,c,e,z⟩
    ·refine .inl ⟨k,?_⟩;have:y≠x:=λe=>hj (vx hN e1 (e ▸ hi));simp[this,e]
    ·exact .inr ⟨k,c,e,z.sameBut hs (cne y c e)⟩
  ·obtain ⟨w',z⟩:=I.cell y c e;exact ⟨w',z.sameBut hs (cne y c e)⟩
  ·obtain ⟨e,n,ne,nf,d⟩:=I.pin p hp;exact ⟨(hs.2 p.1 ne).trans e,n,ne,nf,d⟩
 ·have hfn:X.fn x=true:=by
   rcases hf with z | z
   ·exact z
   ·rw[z] at hk;cases hk
  obtain ⟨c,hc⟩:=I.ok.has x (.inl hk);obtain ⟨w',z⟩:=I.cell x c hc;refine wpAny_storeName_cell I.ok.kind hk hc z (λh' hc' hs=>?_);obtain ⟨oc,hoc,hocd⟩:=id z;refine h { s with heap:=h' } ⟨I.ok,I.os,I.bare,⟨λb o e n hb hx=>?_,λb o e n hb hx=>?_,I.base.free,λb o e hx=>?_,I.base.tups,I.base.frzs,I.base.tbls⟩,⟨m,hn.sameBut hs (Ne.symm (cne x c hc)),λj y v' e1 e2 e3=>?_⟩,λy c' e=>?_,I.free,I.freeC,λp hp=>?_,tracked ⟨oc,hoc,I.freeC x c hc⟩ hs,by simpa using I.len⟩ ⟨c,hs,.inr hc⟩
  ·exact (hs.2 b (aam (aai (Heap.lt_size e) (I.ok.cab x c hfn hc)))).trans (I.base.keep b o e n hb hx)
  ·obtain ⟨sl,e1⟩:=I.base.slot b o e n hb hx;exact ⟨sl,(hs.2 b (aam (aai (Heap.lt_size e) (I.ok.cab x c hfn hc)))).trans e1⟩
  ·obtain ⟨o',e1⟩:=I.base.there b o e hx;exact ⟨o',(hs.2 b (aam (aai (Heap.lt_size e) (I.ok.cab x c hfn hc)))).trans e1⟩
  ·by_cases hj:j=i
   ·subst hj;rw[hi] at e1;cases e1;rw[ad4 hiσ] at e2;cases e2
    exact ⟨u,r,.inr ⟨.inl hk,c,hc,hc'⟩⟩
   ·rw[ade (Ne.symm hj)] at e2;obtain ⟨u',r',q⟩:=hl j y v' e1 e2 e3;refine ⟨u',r',?_⟩;rcases q with q | ⟨k,c',e,z'⟩
    ·exact .inl q
    ·refine .inr ⟨k,c',e,z'.sameBut hs ?_⟩;rintro rfl;exact hj (vx hN e1 (I.ok.inj _ _ _ e hc ▸ hi))
  ·by_cases hcc:c'=c
   ·subst hcc;exact ⟨_,hc'⟩
   ·obtain ⟨w2,z2⟩:=I.cell y c' e;exact ⟨w2,z2.sameBut hs hcc⟩
  ·obtain ⟨e,n,ne,nf,d⟩:=I.pin p hp;refine ⟨(hs.2 p.1 ?_).trans e,n,ne,nf,d⟩;intro q;rw[q,hoc] at e;have q':oc=p.2:=aa3 e;exact d w' (by rw[←q'];exact hocd)
theorem ve {M:Model} {A:Around} {E:Value→Shared→Prop} {i:Nat} {x:Str} {v:V} {u:Value} {Q:Unit→Shared→Prop} (I:Inv X pins σ H s) (hN:X.N.Nodup) (hi:X.N[i]?=some x) (hx:Loc X.env.scope x) (r:RelV v u)
  (h:∀s',Inv X pins (σ.set i (some v)) H s'→Q () s') (hf:X.fn x=true∨X.env.scope.names.lookup x=some .local:=by first | exact .inl rfl | exact .inr rfl | assumption):wpAny M A (storeName X.env x u) Q E s:=
 yj I hN hi hx r (λs' I' _=>h s' I') hf
theorem Inv.Kb {s':Shared} {ch:List Addr} (I:Inv X pins σ H s) (ho:s'.os=s.os) (u:Un (frs X.stack) ch H H' s.heap s'.heap) (hok:HOk X.prog X.w H' s'.heap) (hg:AllBare s'.gens)
  (hch:∀b∈ch,(b∈X.ex∨X.s₀.heap.objs.size≤b)∧b≠X.env.locals∧(∀x c,X.env.cells.lookup x=some c→c≠b)∧∀p∈X.pn++pins,p.1≠b):Inv X pins σ H' s':=by
 obtain ⟨h',g',d',t',o'⟩:=s';have e:o'=s.os:=ho;subst e;exact I.call (g':=g') (t':=t') (d':=d') u hok hg hch
end
abbrev XK:=Value→Option Addr→Hp→Prop
abbrev St:=List (Option V)
abbrev VK:=V→Hp→Prop
abbrev TE:=St→Hp→VK→Prop
abbrev TT:=St→Hp→(Bool→Hp→Prop)→Prop
abbrev TA:=St→Hp→(List V→Hp→Prop)→Prop
structure Ends where
 nx:St→Hp→Prop
 rt:VK
 bk:St→Hp→Prop:=λ_ _=>False
 ct:St→Hp→Prop:=λ_ _=>False
abbrev TS:=Ends→St→Hp→Prop
def EP (X:Cx) (pins:List (Addr×Obj)) (σ:St) (Q:VK) (u:Value) (s':Shared):Prop:=∃v H',Inv X pins σ H' s'∧RelV v u∧Q v H'
def TP (X:Cx) (pins:List (Addr×Obj)) (σ:St) (Q:Bool→Hp→Prop) (b:Bool) (s':Shared):Prop:=∃H',Inv X pins σ H' s'∧Q b H'
def AP (X:Cx) (pins:List (Addr×Obj)) (σ:St) (Q:List V→Hp→Prop) (us:List Value) (s':Shared):Prop:=∃vs H',Inv X pins σ H' s'∧Vals vs us∧Q vs H'
def SP (X:Cx) (pins:List (Addr×Obj)) (D:Ends) (f:Flow) (s':Shared):Prop:=
 match f with
 | .next=>∃σ' H',Inv X pins σ' H' s'∧D.nx σ' H'
 | .brk=>∃σ' H',Inv X pins σ' H' s'∧D.bk σ' H'
 | .cont=>∃σ' H',Inv X pins σ' H' s'∧D.ct σ' H'
 | .ret u=>∃v σ' H',Inv X pins σ' H' s'∧RelV v u∧D.rt v H'
def PE (X:Cx) (e:Expr) (t:TE):Prop:=
 ∀(pins:List (Addr×Obj)) (s:Shared) (σ:St) (H:Hp) (Q:VK),Inv X pins σ H s→t σ H Q→wpAny (model X.prog X.w) X.A (eval e X.env) (EP X pins σ Q) X.xe s
def PT (X:Cx) (e:Expr) (t:TT):Prop:=
 ∀(pins:List (Addr×Obj)) (s:Shared) (σ:St) (H:Hp) (Q:Bool→Hp→Prop),Inv X pins σ H s→t σ H Q→wpAny (model X.prog X.w) X.A (isTrue e X.env (eval e X.env)) (TP X pins σ Q) X.xe s
def PW (X:Cx) (e:Expr) (t:TT):Prop:=
 ∀(whole:Sem Value) (pins:List (Addr×Obj)) (s:Shared) (σ:St) (H:Hp) (Q:Bool→Hp→Prop),Inv X pins σ H s→t σ H Q→wpAny (model X.prog X.w) X.A (isTrue e X.env whole) (TP X pins σ Q) X.xe s
theorem PW.pt {X:Cx} {e:Expr} {t:TT} (h:PW X e t):PT X e t:=h _
def PA (X:Cx) (es:List Expr) (t:TA):Prop:=
 ∀(pos:Pos) (pins:List (Addr×Obj)) (s:Shared) (σ:St) (H:Hp) (Q:List V→Hp→Prop),Inv X pins σ H s→t σ H Q→wpAny (model X.prog X.w) X.A (spliced (backTo pos (starEach es X.env))) (AP X pins σ Q) X.xe s
def PS (X:Cx) (st:Stmt) (t:TS):Prop:=
 ∀(pins:List (Addr×Obj)) (s:Shared) (σ:St) (H:Hp) (D:Ends),Inv X pins σ H s→t D σ H→wpAny (model X.prog X.w) X.A (exec st X.env) (SP X pins D) X.xe s
def PSs (X:Cx) (st:List Stmt) (t:TS):Prop:=
 ∀(pins:List (Addr×Obj)) (s:Shared) (σ:St) (H:Hp) (D:Ends),Inv X pins σ H s→t D σ H→wpAny (model X.prog X.w) X.A (execs st X.env) (SP X pins D) X.xe s
theorem thn {α:Type} {t:Sem α} {Q Q':α→Shared→Prop} {M:Model} {A:Around} {E:Value→Shared→Prop} {s:Shared} (h:wpAny M A t Q E s) (hQ:∀a s,Q a s→Q' a s):wpAny M A t Q' E s:=wpAny_mono h hQ λ_ _ x=>x
section
variable {X:Cx}
def tVar (i:Nat):TE:=λσ H Q=>∃v,σ[i]?=some (some v)∧Q v H
def tC (v:V):TE:=λ_ H Q=>Q v H
theorem pe_var {i:Nat} {x:Str} {pos:Pos} (hN:X.N[i]?=some x) (hv:Vis X.env.scope x) (hd:(x==("__debug__":Str))=false:=by decide) (hcd:(x==("__classdict__":Str))=false:=by decide):PE X (.Name x pos) (tVar i):=by
 intro pins s σ H Q I h;obtain ⟨v,e,h⟩:=h;obtain ⟨m,hn,hl⟩:=I.loc;obtain ⟨u,r,l⟩:=hl i x v hN e hv;have fin:EP X pins σ Q u s:=⟨v,H,I,r,h⟩;rcases l with ⟨hk,hm⟩ | ⟨hk,c,hc,hcell⟩
 ·exact wpAny_Name (wpAny_loadName_local I.ok.kind hk hn hm fin) hd
 ·rcases hk with hk | hk
  ·exact wpAny_Name (wpAny_loadName_cell I.ok.kind hk hc hcell fin) hd
  ·exact wpAny_Name (wpAny_loadName_free I.ok.kind hk hc hcell fin hcd) hd
theorem Mz {i j pos}:PE X (.Constant (.int i) j pos) (tC (.int i)):=λ_ _ _ H _ I h=>wpAny_Constant_int ⟨.int i,H,I.tok _,⟨_,rfl⟩,h⟩
theorem pe_bl {b j pos}:PE X (.Constant (.bool b) j pos) (tC (.bl b)):=λ_ _ _ H _ I h=>Constant_bool ⟨.bl b,H,I,rfl,h⟩
theorem vq {j pos}:PE X (.Constant .none j pos) (tC .non):=λ_ _ _ H _ I h=>Constant_none ⟨.non,H,I,rfl,h⟩
theorem K7 {x j pos}:PE X (.Constant (.str x) j pos) (tC (.str x)):=λ_ _ _ H _ I h=>Calls.Constant_str ⟨.str x,H,I.tok _,⟨_,rfl⟩,h⟩
def Gl (X:Cx) (x:Str):Prop:=X.env.kindOf x=some .globalImplicit
theorem oz {E:Value→Shared→Prop} {pins:List (Addr×Obj)} {s:Shared} {σ:St} {H:Hp} {x:Str} {u:Value} {pos:Pos} {Q:Value→Shared→Prop} (I:Inv X pins σ H s) (hg:Gl X x) (hm:X.mg x=some u) (h:Q u s)
  (hd:(x==("__debug__":Str))=false:=by decide):wpAny (model X.prog X.w) X.A (eval (.Name x pos) X.env) Q E s:=
 Calls.Name_function_global I.ok.kind hg (Calls.loadGlobal_global (by rw[I.ok.glob];exact I.mod.glob.keeps I.bk) hm h) hd
theorem ir {E:Value→Shared→Prop} {pins:List (Addr×Obj)} {s:Shared} {σ:St} {H:Hp} {x:Str} {u:Value} {pos:Pos} {Q:Value→Shared→Prop} (I:Inv X pins σ H s) (hg:Gl X x) (hm:X.mg x=none) (hv:bootBuiltins x=some u) (h:Q u s)
  (hn:x≠"__name__":=by decide) (hd:(x==("__debug__":Str))=false:=by decide):wpAny (model X.prog X.w) X.A (eval (.Name x pos) X.env) Q E s:=by
 obtain ⟨mb,h1,h2⟩:=I.mod.blt;exact Calls.Name_function_global I.ok.kind hg (Calls.loadGlobal_builtin (by rw[I.ok.glob];exact I.mod.glob.keeps I.bk) hm (by rw[I.ok.blt];exact h1.keeps I.bk) ((h2 x hn).trans hv) h) hd
theorem O3 {x:Str} {v:V} {u:Value} {pos:Pos} (hg:Gl X x) (hm:X.mg x=some u) (r:RelV v u) (hd:(x==("__debug__":Str))=false:=by decide):PE X (.Name x pos) (tC v):=
 λ_ _ _ H _ I h=>oz I hg hm ⟨v,H,I,r,h⟩ hd
theorem Pa {x:Str} {v:V} {u:Value} {pos:Pos} (hg:Gl X x) (hm:X.mg x=none) (hv:bootBuiltins x=some u) (r:RelV v u) (hn:x≠"__name__":=by decide) (hd:(x==("__debug__":Str))=false:=by decide):PE X (.Name x pos) (tC v):=
 λ_ _ _ H _ I h=>ir I hg hm hv ⟨v,H,I,r,h⟩ hn hd
variable {a b:Expr} {ta tb:TE} {pos:Pos}
def PC (X:Cx) (op:CmpOp) (a b:Expr) (t:TE):Prop:=
 ∀(pins:List (Addr×Obj)) (s:Shared) (σ:St) (H:Hp) (Q:VK),Inv X pins σ H s→t σ H Q→
  wpAny (model X.prog X.w) X.A (eval a X.env) (λv s₁=>wpAny (model X.prog X.w) X.A (eval b X.env) (λu s₂=>wpAny (model X.prog X.w) X.A (compareOp op v u) (EP X pins σ Q) X.xe s₂) X.xe s₁) X.xe s
theorem cn (b:Expr) {op:CmpOp} (h:op≠.In) (h2:op≠.NotIn):behindInMarks op b=false:=by
 have e1:(op==CmpOp.In)=false:=by cases op <;> first | rfl | exact absurd rfl h
 have e2:(op==CmpOp.NotIn)=false:=by cases op <;> first | rfl | exact absurd rfl h2
 cases b <;> simp[behindInMarks,e1,e2]
def tIsN (ta:TE):TE:=λσ H Q=>ta σ H λx H1=>Q (.bl (decide (x=.non))) H1
def pe (ta:TE):TE:=λσ H Q=>ta σ H λx H1=>Q (.bl (!decide (x=.non))) H1
theorem RelV.Dg {x:V} {v:Value} (r:RelV x v):(v==Value.none)=decide (x=.non):=by
 cases x with
 | non=>cases r;rfl
 | bl _=>cases r;rfl
 | int _=>obtain ⟨t,rfl⟩:=r;rfl
 | str _=>obtain ⟨t,rfl⟩:=r;rfl
 | byt _=>obtain ⟨t,rfl⟩:=r;rfl
 | flt _=>obtain ⟨t,rfl⟩:=r;rfl
 | ref _=>cases r;rfl
 | ty _=>cases r;rfl
theorem pc_isN {j pos'} (ha:PE X a ta):PC X .Is a (.Constant .none j pos') (tIsN ta):=by
 intro pins s σ H Q I h;refine thn (ha pins s σ H _ I h) λv s1 ⟨x,H1,I1,r1,q1⟩=>?_;exact Constant_none (is_none_gen ⟨.bl _,H1,I1,by rw[r1.Dg];rfl,q1⟩)
theorem O2 {j pos'} (ha:PE X a ta):PC X .IsNot a (.Constant .none j pos') (pe ta):=by
 intro pins s σ H Q I h;refine thn (ha pins s σ H _ I h) λv s1 ⟨x,H1,I1,r1,q1⟩=>?_;exact Constant_none (isnot_none_gen ⟨.bl _,H1,I1,by rw[r1.Dg];rfl,q1⟩)
def tB (t:TE):TT:=λσ H Q=>t σ H λx H1=>∃c,x=.bl c∧Q c H1
theorem pt_cmp {op:CmpOp} {t:TE} (h:PC X op a b t) (h1:behindInMarks op b=false:=by first | exact cn _ (by decide) (by decide) | rfl):PT X (.Compare a [op] [b] pos) (tB t):=by
 intro pins s σ H Q I hw;refine wpAny_isTrue_Compare1 (thn (h pins s σ H _ I hw) λv s1 h1=>thn h1 λu s2 h2=>thn h2 λc s3 ⟨x,H1,I1,r1,q1⟩=>?_) h1;obtain ⟨d,rfl,q⟩:=q1;cases r1
 exact wpAny_truthy_bool ⟨H1,I1,q⟩
theorem pt_val {e:Expr} {t:TE} (h:PE X e t) (he:∀whole,isTrue e X.env whole=(do let v ←whole;standAt e.pos;holding [v] (truthy v)):=by intro _;rfl):PT X e (tB t):=by
 intro pins s σ H Q I hw;refine isTrue_plain (thn (h pins s σ H _ I hw) λv s1 ⟨x,H1,I1,r1,q1⟩=>?_) (he _);obtain ⟨d,rfl,q⟩:=q1;cases r1
 exact wpAny_truthy_bool ⟨H1,I1,q⟩
variable {tA tB':TT} {rest:List Expr}
def tAnd (t u:TT):TT:=λσ H Q=>t σ H λc H1=>if c=true then u σ H1 Q else Q false H1
def tOr (t u:TT):TT:=λσ H Q=>t σ H λc H1=>if c=true then Q true H1 else u σ H1 Q
def tNot (t:TT):TT:=λσ H Q=>t σ H λc H1=>Q (!c) H1
theorem Qo (ha:PT X a tA):PW X (.BoolOp .And [a] pos) tA:=by
 intro wh pins s σ H Q I h;refine isTrue_and (thn (ha pins s σ H Q I h) λc s1 e=>?_);cases c with
 | true=>exact isTrue_and_nil e
 | false=>exact e
theorem pw_or1 (ha:PT X a tA):PW X (.BoolOp .Or [a] pos) tA:=by
 intro wh pins s σ H Q I h;refine isTrue_or (thn (ha pins s σ H Q I h) λc s1 e=>?_);cases c with
 | false=>exact isTrue_or_nil e
 | true=>exact e
theorem pw_and (ha:PT X a tA) (hb:PW X (.BoolOp .And (b::rest) pos) tB'):PW X (.BoolOp .And (a::b::rest) pos) (tAnd tA tB'):=by
 intro wh pins s σ H Q I h;refine isTrue_and (thn (ha pins s σ H _ I h) λc s1 ⟨H1,I1,q1⟩=>?_);cases c with
 | true=>exact hb wh pins s1 σ H1 Q I1 q1
 | false=>exact ⟨H1,I1,q1⟩
theorem pw_or (ha:PT X a tA) (hb:PW X (.BoolOp .Or (b::rest) pos) tB'):PW X (.BoolOp .Or (a::b::rest) pos) (tOr tA tB'):=by
 intro wh pins s σ H Q I h;refine isTrue_or (thn (ha pins s σ H _ I h) λc s1 ⟨H1,I1,q1⟩=>?_);cases c with
 | true=>exact ⟨H1,I1,q1⟩
 | false=>exact hb wh pins s1 σ H1 Q I1 q1
theorem pt_not (ha:PT X a tA):PT X (.UnaryOp .Not a pos) (tNot tA):=by
 intro pins s σ H Q I h;exact isTrue_not (ha pins s σ H (λc H1=>Q (!c) H1) I h)
def tAndV (ta tb:TE):TE:=λσ H Q=>ta σ H λx H1=>∃c,x=.bl c∧if c=true then tb σ H1 Q else Q (.bl false) H1
def tOrV (ta tb:TE):TE:=λσ H Q=>ta σ H λx H1=>∃c,x=.bl c∧if c=true then Q (.bl true) H1 else tb σ H1 Q
def tNotV (ta:TE):TE:=λσ H Q=>ta σ H λx H1=>∃c,x=.bl c∧Q (.bl (!c)) H1
theorem pe_one {op} {t:TE} (h:PE X a t):PE X (.BoolOp op [a] pos) t:=λpins s σ H Q I hw=>BoolOp_one (h pins s σ H Q I hw)
theorem pe_and (ha:PE X a ta) (hb:PE X (.BoolOp .And (b::rest) pos) tb):PE X (.BoolOp .And (a::b::rest) pos) (tAndV ta tb):=by
 intro pins s σ H Q I h;refine BoolOp_and (thn (ha pins s σ H _ I h) λv s1 ⟨x,H1,I1,r1,q1⟩=>?_);obtain ⟨c,rfl,q1⟩:=q1;cases r1
 refine wpAny_truthy_bool ?_;cases c with
 | true=>exact hb pins s1 σ H1 Q I1 q1
 | false=>exact ⟨.bl false,H1,I1,rfl,q1⟩
theorem Dr (ha:PE X a ta):PE X (.UnaryOp .Not a pos) (tNotV ta):=by
 intro pins s σ H Q I h;refine UnaryOp_ (thn (ha pins s σ H _ I h) λv s1 ⟨x,H1,I1,r1,q1⟩=>?_);obtain ⟨c,rfl,q1⟩:=q1;cases r1
 exact not_of (wpAny_truthy_bool ⟨.bl (!c),H1,I1,rfl,q1⟩)
def tIf (t:TT) (ta tb:TE):TE:=λσ H Q=>t σ H λc H1=>if c=true then ta σ H1 Q else tb σ H1 Q
theorem Li {c:Expr} (hc:PT X c tA) (ha:PE X a ta) (hb:PE X b tb):PE X (.IfExp c a b pos) (tIf tA ta tb):=by
 intro pins s σ H Q I h;refine wpAny_IfExp (thn (hc pins s σ H _ I h) λd s1 ⟨H1,I1,q1⟩=>?_);cases d with
 | true=>exact ha pins s1 σ H1 Q I1 q1
 | false=>exact hb pins s1 σ H1 Q I1 q1
end
def SqL (K:PySem.W.Frag) (H:Hp) (a:Addr) (xs:List V):Prop:=
 Rd H a (.lst xs)∨
  ∃(o:Obj) (its:Array Value) (n:Nat),K.lookup a=some o∧o.cls=.type "list"∧o.dict=none∧o.data=.seq its n∧its.size≤sizeLine∧Vals xs its.toList
def SqT (K:PySem.W.Frag) (H:Hp) (a:Addr) (xs:List V):Prop:=
 Rd H a (.tup xs)∨
  ∃(o:Obj) (its:Array Value) (n:Nat),K.lookup a=some o∧o.cls=.type "tuple"∧o.data=.seq its n∧its.size≤sizeLine∧Vals xs its.toList
noncomputable def absV:Value→Option V
 | .none=>some .non
 | .bool b=>some (.bl b)
 | .int i _=>some (.int i)
 | .str x _=>some (.str x)
 | .bytes b _=>some (.byt b)
 | .float b _=>some (.flt b)
 | .ref a=>some (.ref a)
 | .type n=>some (.ty n)
 | _=>none
theorem RelV.abs {x:V} {u:Value} (r:RelV x u):absV u=some x:=by
 cases x with
 | non=>cases r;rfl
 | bl _=>cases r;rfl
 | int _=>obtain ⟨t,rfl⟩:=r;rfl
 | str _=>obtain ⟨t,rfl⟩:=r;rfl
 | byt _=>obtain ⟨t,rfl⟩:=r;rfl
 | flt _=>obtain ⟨t,rfl⟩:=r;rfl
 | ref _=>cases r;rfl
 | ty _=>cases r;rfl
theorem RelV.inj {x y:V} {u:Value} (r:RelV x u) (q:RelV y u):x=y:=aa3 (r.abs.symm.trans q.abs)
theorem Vals.inj:∀{xs ys:List V} {us:List Value},Vals xs us→Vals ys us→xs=ys
 | _,_,_,.nil,.nil=>rfl
 | _,_,_,.cons r t,.cons r' t'=>by rw[r.inj r',Vals.inj t t']
section
variable {X:Cx} {pins:List (Addr×Obj)} {σ:St} {H:Hp} {s:Shared} {a:Addr} {xs ys:List V}
theorem SqL.of {K:PySem.W.Frag} (h:H a=some (.lst xs)):SqL K H a xs:=.inl (.inl h)
theorem SqT.of {K:PySem.W.Frag} (h:H a=some (.tup xs)):SqT K H a xs:=.inl (.inl h)
theorem Inv.list (I:Inv X pins σ H s) (h:SqL X.K H a xs):∃its:List Value,Vals xs its∧PlainL s.heap a its.toArray∧xs.length≤sizeLine:=by
 rcases h with h | ⟨o,its,n,hk,hc,hd,hs,hz,r⟩
 ·obtain ⟨z,its,n,r,e⟩:=h.ok I.hok;exact ⟨its,r,⟨_,n,e,rfl,rfl,rfl⟩,z⟩
 ·refine ⟨its.toList,r,⟨o,n,I.kIn a o hk,hc,hd,by simpa using hs⟩,?_⟩;have e:=r.length;simp only[abt] at e;omega
theorem Inv.tuple (I:Inv X pins σ H s) (h:SqT X.K H a xs):∃its:List Value,Vals xs its∧IsTup s.heap a its.toArray∧xs.length≤sizeLine:=by
 rcases h with h | ⟨o,its,n,hk,hc,hs,hz,r⟩
 ·obtain ⟨z,its,r,p⟩:=h.ok I.hok;exact ⟨its,r,p.tup,z⟩
 ·refine ⟨its.toList,r,⟨o,I.kIn a o hk,hc,n,by simpa using hs⟩,?_⟩;have e:=r.length;simp only[abt] at e;omega
theorem Inv.Cj (I:Inv X pins σ H s) (h:SqL X.K H a xs) (h':SqL X.K H a ys):xs=ys:=by
 obtain ⟨its,r,⟨o,n,e,_,_,d⟩,_⟩:=I.list h;obtain ⟨its',r',⟨o',n',e',_,_,d'⟩,_⟩:=I.list h';rw[e] at e';cases e';rw[d] at d';injection d' with d1 _
 have:its=its':=by simpa using congrArg Array.toList d1
 subst this;exact r.inj r'
theorem Inv.Ip (I:Inv X pins σ H s) (h:SqT X.K H a xs) (h':SqT X.K H a ys):xs=ys:=by
 obtain ⟨its,r,⟨o,e,_,n,d⟩,_⟩:=I.tuple h;obtain ⟨its',r',⟨o',e',_,n',d'⟩,_⟩:=I.tuple h';rw[e] at e';cases e';rw[d] at d';injection d' with d1 _
 have:its=its':=by simpa using congrArg Array.toList d1
 subst this;exact r.inj r'
end
noncomputable abbrev Cx.n0 (X:Cx) (E:Value→Shared→Prop):Cx:={ X with xe:=E }
noncomputable abbrev Cx.nox (X:Cx):Cx:=X.n0 λ_ _=>False
theorem Cx.Ok.n0 {X:Cx} (ok:X.Ok) (E:Value→Shared→Prop):(X.n0 E).Ok:=
 ⟨ok.mod,ok.kind,ok.glob,ok.blt,ok.above,ok.inj,ok.has,ok.cab,ok.hd,ok.frames,ok.stk,ok.exf,ok.bs,ok.bsz,ok.noex,ok.exfs,ok.ql,ok.frf⟩
theorem Cx.Ok.dh {X:Cx} {E:Value→Shared→Prop} (ok:(X.n0 E).Ok):X.Ok:=
 ⟨ok.mod,ok.kind,ok.glob,ok.blt,ok.above,ok.inj,ok.has,ok.cab,ok.hd,ok.frames,ok.stk,ok.exf,ok.bs,ok.bsz,ok.noex,ok.exfs,ok.ql,ok.frf⟩
section
variable {X:Cx} {pins:List (Addr×Obj)} {σ:St} {H:Hp} {s:Shared} {E:Value→Shared→Prop}
theorem Inv.n0 (I:Inv X pins σ H s) (E:Value→Shared→Prop):Inv (X.n0 E) pins σ H s:=⟨I.ok.n0 E,I.os,I.bare,I.base,I.loc,I.cell,I.free,I.freeC,I.pin,I.hok,I.len⟩
theorem Inv.dh (I:Inv (X.n0 E) pins σ H s):Inv X pins σ H s:=⟨I.ok.dh,I.os,I.bare,I.base,I.loc,I.cell,I.free,I.freeC,I.pin,I.hok,I.len⟩
theorem SP.dh {D:Ends} {f:Flow} {s':Shared} (h:SP (X.n0 E) pins D f s'):SP X pins D f s':=by
 cases f with
 | next=>obtain ⟨σ',H',I,q⟩:=h;exact ⟨σ',H',I.dh,q⟩
 | brk=>obtain ⟨σ',H',I,q⟩:=h;exact ⟨σ',H',I.dh,q⟩
 | cont=>obtain ⟨σ',H',I,q⟩:=h;exact ⟨σ',H',I.dh,q⟩
 | ret u=>obtain ⟨v,σ',H',I,r,q⟩:=h;exact ⟨v,σ',H',I.dh,r,q⟩
theorem PSs.nox {st:List Stmt} {t:TS} (h:PSs X.nox st t):PSs X st t:=λpins s σ H D I hw=>
 wpAny_mono (h pins s σ H D (I.n0 _) hw) (λ_ _ q=>q.dh) λ_ _ z=>False.elim z
end
section
variable {X:Cx} {st:Stmt} {rest:List Stmt} {t u:TS} {e:Expr} {te:TE} {pos:Pos}
def tNext:TS:=λD σ H=>D.nx σ H
def tSeq (t u:TS):TS:=λD σ H=>t { D with nx:=u D } σ H
theorem Q5:PSs X [] tNext:=λ_ _ σ H _ I h=>wpAny_execs_nil ⟨σ,H,I,h⟩
theorem Mx (h1:PS X st t) (h2:PSs X rest u):PSs X (st::rest) (tSeq t u):=by
 intro pins s σ H D I h;refine wpAny_execs_cons (thn (h1 pins s σ H { D with nx:=u D } I h) λf s1 q=>?_);cases f with
 | next=>
  obtain ⟨σ',H',I',q⟩:=q;exact h2 pins s1 σ' H' D I' q
 | ret v=>exact q
 | brk=>exact q
 | cont=>exact q
theorem Q3 (h1:PS X st t):PSs X [st] t:=by
 intro pins s σ H D I h;refine wpAny_execs_cons (thn (h1 pins s σ H D I h) λf s1 q=>?_);cases f with
 | next=>exact wpAny_execs_nil q
 | ret v=>exact q
 | brk=>exact q
 | cont=>exact q
def tCont:TS:=λD σ H=>D.ct σ H
theorem Dd:PS X (.Continue pos) tCont:=λ_ _ σ H _ I h=>wpAny_Continue ⟨σ,H,I,h⟩
theorem Inv.quiet {pins:List (Addr×Obj)} {σ:St} {H:Hp} {s:Shared} (I:Inv X pins σ H s):interactive X.env=false:=by simp[interactive,I.ok.kind]
def tDrop (te:TE):TS:=λD σ H=>te σ H λ_ H1=>D.nx σ H1
theorem Nu (he:PE X e te) (hs:swapsWith e none pos.line X.env=pure false:=by rfl):PS X (.Expr e pos) (tDrop te):=by
 intro pins s σ H D I h;exact wpAny_Expr_any (thn (he pins s σ H _ I h) λv s1 ⟨x,H1,I1,r1,q1⟩=>⟨σ,H1,I1,q1⟩) I.quiet hs
def tRet (te:TE):TS:=λD σ H=>te σ H D.rt
theorem ps_ret (he:PE X e te):PS X (.Return (some e) pos) (tRet te):=by
 intro pins s σ H D I h;exact wpAny_Return_some (thn (he pins s σ H _ I h) λv s1 ⟨x,H1,I1,r1,q1⟩=>⟨x,σ,H1,I1,r1,q1⟩)
def tRetN:TS:=λD _ H=>D.rt .non H
def tIfS (c:TT) (t u:TS):TS:=λD σ H=>c σ H λb H1=>if b=true then t D σ H1 else u D σ H1
theorem ps_if {c:Expr} {a b:List Stmt} {tc:TT} (hc:PT X c tc) (ha:PSs X a t) (hb:PSs X b u):PS X (.If c a b pos) (tIfS tc t u):=by
 intro pins s σ H D I h;refine wpAny_If (thn (hc pins s σ H _ I h) λd s1 ⟨H1,I1,q1⟩=>?_);cases d with
 | true=>exact ha pins s1 σ H1 D I1 q1
 | false=>exact hb pins s1 σ H1 D I1 q1
end
abbrev TG:=V→St→Hp→(St→Hp→Prop)→Prop
abbrev TGs:=List V→St→Hp→(St→Hp→Prop)→Prop
def PG (X:Cx) (target:Expr) (t:TG):Prop:=
 ∀(pins:List (Addr×Obj)) (s:Shared) (σ:St) (H:Hp) (v:V) (u:Value) (Q:St→Hp→Prop),Inv X pins σ H s→RelV v u→t v σ H Q→
  wpAny (model X.prog X.w) X.A (assign target X.env u) (λ_ s'=>∃σ' H',Inv X pins σ' H' s'∧Q σ' H') X.xe s
def PGs (X:Cx) (ts:List Expr) (t:TGs):Prop:=
 ∀(pins:List (Addr×Obj)) (s:Shared) (σ:St) (H:Hp) (vs:List V) (us:List Value) (Q:St→Hp→Prop),Inv X pins σ H s→Vals vs us→t vs σ H Q→
  wpAny (model X.prog X.w) X.A (assignInOrder ((assignEach ts X.env).map (·.2)) us) (λ_ s'=>∃σ' H',Inv X pins σ' H' s'∧Q σ' H') X.xe s
abbrev TSet:=V→V→V→Hp→(Hp→Prop)→Prop
def PSet (X:Cx) (t:TSet):Prop:=
 ∀(pins:List (Addr×Obj)) (s:Shared) (σ:St) (H:Hp) (o i v:V) (ov iv u:Value) (Q:Hp→Prop),Inv X pins σ H s→RelV o ov→RelV i iv→RelV v u→t o i v H Q→
  wpAny (model X.prog X.w) X.A (setItem ov iv u) (λ_ s'=>∃H',Inv X pins σ H' s'∧Q H') X.xe s
section
variable {X:Cx} {pos:Pos}
def cv (i:Nat):TG:=λv σ H Q=>Q (σ.set i (some v)) H
theorem G2 {i:Nat} {x:Str} (hN:X.N.Nodup) (hi:X.N[i]?=some x) (hx:Loc X.env.scope x) (hf:X.fn x=true∨X.env.scope.names.lookup x=some .local:=by first | exact .inl rfl | exact .inr rfl | assumption):PG X (.Name x pos) (cv i):=by
 intro pins s σ H v u Q I r h;exact wpAny_assign_Name (ve I hN hi hx r (λs' I'=>⟨_,H,I',h⟩) hf)
def gNil:TGs:=λvs σ H Q=>vs=[]∧Q σ H
def eu (t:TG) (u:TGs):TGs:=λvs σ H Q=>∃v r,vs=v::r∧t v σ H λσ' H'=>u r σ' H' Q
theorem ig:PGs X [] gNil:=by
 intro pins s σ H vs us Q I r h;obtain ⟨e,h⟩:=h;subst e;cases r
 exact assignInOrder_nil ⟨σ,H,I,h⟩
theorem M1 {e:Expr} {es:List Expr} {t:TG} {u:TGs} (h1:PG X e t) (h2:PGs X es u)
  (hs:(assignEach (e::es) X.env).map (·.2)=assign e X.env::(assignEach es X.env).map (·.2):=by rfl):PGs X (e::es) (eu t u):=by
 intro pins s σ H vs us Q I r h;obtain ⟨v,vr,e1,h⟩:=h;subst e1;cases r with
 | cons r rr=>
  rw[hs];refine assignInOrder_cons (thn (h1 pins s σ H _ _ _ I r h) λ_ s1 ⟨σ1,H1,I1,q1⟩=>?_);exact h2 pins s1 σ1 H1 _ _ Q I1 rr q1
def Eu (K:PySem.W.Frag) (n:Nat) (t:TGs):TG:=λv σ H Q=>∃a xs,v=.ref a∧SqT K H a xs∧xs.length=n∧t xs σ H Q
theorem Js {es:List Expr} {k:Nat} {t:TGs} {n:Nat} (hc:X.calm=true) (h:PGs X es t)
  (hn:(assignEach es X.env).length=n:=by rfl) (hst:(assignEach es X.env).findIdx? (·.1)=none:=by rfl):PG X (.Tuple es k pos) (Eu X.K n t):=by
 intro pins s σ H v u Q I r hw;obtain ⟨a,xs,e1,hq,hl,hw⟩:=hw;subst e1;cases r
 obtain ⟨its,rv,ht,hz⟩:=I.tuple hq;refine assign_Tuple_tuple (I.ok.hd hc) ht (by simp[hn,←hl,rv.length]) hst λh' hx=>?_;have I1:Inv X pins σ H { s with heap:=h' }:=I.kept (t':=s.toks) λb o e=>hx b o (aam (Heap.lt_size e)) e;exact h pins _ σ H xs _ Q I1 (by simpa using rv) hw
def gSub (to ti:TE) (t:TSet):TG:=λv σ H Q=>to σ H λo H1=>ti σ H1 λi H2=>t o i v H2 λH3=>Q σ H3
theorem Mt {o i:Expr} {to ti:TE} {t:TSet} (ho:PE X o to) (hi:PE X i ti) (hs:PSet X t)
  (ha:∀v,assign (.Subscript o i pos) X.env v=(do
   let ov ←holding [v] (eval o X.env)
   let iv ←holding [v,ov] (eval i X.env)
   standAt pos
   holding [v,ov,iv] (setItem ov iv v)
   release [v,ov,iv] []):=by intro _;rfl):PG X (.Subscript o i pos) (gSub to ti t):=by
 intro pins s σ H v u Q I r h;rw[ha];refine wpAny_bind (wpAny_holding (thn (ho pins s σ H _ I h) λov s1 ⟨x,H1,I1,r1,q1⟩=>?_));refine wpAny_bind (wpAny_holding (thn (hi pins s1 σ H1 _ I1 q1) λiv s2 ⟨y,H2,I2,r2,q2⟩=>?_));refine wpAny_bind (wpAny_standAt (wpAny_bind (wpAny_holding (thn (hs pins s2 σ H2 x y v ov iv u _ I2 r1 r2 r q2) λ_ s3 ⟨H3,I3,q3⟩=>?_))));exact wpAny_release ⟨σ,H3,I3,q3⟩
def tAsg (te:TE) (g:TG):TS:=λD σ H=>te σ H λx H1=>g x σ H1 D.nx
theorem J4 {tg e:Expr} {te:TE} {g:TG} (he:PE X e te) (hg:PG X tg g) (hs:swapsWithSole [tg] e pos.line X.env=pure false:=by rfl) (hw:swappedStores [tg] e X.env=pure none:=by rfl)
  (h1:(assignEach [tg] X.env).map (·.2)=[assign tg X.env]:=by rfl):PS X (.Assign [tg] e pos) (tAsg te g):=by
 intro pins s σ H D I h;refine wpAny_Assign_stores (thn (he pins s σ H _ I h) λv s1 ⟨x,H1,I1,r1,q1⟩=>?_) hs hw;rw[h1];exact thn (hg pins s1 σ H1 x v _ I1 r1 q1) λ_ s2 q=>q
theorem K9 {i:Nat} {x:Str} {e:Expr} {te:TE} {pos':Pos} (hN:X.N.Nodup) (hi:X.N[i]?=some x) (hx:Loc X.env.scope x) (he:PE X e te) (hs:swapsWith e (some (.Name x pos')) pos.line X.env=pure false:=by rfl) (hf:X.fn x=true∨X.env.scope.names.lookup x=some .local:=by first | exact .inl rfl | exact .inr rfl | assumption):
  PS X (.Assign [.Name x pos'] e pos) (tAsg te (cv i)):=by
 intro pins s σ H D I h;refine wpAny_Assign_Name (thn (he pins s σ H _ I h) λv s1 ⟨y,H1,I1,r1,q1⟩=>?_) hs;exact ve I1 hN hi hx r1 (λs2 I2=>⟨_,H1,I2,q1⟩) hf
end
section
variable {X:Cx} {pos:Pos}
def Mc (c:TT) (tb:TS):TS:=λD σ H=>∃W:Nat→St→Hp→Prop,(∃m,W m σ H)∧∀m σ H,W m σ H→
 c σ H λb H1=>if b=true then ∃N:St→Hp→Prop,(∀σ' H',N σ' H'→∃m',m' < m∧W m' σ' H')∧tb { D with nx:=N,ct:=N,bk:=D.nx } σ H1 else D.nx σ H1
theorem Bu {c:Expr} {body:List Stmt} {tc:TT} {tb:TS} (hp:PassesOwn (model X.prog X.w) X.A X.env X.xe) (hc:PT X c tc) (hb:PSs X body tb):PS X (.While c body [] pos) (Mc tc tb):=by
 intro pins s σ H D I h;obtain ⟨W,⟨m0,w0⟩,turn⟩:=h;refine wpAny_While (codeAny_whileLoop (λn s'=>∃σ' H',Inv X pins σ' H' s'∧W n σ' H') ?_ m0 ⟨σ,H,I,w0⟩);rintro n s1 ⟨σ1,H1,I1,w1⟩;refine wpAny_passesOwn hp (thn (hc pins s1 σ1 H1 _ I1 (turn n σ1 H1 w1)) λb s2 ⟨H2,I2,q2⟩=>?_);cases b with
 | true=>
  obtain ⟨N,hN,q2⟩:=q2;rw[if_pos rfl];refine wpAny_passesOwn hp (thn (hb pins s2 σ1 H2 _ I2 q2) λf s3 q3=>?_);cases f with
  | next=>
   obtain ⟨σ3,H3,I3,n3⟩:=q3;obtain ⟨m',hm,w3⟩:=hN σ3 H3 n3;exact ⟨m',hm,σ3,H3,I3,w3⟩
  | cont=>
   obtain ⟨σ3,H3,I3,n3⟩:=q3;obtain ⟨m',hm,w3⟩:=hN σ3 H3 n3;exact ⟨m',hm,σ3,H3,I3,w3⟩
  | brk=>exact q3
  | ret v=>exact q3
 | false=>
  rw[if_neg aak];exact wpAny_execs_nil ⟨σ1,H2,I2,q2⟩
end
structure It where
 go:Nat→Hp→Prop
 yld:Nat→Hp→V→Hp→Prop
 stop:Nat→Hp→Prop
def sf (X:Cx) (pins:List (Addr×Obj)) (H:Hp) (b:Addr):Prop:=
 H b=none∧b≠X.env.locals∧b∉X.fs∧(b∈X.ex∨X.s₀.heap.objs.size≤b)∧(∀x c,X.env.cells.lookup x=some c→c≠b)∧∀p∈X.pn++pins,p.1≠b
theorem Inv.Ey {X:Cx} {pins:List (Addr×Obj)} {σ:St} {H H':Hp} {s:Shared} {b:Addr} (I:Inv X pins σ H s) (hb:s.heap.objs.size≤b) (hn:H' b=none):sf X pins H' b:=by
 refine ⟨hn,ab9 (aai I.lt hb),I.nofs hb,.inr (aar I.sz hb),λx c e z=>?_,λp hp z=>?_⟩
 ·obtain ⟨v,q⟩:=I.cell x c e;exact absurd (aai q.lt (by rw[z];exact hb)) (abc _)
 ·exact absurd (aai (Heap.lt_size (I.pin p hp).1) (by rw[z];exact hb)) (abc _)
structure Turn (P:Program) (w:World) (K:PySem.W.Frag) (tg:Expr) (J:It) (fp:List Addr) (it:Addr) (tn:Nat→Heap→Prop):Prop where
 mem:it∈fp
 obj:∀i h,tn i h→∀b∈fp,∃o,h.get? b=some o∧∀v,o.data≠.cell v
 keep:∀i h h',tn i h→(∀b∈fp,∀o,h.get? b=some o→h'.get? b=some o)→tn i h'
 item:∀(X:Cx),X.prog=P→X.w=w→X.K=K→X.calm=true→∀(i:Nat) (pins:List (Addr×Obj)) (s:Shared) (σ:St) (H:Hp) (E:Value→Shared→Prop),Inv X pins σ H s→(∀b∈fp,sf X pins H b)→tn i s.heap→J.go i H→
  wpAny (model P w) X.A (pyNext (.ref it)) (λr s1=>∃u,r=some u∧
   wpAny (model P w) X.A (letOwnedTupleGo tg (.ref it) u) (λ_ s2=>∃x H',Inv X pins σ H' s2∧RelV x u∧J.yld i H x H'∧tn (i+1) s2.heap∧∀b∈fp,H' b=none) E s1) E s
 done:∀(X:Cx),X.prog=P→X.w=w→X.K=K→X.calm=true→∀(i:Nat) (pins:List (Addr×Obj)) (s:Shared) (σ:St) (H:Hp) (E:Value→Shared→Prop),Inv X pins σ H s→(∀b∈fp,sf X pins H b)→tn i s.heap→J.stop i H→
  wpAny (model P w) X.A (pyNext (.ref it)) (λr s1=>r=none∧Inv X pins σ H s1) E s
 self:∀(A:Around) (i:Nat) (s:Shared) (Q:Value→Shared→Prop) (E:Value→Shared→Prop),tn i s.heap→Q (.ref it) s→wpAny (model P w) A (pyIter (.ref it)) Q E s
abbrev TI:=St→Hp→(It→Hp→Prop)→Prop
def PIE (X:Cx) (pins:List (Addr×Obj)) (σ:St) (tg:Expr) (R:It→Hp→Prop) (itv:Value) (s2:Shared):Prop:=
 ∃(it:Addr) (fp:List Addr) (tn:Nat→Heap→Prop) (J:It) (H':Hp),itv=.ref it∧Inv X pins σ H' s2∧Turn X.prog X.w X.K tg J fp it tn∧tn 0 s2.heap∧(∀b∈fp,sf X pins H' b)∧R J H'
def PI (X:Cx) (tg iter:Expr) (wi:TI):Prop:=
 ∀(pins:List (Addr×Obj)) (s:Shared) (σ:St) (H:Hp) (R:It→Hp→Prop),Inv X pins σ H s→wi σ H R→
  wpAny (model X.prog X.w) X.A (eval iter X.env) (λv s1=>wpAny (model X.prog X.w) X.A (pyIter v) (PIE X pins σ tg R) X.xe s1) X.xe s
theorem yp {M:Model} {A:Around} {E:Value→Shared→Prop} {s:Shared} {tg:Expr} {it:Addr} {u:Value} {o:Obj} {n:String} {vs:Array Value} {Q:Unit→Shared→Prop} (ho:s.heap.get? it=some o) (hc:o.cls=.type n) (hd:o.data=.fields vs)
    (hn:["enumerate","zip","dict_itemiterator","dict_reverseitemiterator","odict_iterator","itertools.zip_longest","itertools.pairwise"].contains n=false) (hQ:Q () s):wpAny M A (letOwnedTupleGo tg (.ref it) u) Q E s:=by
  unfold letOwnedTupleGo;cases tg <;> first
    | exact wpAny_pure hQ
    | (cases u <;> first
        | exact wpAny_pure hQ
        | (refine wpAny_bind (wpAny_load ho ?_)
           rw[hc,hd];show wpAny M A (if (["enumerate","zip","dict_itemiterator","dict_reverseitemiterator","odict_iterator","itertools.zip_longest","itertools.pairwise"].contains n&&vs[0]?==some (rawInt _))=true then _ else _) Q E s
           rw[if_neg (by intro h;rw[hn,Bool.false_and] at h;cases h)];exact wpAny_pure hQ))
noncomputable def Itl (K:PySem.W.Frag) (a:Addr):It:=
 ⟨λi H=>∃xs x,SqL K H a xs∧xs[i]?=some x,λi H x H'=>H'=H∧∀xs,SqL K H a xs→xs[i]?=some x,λi H=>∃xs,SqL K H a xs∧xs.length≤i⟩
noncomputable def Itt (K:PySem.W.Frag) (a:Addr):It:=
 ⟨λi H=>∃xs x,SqT K H a xs∧xs[i]?=some x,λi H x H'=>H'=H∧∀xs,SqT K H a xs→xs[i]?=some x,λi H=>∃xs,SqT K H a xs∧xs.length≤i⟩
noncomputable def Itr (lo:Int) (n:Nat):It:=⟨λi _=>i < n,λi H x H'=>H'=H∧x=.int (lo+i),λi _=>n≤i⟩
theorem Ir {P:Program} {w:World} {K:PySem.W.Frag} {tg:Expr} (a it:Addr):Turn P w K tg (Itl K a) [it] it (λi h=>h.IsListIter it a i) where
 mem:=by simp
 obj:=λi h st b hb=>by
  have e:b=it:=by simpa using hb
  subst e;obtain ⟨o,e,c,d⟩:=st;exact ⟨o,e,λv z=>by rw[d] at z;cases z⟩
 keep:=λi h h' st k=>st.at λo e=>k it (by simp) o e
 item:=by
  intro X hP hw hK hc i pins s σ H E I hf st hg;subst hP hw hK;obtain ⟨xs,x,hq,hx⟩:=hg;obtain ⟨its,rv,p,hz⟩:=I.list hq;obtain ⟨u,hu,ru⟩:=rv.get hx;obtain ⟨f0,f1,f2,f3,f4,f5⟩:=hf it (by simp);refine wpAny_pyNext_list_item st p.isList (x:=u) (by simpa using hu) λh' st' sb=>?_;have I1:Inv X pins σ H { s with heap:=h' }:=I.turned (t':=s.toks) (λb o hb e=>(sb.2 b hb).trans e) f0 f1 f3 f4 f5;obtain ⟨o,e,c,d⟩:=id st';exact ⟨u,rfl,yp (s:={ s with heap:=h' }) e c d (by decide) ⟨x,H,I1,ru,⟨rfl,λys hy=>by rw[I.Cj hy hq];exact hx⟩,st',λb hb=>(hf b hb).1⟩⟩
 done:=by
  intro X hP hw hK hc i pins s σ H E I hf st hg;subst hP hw hK;obtain ⟨xs,hq,hx⟩:=hg;obtain ⟨its,rv,p,hz⟩:=I.list hq;obtain ⟨f0,f1,f2,f3,f4,f5⟩:=hf it (by simp);have hl:=rv.length;exact wpAny_pyNext_list_end (I.ok.hd hc) st p.isList (by simp;omega) λh' eb=>⟨rfl,I.turned (t':=s.toks) (λb o hb e=>eb b o hb e) f0 f1 f3 f4 f5⟩
 self:=λ_ _ _ _ _ st h=>wpAny_pyIter_listiter st h
theorem Ed {P:Program} {w:World} {K:PySem.W.Frag} {tg:Expr} (a it:Addr):Turn P w K tg (Itt K a) [it] it (λi h=>h.IsTupleIter it a i) where
 mem:=by simp
 obj:=λi h st b hb=>by
  have e:b=it:=by simpa using hb
  subst e;obtain ⟨o,e,c,d⟩:=st;exact ⟨o,e,λv z=>by rw[d] at z;cases z⟩
 keep:=λi h h' st k=>st.at λo e=>k it (by simp) o e
 item:=by
  intro X hP hw hK hc i pins s σ H E I hf st hg;subst hP hw hK;obtain ⟨xs,x,hq,hx⟩:=hg;obtain ⟨its,rv,p,hz⟩:=I.tuple hq;obtain ⟨u,hu,ru⟩:=rv.get hx;obtain ⟨f0,f1,f2,f3,f4,f5⟩:=hf it (by simp);refine wpAny_pyNext_tuple_item st (show s.heap.IsTuple a its.toArray from p) (x:=u) (by simpa using hu) λh' st' sb=>?_;have I1:Inv X pins σ H { s with heap:=h' }:=I.turned (t':=s.toks) (λb o hb e=>(sb.2 b hb).trans e) f0 f1 f3 f4 f5;obtain ⟨o,e,c,d⟩:=id st';exact ⟨u,rfl,yp (s:={ s with heap:=h' }) e c d (by decide) ⟨x,H,I1,ru,⟨rfl,λys hy=>by rw[I.Ip hy hq];exact hx⟩,st',λb hb=>(hf b hb).1⟩⟩
 done:=by
  intro X hP hw hK hc i pins s σ H E I hf st hg;subst hP hw hK;obtain ⟨xs,hq,hx⟩:=hg;obtain ⟨its,rv,p,hz⟩:=I.tuple hq;obtain ⟨f0,f1,f2,f3,f4,f5⟩:=hf it (by simp);have hl:=rv.length;exact wpAny_pyNext_tuple_end (I.ok.hd hc) st (show s.heap.IsTuple a its.toArray from p) (by simp;omega) λh' eb=>⟨rfl,I.turned (t':=s.toks) (λb o hb e=>eb b o hb e) f0 f1 f3 f4 f5⟩
 self:=λ_ _ _ _ _ st h=>wpAny_pyIter_tupleiter st h
theorem Ea {P:Program} {w:World} {K:PySem.W.Frag} {tg:Expr} (it:Addr) (lo:Int) (n:Nat):Turn P w K tg (Itr lo n) [it] it (λi h=>IsRangeIter h it (lo+(i:Nat)*1) ((n:Int) - (i:Nat)) 1) where
 mem:=by simp
 obj:=λi h st b hb=>by
  have e:b=it:=by simpa using hb
  subst e;exact ⟨_,st,λv z=>by
   have z':Data.fields _=Data.cell v:=z;cases z'⟩
 keep:=λi h h' st k=>k it (by simp) _ st
 item:=by
  intro X hP hw hK hc i pins s σ H E I hf st hg;subst hP hw hK;obtain ⟨f0,f1,f2,f3,f4,f5⟩:=hf it (by simp);have W:=Walks.range (prog:=X.prog) (w:=X.w) (I.ok.hd hc) it lo 1 n;refine W.item i s _ _ hg st λv h' tk hv st' kk=>?_;obtain ⟨t,rfl⟩:=hv;have I1:Inv X pins σ H { s with heap:=h',toks:=tk }:=I.turned (λb o hb e=>kk b o (by simpa using hb) e) f0 f1 f3 f4 f5;refine ⟨_,rfl,yp (s:={ s with heap:=h',toks:=tk }) (n:="range_iterator") st' rfl rfl (by decide) ⟨.int (lo+i),H,I1,⟨t,?_⟩,⟨rfl,rfl⟩,st',λb hb=>(hf b hb).1⟩⟩;rw[Int.mul_one]
 done:=by
  intro X hP hw hK hc i pins s σ H E I hf st hg;subst hP hw hK;obtain ⟨f0,f1,f2,f3,f4,f5⟩:=hf it (by simp);exact wpAny_pyNext_range_end (I.ok.hd hc) st (by have:n≤i:=hg;omega) λh' eb=>⟨rfl,I.turned (t':=s.toks) (λb o hb e=>eb b o hb e) f0 f1 f3 f4 f5⟩
 self:=λ_ _ _ _ _ st h=>wpAny_pyIter_rangeiter st h
section
variable {X:Cx} {tg:Expr}
def iList (K:PySem.W.Frag) (tl:TE):TI:=λσ H R=>tl σ H λx H1=>∃a,x=.ref a∧(∃xs,SqL K H1 a xs)∧R (Itl K a) H1
def iTup (K:PySem.W.Frag) (tl:TE):TI:=λσ H R=>tl σ H λx H1=>∃a,x=.ref a∧(∃xs,SqT K H1 a xs)∧R (Itt K a) H1
theorem Pw {l:Expr} {tl:TE} (hl:PE X l tl):PI X tg l (iList X.K tl):=by
 intro pins s σ H R I h;refine thn (hl pins s σ H _ I h) λv s1 ⟨x,H1,I1,r1,q1⟩=>?_;obtain ⟨a,e,⟨xs,hq⟩,q⟩:=q1;subst e;cases r1
 obtain ⟨its,rv,p,hz⟩:=I1.list hq;refine wpAny_pyIter_list p.isList ?_;refine ⟨s1.heap.objs.size,[s1.heap.objs.size],_,_,H1,rfl,I1.kept (t':=s1.toks) λb o e=>Heap.get?_push_of_some _ e,Ir a _,⟨_,Heap.get?_push_size _ rfl,rfl,rfl⟩,λb hb=>?_,q⟩;have e:b=s1.heap.objs.size:=by simpa using hb
 subst e;exact I1.Ey (aa4 _) (I1.hok.fresh (aa4 _))
theorem pi_tup {l:Expr} {tl:TE} (hl:PE X l tl):PI X tg l (iTup X.K tl):=by
 intro pins s σ H R I h;refine thn (hl pins s σ H _ I h) λv s1 ⟨x,H1,I1,r1,q1⟩=>?_;obtain ⟨a,e,⟨xs,hq⟩,q⟩:=q1;subst e;cases r1
 obtain ⟨its,rv,p,hz⟩:=I1.tuple hq;refine wpAny_pyIter_tuple (show s1.heap.IsTuple a its.toArray from p) ?_;refine ⟨s1.heap.objs.size,[s1.heap.objs.size],_,_,H1,rfl,I1.kept (t':=s1.toks) λb o e=>Heap.get?_push_of_some _ e,Ed a _,⟨_,Heap.get?_push_size _ rfl,rfl,rfl⟩,λb hb=>?_,q⟩;have e:b=s1.heap.objs.size:=by simpa using hb
 subst e;exact I1.Ey (aa4 _) (I1.hok.fresh (aa4 _))
theorem Jz {pins:List (Addr×Obj)} {σ:St} {H:Hp} {s:Shared} {R:It→Hp→Prop} {E:Value→Shared→Prop} {lo hi:Int} {t u v:Tok} {tk:Nat} (I:Inv X pins σ H s) (h1:-(2 ^ 62)≤lo) (h2:lo < 2 ^ 62) (h3:-(2 ^ 62)≤hi) (h4:hi < 2 ^ 62)
  (q:R (Itr lo (hi - lo).toNat) H):wpAny (model X.prog X.w) X.A (pyIter (.ref s.heap.objs.size)) (PIE X pins σ tg R) E { s with heap:=s.heap.push { cls:=.type "range",data:=.fields #[.int lo t,.int hi u,.int 1 v] },toks:=tk }:=by
 refine wpAny_pyIter_range (IsRange.new ..) (small_one h1 h2 h3 h4) ?_;have I1:Inv X pins σ H { s with heap:=s.heap.push { cls:=.type "range",data:=.fields #[.int lo t,.int hi u,.int 1 v] },toks:=tk }:=I.kept λb o e=>Heap.get?_push_of_some _ e;refine ⟨(s.heap.push { cls:=.type "range",data:=.fields #[.int lo t,.int hi u,.int 1 v] }).objs.size,[(s.heap.push { cls:=.type "range",data:=.fields #[.int lo t,.int hi u,.int 1 v] }).objs.size],_,_,H,rfl,
  I1.kept (t':=tk) λb o e=>Heap.get?_push_of_some _ e,Ea _ lo (hi - lo).toNat,?_,λb hb=>?_,q⟩
 ·have e1:lo+((0:Nat):Int)*1=lo:=by simp
  have e2:(((hi - lo).toNat:Nat):Int) - ((0:Nat):Int)=Builtin.Range.rangeSize lo hi 1:=by rw[rangeSize_one];split <;> omega
  show IsRangeIter _ _ (lo+((0:Nat):Int)*1) ((((hi - lo).toNat:Nat):Int) - ((0:Nat):Int)) 1
  rw[e1,e2];exact Heap.get?_push_size _ rfl
 ·have e:b=(s.heap.push { cls:=.type "range",data:=.fields #[.int lo t,.int hi u,.int 1 v] }).objs.size:=by simpa using hb
  subst e;exact I1.Ey (aa4 _) (I1.hok.fresh (aa4 _))
def iRng1 (ta:TA):TI:=λσ H R=>ta σ H λvs H1=>∃j:Int,vs=[.int j]∧-(2 ^ 62)≤j∧j < 2 ^ 62∧R (Itr 0 j.toNat) H1
def iRng2 (ta:TA):TI:=λσ H R=>ta σ H λvs H1=>∃i j:Int,vs=[.int i,.int j]∧(-(2 ^ 62)≤i∧i < 2 ^ 62∧-(2 ^ 62)≤j∧j < 2 ^ 62)∧R (Itr i (j - i).toNat) H1
theorem Iq {a:Expr} {ta:TA} {p pos:Pos} (hg:Gl X "range") (hm:X.mg "range"=none) (ha:PA X [a] ta) (hs:starEach [a] X.env=[(false,eval a X.env)]:=by rfl):PI X tg (.Call (.Name "range" p) [a] [] pos) (iRng1 ta):=by
 intro pins s σ H R I h;refine Call_ (ir I hg hm boot_range (PyProof.Rows.callWith_type1 (thn (ha pos pins s σ H _ I h) λus s1 ⟨vs,H1,I1,r1,q1⟩=>?_) hs rfl));obtain ⟨j,e,q1,q2,q⟩:=q1;subst e;cases r1 with
 | cons r rr=>
  cases rr
  obtain ⟨t,rfl⟩:=r;exact call_range_1 (Jz I1 (by omega) (by omega) q1 q2 (by simpa using q))
def tFor (wi:TI) (g:TG) (tb:TS):TS:=λD σ H=>wi σ H λJ H1=>∃W:Nat→Nat→St→Hp→Prop,(∃m,W 0 m σ H1)∧∀i m σ H,W i m σ H→
 (J.stop i H∧D.nx σ H)∨(J.go i H∧∃N:St→Hp→Prop,(∀σ' H',N σ' H'→∃m',m' < m∧W (i+1) m' σ' H')∧∀x H',J.yld i H x H'→g x σ H' λσ2 H2=>tb { D with nx:=N,ct:=N,bk:=D.nx } σ2 H2)
noncomputable def uy (fp:List Addr) (h:Heap):List (Addr×Obj):=fp.filterMap λb=>(h.get? b).map λo=>(b,o)
theorem jm {fp:List Addr} {h:Heap} {b:Addr} {o:Obj} (hb:b∈fp) (e:h.get? b=some o):(b,o)∈uy fp h:=List.mem_filterMap.mpr ⟨b,hb,by rw[e];rfl⟩
theorem Io {fp:List Addr} {h:Heap} {p:Addr×Obj} (hp:p∈uy fp h):p.1∈fp∧h.get? p.1=some p.2:=by
 obtain ⟨b,hb,e⟩:=List.mem_filterMap.mp hp;cases q:h.get? b with
 | none=>rw[q] at e;cases e
 | some o=>
  rw[q] at e;have e':(b,o)=p:=aa3 e;subst e';exact ⟨hb,q⟩
theorem Inv.pinned {pins:List (Addr×Obj)} {σ:St} {H:Hp} {s:Shared} {fp:List Addr} (I:Inv X pins σ H s) (hf:∀b∈fp,sf X pins H b) (ho:∀b∈fp,∃o,s.heap.get? b=some o∧∀v,o.data≠.cell v):Inv X (pins++uy fp s.heap) σ H s:=
 I.G5 λp hp=>(List.mem_append.mp hp).elim (λz=>I.pin p (aax _ z)) λz=>by
  obtain ⟨hb,e⟩:=Io z;obtain ⟨f0,f1,f2,_⟩:=hf p.1 hb;obtain ⟨o,e',d⟩:=ho p.1 hb;rw[e] at e';cases e';exact ⟨e,f0,f1,f2,d⟩
theorem Inv.nz {pins pl:List (Addr×Obj)} {σ:St} {H:Hp} {s:Shared} (I:Inv X (pins++pl) σ H s):Inv X pins σ H s:=I.G5 λp hp=>I.pin p (aax _ (ac6 _ hp))
theorem Lo {iter:Expr} {body:List Stmt} {wi:TI} {g:TG} {tb:TS} {pos:Pos} (hp:PassesOwn (model X.prog X.w) X.A X.env X.xe) (hc:X.calm=true) (hi:PI X tg iter wi) (hg:PG X tg g) (hb:PSs X body tb)
  (hs:∀x,foldedSetIterable iter X.env x=pure x:=by intro _;rfl):PS X (.For tg iter body [] pos) (tFor wi g tb):=by
 intro pins s σ H D I h;refine wpAny_For (thn (hi pins s σ H _ I h) λv s1 h1=>thn h1 λitv s2 h2=>?_) hs;obtain ⟨it,fp,tn,J,H2,e,I2,T,st2,f2,W,⟨m0,w0⟩,turn⟩:=h2;subst e;have stat:∀{H':Hp},(∀b∈fp,H' b=none)→∀b∈fp,sf X pins H' b:=λhn b hb=>⟨hn b hb,(f2 b hb).2⟩;refine codeAny_forLoop_any (λn s'=>∃i σ' H',Inv X pins σ' H' s'∧tn i s'.heap∧(∀b∈fp,H' b=none)∧W i n σ' H') ?_ m0 ⟨0,σ,H2,I2,st2,λb hb=>(f2 b hb).1,w0⟩;rintro n s3 ⟨i,σ3,H3,I3,st3,fr3,w3⟩;rcases turn i n σ3 H3 w3 with ⟨stop,qn⟩ | ⟨go,N,hN,step⟩
 ·refine wpAny_passesOwn hp (thn (T.done X rfl rfl rfl hc i pins s3 σ3 H3 X.xe I3 (stat fr3) st3 stop) λr s4 ⟨hr,I4⟩=>?_);subst hr;exact wpAny_execs_nil ⟨σ3,H3,I4,qn⟩
 ·refine wpAny_passesOwn hp (thn (T.item X rfl rfl rfl hc i pins s3 σ3 H3 X.xe I3 (stat fr3) st3 go) λr s4 ⟨u,hr,h4⟩=>?_);subst hr;refine wpAny_passesOwn hp (thn h4 λ_ s5 ⟨x,H5,I5,r5,y5,st5,fr5⟩=>?_);have I5':=I5.pinned (stat fr5) (T.obj _ _ st5);refine wpAny_passesOwn hp (thn (hg _ s5 σ3 H5 x u _ I5' r5 (step x H5 y5)) λ_ s6 ⟨σ6,H6,I6,q6⟩=>?_);refine wpAny_passesOwn hp (thn (hb _ s6 σ6 H6 _ I6 q6) λf s7 q7=>?_);have again:∀{σ7:St} {H7:Hp},Inv X (pins++uy fp s5.heap) σ7 H7 s7→N σ7 H7→∃m,m < n∧∃i σ' H',Inv X pins σ' H' s7∧tn i s7.heap∧(∀b∈fp,H' b=none)∧W i m σ' H':=λ{σ7 H7} I7 n7=>by
   obtain ⟨m',hm,w7⟩:=hN σ7 H7 n7;refine ⟨m',hm,i+1,σ7,H7,I7.nz,T.keep _ _ _ st5 λb hb o e=>(I7.pin (b,o) (aax _ (aax _ (jm hb e)))).1,λb hb=>?_,w7⟩;obtain ⟨o,e,d⟩:=T.obj _ _ st5 b hb;exact (I7.pin (b,o) (aax _ (aax _ (jm hb e)))).2.1
  cases f with
  | next=>obtain ⟨σ7,H7,I7,n7⟩:=q7;exact again I7 n7
  | cont=>obtain ⟨σ7,H7,I7,n7⟩:=q7;exact again I7 n7
  | brk=>obtain ⟨σ7,H7,I7,q7⟩:=q7;exact ⟨σ7,H7,I7.nz,q7⟩
  | ret v=>obtain ⟨x7,σ7,H7,I7,r7,q7⟩:=q7;exact ⟨x7,σ7,H7,I7.nz,r7,q7⟩
end
theorem Mf {K:PySem.W.Frag} {a:Addr} {xs:List V} {g:TG} {tb:TS} {D:Ends} {σ:St} {H:Hp} (Pv:Nat→St→Hp→Prop) (h0:Pv 0 σ H) (hl:∀i σ H,i≤xs.length→Pv i σ H→SqL K H a xs)
  (hs:∀i x σ H,xs[i]?=some x→Pv i σ H→g x σ H λσ2 H2=>tb { D with nx:=Pv (i+1),ct:=Pv (i+1),bk:=D.nx } σ2 H2) (hd:∀σ H,Pv xs.length σ H→D.nx σ H):
  ∃W:Nat→Nat→St→Hp→Prop,(∃m,W 0 m σ H)∧∀i m σ H,W i m σ H→
   ((Itl K a).stop i H∧D.nx σ H)∨((Itl K a).go i H∧∃N:St→Hp→Prop,(∀σ' H',N σ' H'→∃m',m' < m∧W (i+1) m' σ' H')∧∀x H',(Itl K a).yld i H x H'→g x σ H' λσ2 H2=>tb { D with nx:=N,ct:=N,bk:=D.nx } σ2 H2):=by
 refine ⟨λi m σ H=>m=xs.length - i∧i≤xs.length∧Pv i σ H,⟨xs.length,by simp,aa7 _,h0⟩,?_⟩;rintro i m σ H ⟨rfl,hi,p⟩;have q:=hl i σ H hi p;by_cases hlt:i < xs.length
 ·refine .inr ⟨⟨xs,xs[i],q,by simp[hlt]⟩,Pv (i+1),λσ' H' p'=>⟨xs.length - (i+1),by omega,rfl,hlt,p'⟩,λx H' y=>?_⟩;obtain ⟨e,y⟩:=y;subst e;exact hs i x σ _ (y xs q) p
 ·have e:i=xs.length:=by omega
  subst e;exact .inl ⟨⟨xs,q,aa4 _⟩,hd σ H p⟩
theorem Qu {K:PySem.W.Frag} {a:Addr} {xs:List V} {g:TG} {tb:TS} {D:Ends} {σ:St} {H:Hp} (Pv:Nat→St→Hp→Prop) (h0:Pv 0 σ H) (hl:∀i σ H,i≤xs.length→Pv i σ H→SqT K H a xs)
  (hs:∀i x σ H,xs[i]?=some x→Pv i σ H→g x σ H λσ2 H2=>tb { D with nx:=Pv (i+1),ct:=Pv (i+1),bk:=D.nx } σ2 H2) (hd:∀σ H,Pv xs.length σ H→D.nx σ H):
  ∃W:Nat→Nat→St→Hp→Prop,(∃m,W 0 m σ H)∧∀i m σ H,W i m σ H→
   ((Itt K a).stop i H∧D.nx σ H)∨((Itt K a).go i H∧∃N:St→Hp→Prop,(∀σ' H',N σ' H'→∃m',m' < m∧W (i+1) m' σ' H')∧∀x H',(Itt K a).yld i H x H'→g x σ H' λσ2 H2=>tb { D with nx:=N,ct:=N,bk:=D.nx } σ2 H2):=by
 refine ⟨λi m σ H=>m=xs.length - i∧i≤xs.length∧Pv i σ H,⟨xs.length,by simp,aa7 _,h0⟩,?_⟩;rintro i m σ H ⟨rfl,hi,p⟩;have q:=hl i σ H hi p;by_cases hlt:i < xs.length
 ·refine .inr ⟨⟨xs,xs[i],q,by simp[hlt]⟩,Pv (i+1),λσ' H' p'=>⟨xs.length - (i+1),by omega,rfl,hlt,p'⟩,λx H' y=>?_⟩;obtain ⟨e,y⟩:=y;subst e;exact hs i x σ _ (y xs q) p
 ·have e:i=xs.length:=by omega
  subst e;exact .inl ⟨⟨xs,q,aa4 _⟩,hd σ H p⟩
theorem Ia {lo:Int} {n:Nat} {g:TG} {tb:TS} {D:Ends} {σ:St} {H:Hp} (Pv:Nat→St→Hp→Prop) (h0:Pv 0 σ H)
  (hs:∀i σ H,i < n→Pv i σ H→g (.int (lo+i)) σ H λσ2 H2=>tb { D with nx:=Pv (i+1),ct:=Pv (i+1),bk:=D.nx } σ2 H2) (hd:∀σ H,Pv n σ H→D.nx σ H):
  ∃W:Nat→Nat→St→Hp→Prop,(∃m,W 0 m σ H)∧∀i m σ H,W i m σ H→
   ((Itr lo n).stop i H∧D.nx σ H)∨((Itr lo n).go i H∧∃N:St→Hp→Prop,(∀σ' H',N σ' H'→∃m',m' < m∧W (i+1) m' σ' H')∧∀x H',(Itr lo n).yld i H x H'→g x σ H' λσ2 H2=>tb { D with nx:=N,ct:=N,bk:=D.nx } σ2 H2):=by
 refine ⟨λi m σ H=>m=n - i∧i≤n∧Pv i σ H,⟨n,by simp,aa7 _,h0⟩,?_⟩;rintro i m σ H ⟨rfl,hi,p⟩;by_cases hlt:i < n
 ·refine .inr ⟨hlt,Pv (i+1),λσ' H' p'=>⟨n - (i+1),by omega,rfl,hlt,p'⟩,λx H' y=>?_⟩;obtain ⟨e,y⟩:=y;subst e y;exact hs i σ _ hlt p
 ·have e:i=n:=by omega
  subst e;exact .inl ⟨aa4 _,hd σ H p⟩
theorem gn {c:TT} {tb:TS} {D:Ends} {σ:St} {H:Hp} (Pv:St→Hp→Prop) (μ:St→Hp→Nat) (h0:Pv σ H)
  (hs:∀σ H,Pv σ H→c σ H λb H1=>if b=true then tb { D with nx:=λσ' H'=>Pv σ' H'∧μ σ' H' < μ σ H,ct:=λσ' H'=>Pv σ' H'∧μ σ' H' < μ σ H,bk:=D.nx } σ H1 else D.nx σ H1)
  (mono:∀σ H Q Q',(∀b H1,Q b H1→Q' b H1)→c σ H Q→c σ H Q'):Mc c tb D σ H:=by
 refine ⟨λm σ H=>m=μ σ H∧Pv σ H,⟨_,rfl,h0⟩,?_⟩;rintro m σ H ⟨rfl,p⟩;refine mono σ H _ _ (λb H1 q=>?_) (hs σ H p);cases b with
 | true=>exact ⟨_,λσ' H' ⟨p',l⟩=>⟨_,l,rfl,p'⟩,q⟩
 | false=>exact q
abbrev R2:=V→V→Hp→VK→Prop
def OpR (X:Cx) (f:Value→Value→Sem Value) (r:R2):Prop:=
 ∀(pins:List (Addr×Obj)) (s:Shared) (σ:St) (H:Hp) (x y:V) (v u:Value) (Q:VK),Inv X pins σ H s→RelV x v→RelV y u→r x y H Q→
  wpAny (model X.prog X.w) X.A (f v u) (EP X pins σ Q) X.xe s
def UnR (X:Cx) (f:Value→Sem Value) (r:V→Hp→VK→Prop):Prop:=
 ∀(pins:List (Addr×Obj)) (s:Shared) (σ:St) (H:Hp) (x:V) (v:Value) (Q:VK),Inv X pins σ H s→RelV x v→r x H Q→
  wpAny (model X.prog X.w) X.A (f v) (EP X pins σ Q) X.xe s
def gd (X:Cx) (f:Value) (r:List V→Hp→VK→Prop):Prop:=
 ∀(pins:List (Addr×Obj)) (s:Shared) (σ:St) (H:Hp) (xs:List V) (us:List Value) (Q:VK),Inv X pins σ H s→Vals xs us→r xs H Q→
  wpAny (model X.prog X.w) X.A (call f us) (EP X pins σ Q) X.xe s
def tOp (r:R2) (ta tb:TE):TE:=λσ H Q=>ta σ H λx H1=>tb σ H1 λy H2=>r x y H2 Q
def tUn (r:V→Hp→VK→Prop) (ta:TE):TE:=λσ H Q=>ta σ H λx H1=>r x H1 Q
def rI (C:Int→Int→Prop) (g:Int→Int→V):R2:=λx y H Q=>∃i j,x=.int i∧y=.int j∧C i j∧Q (g i j) H
def rI0 (g:Int→Int→V):R2:=λx y H Q=>∃i j,x=.int i∧y=.int j∧Q (g i j) H
def rU (g:Int→V):V→Hp→VK→Prop:=λx H Q=>∃i,x=.int i∧Q (g i) H
section
variable {X:Cx} {a b c:Expr} {ta tb tc:TE} {pos:Pos}
theorem binT (ha:PE X a ta) (hb:PE X b tb) {pins:List (Addr×Obj)} {s:Shared} {σ:St} {H:Hp} {R:V→V→Hp→Prop} (I:Inv X pins σ H s)
  (h:ta σ H λx H1=>tb σ H1 λy H2=>R x y H2) {Q:Value→Shared→Prop} {f:Value→Value→Sem Value}
  (hf:∀v u s2 x y H2,Inv X pins σ H2 s2→RelV x v→RelV y u→R x y H2→wpAny (model X.prog X.w) X.A (f v u) Q X.xe s2):
  wpAny (model X.prog X.w) X.A (eval a X.env) (λv s₁=>wpAny (model X.prog X.w) X.A (eval b X.env) (λu s₂=>wpAny (model X.prog X.w) X.A (f v u) Q X.xe s₂) X.xe s₁) X.xe s:=by
 refine thn (ha pins s σ H _ I h) λv s1 ⟨x,H1,I1,r1,q1⟩=>?_;refine thn (hb pins s1 σ H1 _ I1 q1) λu s2 ⟨y,H2,I2,r2,q2⟩=>?_;exact hf v u s2 x y H2 I2 r1 r2 q2
theorem pe_op {op:Operator} {r:R2} (ho:OpR X (binaryOp op) r) (ha:PE X a ta) (hb:PE X b tb):PE X (.BinOp a op b pos) (tOp r ta tb):=by
 intro pins s σ H Q I h;exact wpAny_BinOp (binT ha hb I h λv u s2 x y H2 I2 rx ry q=>ho pins s2 σ H2 x y v u Q I2 rx ry q)
theorem pe_un {op:UnaryOp} {r:V→Hp→VK→Prop} (ho:UnR X (unaryOp op) r) (ha:PE X a ta):PE X (.UnaryOp op a pos) (tUn r ta):=by
 intro pins s σ H Q I h;exact UnaryOp_ (thn (ha pins s σ H _ I h) λv s1 ⟨x,H1,I1,r1,q1⟩=>ho pins s1 σ H1 x v Q I1 r1 q1)
theorem opI {f:Value→Value→Sem Value} {C:Int→Int→Prop} {g:Int→Int→Int}
  (rule:∀(i j:Int) (t u:Tok) (s:Shared) (Q:Value→Shared→Prop) (E:Value→Shared→Prop),C i j→Q (.int (g i j) s.toks) { s with toks:=s.toks+1 }→wpAny (model X.prog X.w) X.A (f (.int i t) (.int j u)) Q E s):
  OpR X f (rI C λi j=>.int (g i j)):=by
 intro pins s σ H x y v u Q I rx ry h;obtain ⟨i,j,rfl,rfl,hc,q⟩:=h;obtain ⟨t,rfl⟩:=rx;obtain ⟨t',rfl⟩:=ry;exact rule i j t t' s _ _ hc ⟨.int (g i j),H,I.tok _,⟨_,rfl⟩,q⟩
theorem opI0 {f:Value→Value→Sem Value} {g:Int→Int→Int}
  (rule:∀(i j:Int) (t u:Tok) (s:Shared) (Q:Value→Shared→Prop) (E:Value→Shared→Prop),Q (.int (g i j) s.toks) { s with toks:=s.toks+1 }→wpAny (model X.prog X.w) X.A (f (.int i t) (.int j u)) Q E s):
  OpR X f (rI0 λi j=>.int (g i j)):=by
 intro pins s σ H x y v u Q I rx ry h;obtain ⟨i,j,rfl,rfl,q⟩:=h;obtain ⟨t,rfl⟩:=rx;obtain ⟨t',rfl⟩:=ry;exact rule i j t t' s _ _ ⟨.int (g i j),H,I.tok _,⟨_,rfl⟩,q⟩
theorem opB0 {f:Value→Value→Sem Value} {g:Int→Int→Bool}
  (rule:∀(i j:Int) (t u:Tok) (s:Shared) (Q:Value→Shared→Prop) (E:Value→Shared→Prop),Q (.bool (g i j)) s→wpAny (model X.prog X.w) X.A (f (.int i t) (.int j u)) Q E s):
  OpR X f (rI0 λi j=>.bl (g i j)):=by
 intro pins s σ H x y v u Q I rx ry h;obtain ⟨i,j,rfl,rfl,q⟩:=h;obtain ⟨t,rfl⟩:=rx;obtain ⟨t',rfl⟩:=ry;exact rule i j t t' s _ _ ⟨.bl (g i j),H,I,rfl,q⟩
def qb (i j:Int):Prop:=0 < j∧j < 1073741824
def CPow (i j:Int):Prop:=0≤j∧j≤1000000∧i.natAbs < 2 ^ 64
def CMul (i j:Int):Prop:=(-(2 ^ 64) < i∧i < 2 ^ 64)∨(-(2 ^ 64) < j∧j < 2 ^ 64)
theorem CMul.ok {i j:Int} (h:CMul i j):IntMulOk i j:=by
 rcases h with ⟨h1,h2⟩ | ⟨h1,h2⟩
 ·exact .of_left (intBits_le_64 h1 h2)
 ·exact .of_right (intBits_le_64 h1 h2)
theorem op_add:OpR X (binaryOp .Add) (rI0 λi j=>.int (i+j)):=opI0 λ_ _ _ _ _ _ _ q=>add_int q
theorem op_sub:OpR X (binaryOp .Sub) (rI0 λi j=>.int (i - j)):=opI0 λ_ _ _ _ _ _ _ q=>sub_int q
theorem op_mul:OpR X (binaryOp .Mult) (rI CMul λi j=>.int (i*j)):=opI λ_ _ _ _ _ _ _ hc q=>mul_int q hc.ok
theorem Pj:OpR X (binaryOp .FloorDiv) (rI qb λi j=>.int (i / j)):=opI λi j _ _ _ _ _ hc q=>by
 have h1:(0:Int) < j:=hc.1;have h2:j < 1073741824:=hc.2;exact floordiv_int (by omega) (by rw[Int.fdiv_eq_ediv_of_nonneg i (by omega)];exact q) (.inl (PyProof.noPylong_small (by omega)))
theorem op_mod:OpR X (binaryOp .Mod) (rI (λ_ j=>0 < j) λi j=>.int (i % j)):=opI λi j _ _ _ _ _ hc q=>by
 have h1:(0:Int) < j:=hc;exact mod_int' (by omega) (by rw[Int.fmod_eq_emod_of_nonneg i (by omega)];exact q)
theorem op_pow:OpR X (binaryOp .Pow) (rI CPow λi j=>.int (i ^ j.toNat)):=opI λ_ _ _ _ _ _ _ hc q=>pow_int_small hc.1 hc.2.1 hc.2.2 q
theorem unI {f:Value→Sem Value} {g:Int→Int}
  (rule:∀(i:Int) (t:Tok) (s:Shared) (Q:Value→Shared→Prop) (E:Value→Shared→Prop),Q (.int (g i) s.toks) { s with toks:=s.toks+1 }→wpAny (model X.prog X.w) X.A (f (.int i t)) Q E s):
  UnR X f (rU λi=>.int (g i)):=by
 intro pins s σ H x v Q I rx h;obtain ⟨i,rfl,q⟩:=h;obtain ⟨t,rfl⟩:=rx;exact rule i t s _ _ ⟨.int (g i),H,I.tok _,⟨_,rfl⟩,q⟩
theorem un_neg:UnR X (unaryOp .USub) (rU λi=>.int (-i)):=unI λ_ _ _ _ _ q=>neg_int q
end
noncomputable def scal:V→V→Bool
 | .non,.non=>true | .non,.int _=>true | .int _,.non=>true | .non,.bl _=>true | .bl _,.non=>true | .non,.str _=>true | .str _,.non=>true
 | .int _,.int _=>true | .bl _,.bl _=>true | .str _,.str _=>true | .byt _,.byt _=>true
 | .int _,.str _=>true | .str _,.int _=>true | .bl _,.str _=>true | .str _,.bl _=>true
 | _,_=>false
def rEq:R2:=λx y H Q=>scal x y=true∧Q (.bl (decide (x=y))) H
def rNe:R2:=λx y H Q=>scal x y=true∧Q (.bl (!decide (x=y))) H
theorem Gp {i j:Int}:decide (V.int i=V.int j)=(i==j):=by
 rw[adf];simp
theorem Nh {i j:Bool}:decide (V.bl i=V.bl j)=(i==j):=by
 rw[adf];simp
theorem Fy {i j:Str}:decide (V.str i=V.str j)=(i==j):=by
 rw[adf];simp
theorem Gb {i j:Array UInt8}:decide (V.byt i=V.byt j)=(i.toList==j.toList):=by
 rw[adf];cases i
 cases j
 simp
section
variable {X:Cx} {a b c:Expr} {ta tb tc:TE} {pos:Pos}
theorem bq {pins:List (Addr×Obj)} {σ:St} {H:Hp} {s:Shared} {Q:VK} {k k':Bool} (I:Inv X pins σ H s) (q:Q (.bl k) H) (e:k=k'):EP X pins σ Q (.bool k') s:=by
 subst e;exact ⟨.bl k,H,I,rfl,q⟩
theorem op_eq:OpR X (compareOp .Eq) rEq:=by
 intro pins s σ H x y v u Q I rx ry h;obtain ⟨hs,q⟩:=h;cases x with
 | non=>
  cases rx
  cases y with
  | non=>cases ry;exact PySem.EqNone.eq_none_none (bq I q (by simp))
  | bl j=>cases ry;exact PySem.EqNone.eq_none_bool (bq I q (by simp))
  | int j=>obtain ⟨t',rfl⟩:=ry;exact PySem.EqNone.eq_none_int (bq I q (by simp))
  | str j=>obtain ⟨t',rfl⟩:=ry;exact PySem.EqNone.eq_none_str (bq I q (by simp))
  | _=>exact absurd (show false=true from hs) aak
 | bl i=>
  cases rx
  cases y with
  | non=>cases ry;exact PySem.EqNone.eq_bool_none (bq I q (by simp))
  | bl j=>cases ry;exact eq_bool (bq I q Nh)
  | str j=>obtain ⟨t',rfl⟩:=ry;exact PySem.EqMixed.eq_bool_str (bq I q (by simp))
  | _=>exact absurd (show false=true from hs) aak
 | int i=>
  obtain ⟨t,rfl⟩:=rx;cases y with
  | non=>cases ry;exact PySem.EqNone.eq_int_none (bq I q (by simp))
  | int j=>obtain ⟨t',rfl⟩:=ry;exact eq_int (bq I q Gp)
  | str j=>obtain ⟨t',rfl⟩:=ry;exact PySem.EqMixed.eq_int_str (bq I q (by simp))
  | _=>exact absurd (show false=true from hs) aak
 | str i=>
  obtain ⟨t,rfl⟩:=rx;cases y with
  | non=>cases ry;exact PySem.EqNone.eq_str_none (bq I q (by simp))
  | bl j=>cases ry;exact PySem.EqMixed.eq_str_bool (bq I q (by simp))
  | int j=>obtain ⟨t',rfl⟩:=ry;exact PySem.EqMixed.eq_str_int (bq I q (by simp))
  | str j=>obtain ⟨t',rfl⟩:=ry;exact eq_str (bq I q Fy)
  | _=>exact absurd (show false=true from hs) aak
 | byt i=>
  obtain ⟨t,rfl⟩:=rx;cases y with
  | byt j=>obtain ⟨t',rfl⟩:=ry;exact PySem.W.eq_bytes (bq I q Gb)
  | _=>exact absurd (show false=true from hs) aak
 | _=>cases y <;> exact absurd (show false=true from hs) aak
theorem Ff:OpR X (compareOp .NotEq) rNe:=by
 intro pins s σ H x y v u Q I rx ry h;obtain ⟨hs,q⟩:=h;cases x with
 | non=>
  cases rx
  cases y with
  | non=>cases ry;exact PySem.EqNone.ne_none_none (bq I q (by simp))
  | bl j=>cases ry;exact PySem.EqNone.ne_none_bool (bq I q (by simp))
  | int j=>obtain ⟨t',rfl⟩:=ry;exact PySem.EqNone.ne_none_int (bq I q (by simp))
  | str j=>obtain ⟨t',rfl⟩:=ry;exact PySem.EqNone.ne_none_str (bq I q (by simp))
  | _=>exact absurd (show false=true from hs) aak
 | bl i=>
  cases rx
  cases y with
  | non=>cases ry;exact PySem.EqNone.ne_bool_none (bq I q (by simp))
  | bl j=>cases ry;exact ne_bool (bq I q (congrArg not Nh))
  | str j=>obtain ⟨t',rfl⟩:=ry;exact PySem.EqMixed.ne_bool_str (bq I q (by simp))
  | _=>exact absurd (show false=true from hs) aak
 | int i=>
  obtain ⟨t,rfl⟩:=rx;cases y with
  | non=>cases ry;exact PySem.EqNone.ne_int_none (bq I q (by simp))
  | int j=>obtain ⟨t',rfl⟩:=ry;exact ne_int (bq I q (congrArg not Gp))
  | str j=>obtain ⟨t',rfl⟩:=ry;exact PySem.EqMixed.ne_int_str (bq I q (by simp))
  | _=>exact absurd (show false=true from hs) aak
 | str i=>
  obtain ⟨t,rfl⟩:=rx;cases y with
  | non=>cases ry;exact PySem.EqNone.ne_str_none (bq I q (by simp))
  | bl j=>cases ry;exact PySem.EqMixed.ne_str_bool (bq I q (by simp))
  | int j=>obtain ⟨t',rfl⟩:=ry;exact PySem.EqMixed.ne_str_int (bq I q (by simp))
  | str j=>obtain ⟨t',rfl⟩:=ry;exact ne_str (bq I q (congrArg not Fy))
  | _=>exact absurd (show false=true from hs) aak
 | byt i=>
  obtain ⟨t,rfl⟩:=rx;cases y with
  | byt j=>obtain ⟨t',rfl⟩:=ry;exact PySem.W.ne_bytes (bq I q (congrArg not Gb))
  | _=>exact absurd (show false=true from hs) aak
 | _=>cases y <;> exact absurd (show false=true from hs) aak
theorem op_lt:OpR X (compareOp .Lt) (rI0 λi j=>.bl (decide (i < j))):=opB0 λ_ _ _ _ _ _ _ q=>lt_int q
theorem op_gt:OpR X (compareOp .Gt) (rI0 λi j=>.bl (decide (j < i))):=opB0 λ_ _ _ _ _ _ _ q=>gt_int q
theorem nomark (b:Expr) {op:CmpOp} (h:op≠.In:=by decide) (h2:op≠.NotIn:=by decide):behindInMarks op b=false:=by
 have e1:(op==CmpOp.In)=false:=by cases op <;> first | rfl | exact absurd rfl h
 have e2:(op==CmpOp.NotIn)=false:=by cases op <;> first | rfl | exact absurd rfl h2
 cases b <;> simp[behindInMarks,e1,e2]
theorem zv {op:CmpOp} {r:R2} (ho:OpR X (compareOp op) r) (ha:PE X a ta) (hb:PE X b tb) (hm:behindInMarks op b=false):PE X (.Compare a [op] [b] pos) (tOp r ta tb):=by
 intro pins s σ H Q I h;exact wpAny_Compare1 (binT ha hb I h λv u s2 x y H2 I2 rx ry q=>ho pins s2 σ H2 x y v u Q I2 rx ry q) hm
def Ct (t:TE):TT:=λσ H Q=>t σ H λx H'=>∃k,x=.bl k∧Q k H'
theorem Pp {op:CmpOp} {r:R2} (ho:OpR X (compareOp op) r) (ha:PE X a ta) (hb:PE X b tb) (hm:behindInMarks op b=false):PT X (.Compare a [op] [b] pos) (Ct (tOp r ta tb)):=by
 intro pins s σ H Q I h;refine wpAny_isTrue_Compare1 (thn (ha pins s σ H _ I h) λv s1 ⟨x,H1,I1,r1,q1⟩=>thn (hb pins s1 σ H1 _ I1 q1) λu s2 ⟨y,H2,I2,r2,q2⟩=>
  thn (ho pins s2 σ H2 x y v u _ I2 r1 r2 q2) λc s3 ⟨z,H3,I3,r3,k,e,q3⟩=>?_) hm
 subst e;cases r3
 exact wpAny_truthy_bool ⟨H3,I3,q3⟩
theorem wj:(sizeLine:Nat) < 2 ^ 63:=by rw[sizeLine_eq];decide
theorem Ez:OpR X (binaryOp .Add) (λx y H Q=>∃i j,x=.str i∧y=.str j∧i.length+j.length≤sizeLine∧Q (.str (i++j)) H):=by
 intro pins s σ H x y v u Q I rx ry h;obtain ⟨i,j,rfl,rfl,hz,q⟩:=h;obtain ⟨t,rfl⟩:=rx;obtain ⟨t',rfl⟩:=ry;exact add_str (λt' tk=>⟨.str (i++j),H,I.tok _,⟨_,rfl⟩,q⟩) hz
theorem vals1 {x:V} {us:List Value} (r:Vals [x] us):∃u,us=[u]∧RelV x u:=by
 cases r with
 | cons r1 r2=>cases r2;exact ⟨_,rfl,r1⟩
theorem vals2 {x y:V} {us:List Value} (r:Vals [x,y] us):∃u w',us=[u,w']∧RelV x u∧RelV y w':=by
 cases r with
 | cons r1 r2=>
  cases r2 with
  | cons r3 r4=>cases r4;exact ⟨_,_,rfl,r1,r3⟩
theorem Jc:gd X (.type "int") (λxs H Q=>(∃i,xs=[.int i]∧Q (.int i) H)∨∃k,xs=[.bl k]∧Q (.int (if k then 1 else 0)) H):=by
 intro pins s σ H xs us Q I r h;rcases h with ⟨i,rfl,q⟩ | ⟨k,rfl,q⟩
 ·obtain ⟨u,rfl,t,rfl⟩:=vals1 r;exact call_int_int ⟨.int i,H,I,⟨_,rfl⟩,q⟩
 ·obtain ⟨u,rfl,r1⟩:=vals1 r;cases r1
  exact call_int_bool ⟨.int (if k then 1 else 0),H,I.tok _,⟨_,rfl⟩,q⟩
end
structure ObjM (h:Heap) (x dx C:Addr) (mA:Str→Option Value):Prop where
 obj:h.get? x=some (PySem.W.instObj C dx)
 ns:h.Ns1 dx mA
 ne:dx≠x
theorem Iz {h:Heap} {dx:Addr} {mA:Str→Option Value} (n:h.Ns1 dx mA):∃od,h.get? dx=some od∧∀name,PySem.W.lookIn name od=some (mA name):=by
 obtain ⟨o,es,ep,ho,hd,hk,_,hm⟩:=n;refine ⟨o,ho,λname=>?_⟩;have e:=hm name;unfold nsFind findBy at e;rw[←Array.find?_toList] at e;unfold PySem.W.lookIn;rw[hd];dsimp only;split
 ·rename_i y q
  rw[q] at e;exact congrArg some e
 ·rename_i q
  rw[q] at e;have a:es.toList.any (·.refKey)=false:=by
   rw[aet];intro y hy;obtain ⟨z,t,hkey⟩:=hk y (Array.mem_toList_iff.mp hy);simp[DictEntry.refKey,hkey]
  have a':¬es.toList.any (·.refKey)=true:=by rw[a];exact aak
  rw[if_neg a'];exact congrArg some e
theorem ObjM.look {h:Heap} {x dx C:Addr} {mA:Str→Option Value} (I:ObjM h x dx C mA):∃od,PySem.W.InstAt h x (PySem.W.instObj C dx) C (some od)∧∀name,PySem.W.lookIn name od=some (mA name):=
 let ⟨od,ho,hl⟩:=Iz I.ns
 ⟨od,⟨I.obj,rfl,rfl,ho⟩,hl⟩
theorem kc.some_of {v:V} {o:Option Value} (r:kc (some v) o):∃u,o=some u∧RelV v u:=by
 cases o with
 | none=>exact (show False from r).elim
 | some u=>exact ⟨u,rfl,r⟩
section
variable {P:Program} {w:World} {H H':Hp} {h h':Heap} {a C dx:Addr} {fs fs':List (Str×V)}
theorem Gk (hok:HOk P w H h) (e:H a=some (.ins C dx fs)):∃mA,ObjM h a dx C mA∧(∀f,kc (fs.lookup f) (mA f))∧PySem.Within mA (fs.map (·.1))∧fs.length≤1000∧H dx=some (.own a):=by
 obtain ⟨d,z,ne,ob,mA,n,r,q⟩:=(show bp P w H h a (.ins C dx fs) from hok a _ e);exact ⟨mA,⟨ob,n,ne⟩,r,q,z,d⟩
end
structure Cls (K:PySem.W.Frag) (C:Addr):Prop where
 pg:PySem.W.plainGet K C Str.empty=true
 hd:PySem.W.hasDictIn K C=true
 po:PySem.W.plainOver K C=true
 sa:PySem.W.findIn K (.ref C) "__setattr__"=some (some (.builtin "object.__setattr__"))
theorem Cls.get {K:PySem.W.Frag} {C:Addr} (c:Cls K C) (f:Str):PySem.W.plainGet K C f=true:=c.pg
section
variable {X:Cx} {pins:List (Addr×Obj)} {σ:St} {H:Hp} {s:Shared} {A:Around} {E:Value→Shared→Prop} {Q:Value→Shared→Prop} {c:Value} {b:Bool}
inductive ny (K:PySem.W.Frag) (H:Hp):V→Value→Prop where
 | non:ny K H .non (.type "NoneType")
 | bl (x:Bool):ny K H (.bl x) (.type "bool")
 | int (i:Int):ny K H (.int i) (.type "int")
 | str (x:Str):ny K H (.str x) (.type "str")
 | flt (x:UInt64):ny K H (.flt x) (.type "float")
 | lst {a:Addr} {xs:List V} (e:H a=some (.lst xs)):ny K H (.ref a) (.type "list")
 | frz {a:Addr} {o:Obj} {xs:List V} (e:H a=some (.frz o (.lst xs))):ny K H (.ref a) (.type "list")
 | tup {a:Addr} {xs:List V} (e:H a=some (.tup xs)):ny K H (.ref a) (.type "tuple")
 | dK {a:Addr} {kvs:List (Key×V)} (e:H a=some (.dK kvs)):ny K H (.ref a) (.type "dict")
 | dT {a:Addr} {kvs:List (List Key×V)} (e:H a=some (.dT kvs)):ny K H (.ref a) (.type "dict")
 | ins {a C dx:Addr} {fs:List (Str×V)} (e:H a=some (.ins C dx fs)) (cl:Cls K C) (ha:PySem.W.findIn K (.ref C) "__class__"=some (some (.builtin "object.__class__")))
   (hn:PySem.W.specialIn K (.builtin "object.__class__") "__get__"=some (some (.builtin "getset_descriptor.__get__"))) (htk:PySem.W.takesIn K (.builtin "object.__class__")=some true)
   (hm:PySem.W.mroIn K C (.type "object")=some true):ny K H (.ref a) (.ref C)
theorem He {x:V} {u t:Value} (I:Inv X pins σ H s) (rx:RelV x u) (ty:ny X.K H x t) (e:PySem.W.kitOne X.K t c=some b) (h:∀tk,Q (.bool b) { s with toks:=tk }):
  wpAny (model X.prog X.w) A (call (.builtin "isinstance") [u,c]) Q E s:=by
 cases ty with
 | non=>cases (show u=Value.none from rx);exact PySem.W.kia_one PySem.W.kitx_none I.kIn True.intro e (λz=>nomatch z) h
 | bl y=>cases (show u=Value.bool y from rx);exact PySem.W.kia_one PySem.W.kitx_bool I.kIn True.intro e (λz=>nomatch z) h
 | int i=>obtain ⟨t,q⟩:=(show ∃t,u=Value.int i t from rx);cases q;exact PySem.W.kia_one PySem.W.kitx_int I.kIn True.intro e (λz=>nomatch z) h
 | str y=>obtain ⟨t,q⟩:=(show ∃t,u=Value.str y t from rx);cases q;exact PySem.W.kia_one PySem.W.kitx_str I.kIn True.intro e (λz=>nomatch z) h
 | flt y=>obtain ⟨t,q⟩:=(show ∃t,u=Value.float y t from rx);cases q;exact PySem.W.kia_one PySem.W.kitx_float I.kIn True.intro e (λz=>nomatch z) h
 | @lst a xs ea=>
  cases (show u=Value.ref a from rx)
  obtain ⟨_,_,n,_,h1⟩:=(show bp X.prog X.w H s.heap a (.lst xs) from I.hok a _ ea);exact PySem.W.kia_one PySem.W.kitx_list I.kIn ⟨_,h1,rfl⟩ e (λz=>nomatch z) h
 | @frz a ob xs ea=>
  cases (show u=Value.ref a from rx)
  obtain ⟨_,_,_,n,_,h1⟩:=(show bp X.prog X.w H s.heap a (.frz ob (.lst xs)) from I.hok a _ ea);exact PySem.W.kia_one PySem.W.kitx_list I.kIn ⟨_,h1,rfl⟩ e (λz=>nomatch z) h
 | @tup a xs ea=>
  cases (show u=Value.ref a from rx)
  obtain ⟨_,_,_,p⟩:=(show bp X.prog X.w H s.heap a (.tup xs) from I.hok a _ ea);obtain ⟨o,h1,h2,_⟩:=p;exact PySem.W.kia_one PySem.W.kitx_tuple I.kIn ⟨o,h1,h2⟩ e (λz=>nomatch z) h
 | @dK a kvs ea=>
  cases (show u=Value.ref a from rx)
  obtain ⟨_,_,vs,_,p⟩:=(show bp X.prog X.w H s.heap a (.dK kvs) from I.hok a _ ea);obtain ⟨o,es,ep,h1,h2,_⟩:=p;exact PySem.W.kia_one PySem.W.kitx_dict I.kIn ⟨o,h1,h2.1⟩ e (λz=>nomatch z) h
 | @dT a kvs ea=>
  cases (show u=Value.ref a from rx)
  obtain ⟨_,_,xs,_,o,es,ep,h1,h2,_⟩:=(show bp X.prog X.w H s.heap a (.dT kvs) from I.hok a _ ea);exact PySem.W.kia_one PySem.W.kitx_dict I.kIn ⟨o,h1,h2.1⟩ e (λz=>nomatch z) h
 | @ins a C dx fs ea cl ha hn htk hm=>
  cases (show u=Value.ref a from rx)
  obtain ⟨mA,O,_⟩:=Gk I.hok ea;obtain ⟨od,J,_⟩:=O.look;exact PySem.W.kia_one (PySem.W.kitx_own (cl.get _) cl.hd ha hn htk hm) I.kIn J e (λz=>nomatch z) h
end
structure fj (k:Nat) (A:Around):Prop where
 hd:A.handled=none
 dp:A.depth+3*k+5 < recursionLimit
 un:A.units+16*k+200 < cLine
theorem fj.mono {j k:Nat} {A:Around} (r:fj k A) (h:j≤k):fj j A:=⟨r.hd,by have:=r.dp;omega,by have:=r.un;omega⟩
theorem fj.deeper {k:Nat} {A:Around} (r:fj (k+1) A) (env:Env):fj k (A.deeper env):=
 ⟨r.hd,by have:=r.dp;show A.depth+1+3*k+5 < _;omega,by have:=r.un;show A.units+3+16*k+200 < _;omega⟩
theorem fj.depth {k:Nat} {A:Around} (r:fj k A):A.depth < recursionLimit:=by have:=r.dp;omega
theorem fj.units {k:Nat} {A:Around} (r:fj k A):A.units+64 < cLine:=by have:=r.un;omega
def By:TA:=λ_ H Q=>Q [] H
def Cq (ta:TE) (tr:TA):TA:=λσ H Q=>ta σ H λx H1=>tr σ H1 λxs H2=>Q (x::xs) H2
section
variable {X:Cx} {e:Expr} {es:List Expr} {te:TE} {t:TA} {pos:Pos}
theorem K2:PA X [] By:=λ_ _ _ _ H Q I h=>Calls.spliced_nil ⟨[],H,I,.nil,h⟩
theorem Bc (ha:PE X e te) (hr:PA X es t) (hs:starEach (e::es) X.env=(false,eval e X.env)::starEach es X.env:=by rfl):PA X (e::es) (Cq te t):=by
 intro pos pins s σ H Q I h;rw[hs];show wpAny _ _ (spliced ((false,eval e X.env)::backTo pos (starEach es X.env))) _ _ s
 refine Calls.spliced_cons (thn (ha pins s σ H _ I h) λu s1 ⟨x,H1,I1,r1,q1⟩=>?_);exact thn (hr pos pins s1 σ H1 _ I1 q1) λus s2 ⟨xs,H2,I2,r2,q2⟩=>⟨x::xs,H2,I2,.cons r1 r2,q2⟩
def tTup (t:TA):TE:=λσ H Q=>t σ H λxs H1=>xs.length≤sizeLine∧∀p,H1 p=none→Q (.ref p) (upd H1 p (.tup xs))
def tLst (t:TA):TE:=λσ H Q=>t σ H λxs H1=>xs.length≤sizeLine∧∀p,H1 p=none→Q (.ref p) (upd H1 p (.lst xs))
theorem pe_tup {x1} (h:PA X es t):PE X (.Tuple es x1 pos) (tTup t):=by
 intro pins s σ H Q I hq;refine wpAny_Tuple_spliced (thn (h pos pins s σ H _ I hq) λus s1 ⟨xs,H1,I1,r,z,q⟩=>⟨by rw[←r.length];exact z,?_⟩);have hf:H1 s1.heap.objs.size=none:=I1.hok.fresh (aa4 _);refine ⟨.ref s1.heap.objs.size,upd H1 s1.heap.objs.size (.tup xs),I1.laid (t':=s1.toks) (λb u e=>Heap.get?_push_of_some _ e) (aa4 _) ?_,rfl,q _ hf⟩;exact ⟨z,us,r,⟨_,Heap.get?_push_size _ rfl,rfl,_,rfl,rfl⟩⟩
theorem pe_lst (h:PA X es t):PE X (.List es pos) (tLst t):=by
 intro pins s σ H Q I hq;refine wpAny_List_spliced (thn (h pos pins s σ H _ I hq) λus s1 ⟨xs,H1,I1,r,z,q⟩=>⟨by rw[←r.length];exact z,?_⟩);have hf:H1 s1.heap.objs.size=none:=I1.hok.fresh (aa4 _);refine ⟨.ref s1.heap.objs.size,upd H1 s1.heap.objs.size (.lst xs),I1.laid (t':=s1.toks) (λb u e=>Heap.get?_push_of_some _ e) (aa4 _) ?_,rfl,q _ hf⟩;exact ⟨z,us,0,r,Heap.get?_push_size _ rfl⟩
end
abbrev Sp:=List V→Hp→VK→XK→Prop
abbrev CXT:=List Env→Hp→Shared→XK→Value→Shared→Prop
structure Env0 (P:Program) (w:World) (K:PySem.W.Frag) (mg:Str→Option Value) (base:Heap) (A:Around) (outer:List Env) (s:Shared) (H:Hp):Prop where
 frames:A.frames=some outer
 mod:Mod K mg base
 bs:∀b o,base.get? b=some o→s.heap.get? b=some o∧H b=none
 bsz:base.objs.size≤s.heap.objs.size
 ql:s.heap.FunFrames base outer
 frf:∀b∈frs outer,H b=none
 hok:HOk P w H s.heap
 bare:AllBare s.gens
def CE (outer:List Env) (P:Program) (w:World) (H:Hp) (s:Shared) (Q:VK) (u:Value) (s':Shared):Prop:=
 ∃v H',s'.os=s.os∧AllBare s'.gens∧Un (frs outer) [] H H' s.heap s'.heap∧HOk P w H' s'.heap∧RelV v u∧Q v H'
def CR (CX:CXT) (outer:List Env) (P:Program) (w:World) (H:Hp) (s:Shared) (Q:VK) (E:XK) (r:Result) (s':Shared):Prop:=
 match r with
 | .ok (.ret u)=>CE outer P w H s Q u s'
 | .ok _=>False
 | .error e=>CX outer H s E e s'
structure lu (P:Program) (w:World) (K:PySem.W.Frag) (mg:Str→Option Value) (base:Heap) (CX:CXT) (k:Nat) (f:Addr) (fd:FuncData) (ps:List Str) (sp:Sp):Prop where
 len:∀vs H Q E,sp vs H Q E→vs.length=ps.length
 run:∀(A:Around) (outer:List Env) (s:Shared) (H:Hp) (args:Args) (us:List Value) (vs:List V) (Q:VK) (E:XK),fj k A→Env0 P w K mg base A outer s H→BindsTo s fd args (ps.zip us)→Vals vs us→sp vs H Q E→
  codeAny (model P w) A (.call (.ref f) args) (CR CX outer P w H s Q E) s
theorem lu.mono {P:Program} {w:World} {K:PySem.W.Frag} {mg:Str→Option Value} {base:Heap} {CX:CXT} {j k:Nat} {f:Addr} {fd:FuncData} {ps:List Str} {sp:Sp} (F:lu P w K mg base CX j f fd ps sp) (h:j≤k):
  lu P w K mg base CX k f fd ps sp:=⟨F.len,λA outer s H args us vs Q E hr=>F.run A outer s H args us vs Q E (hr.mono h)⟩
section
variable {X:Cx} {pins:List (Addr×Obj)} {σ:St} {H:Hp} {s s':Shared}
theorem Inv.iy (I:Inv X pins σ H s):Env0 X.prog X.w X.K X.mg X.base X.A X.stack s H:=
 ⟨I.ok.frames,I.ok.mod,I.bs,aar I.ok.bsz I.sz,I.stack,I.Au,I.hok,I.bare⟩
theorem Inv.after {Q:VK} {u:Value} (I:Inv X pins σ H s) (h:CE X.stack X.prog X.w H s Q u s'):EP X pins σ Q u s':=by
 obtain ⟨v,H',os,bare,un,hok,r,q⟩:=h;obtain ⟨hh,g,d,t,os'⟩:=s';obtain rfl:os'=s.os:=os;exact ⟨v,H',I.call (h':=hh) (g':=g) (d':=d) (t':=t) (ch:=[]) un hok bare (λb z=>absurd z (by simp)),r,q⟩
end
def Be (sp:Sp) (dvs:List V) (E:XK) (t:TA):TE:=λσ H Q=>t σ H λvs H1=>sp (vs++dvs) H1 Q E
def Binds (K:PySem.W.Frag) (fd:FuncData) (ps:List Str) (ds:List Value):Prop:=
 ∀(s:Shared) (us:List Value),K.In s.heap→(us++ds).length=ps.length→BindsTo s fd ⟨us,[]⟩ (ps.zip (us++ds))
theorem Binds.all {K:PySem.W.Frag} {fd:FuncData} {ps:List Str} (h:∀us:List Value,us.length=ps.length→bindArgs fd ⟨us,[]⟩=pure (ps.zip us)):Binds K fd ps []:=λs us _ hl=>by
 rw[aay] at hl ⊢;exact .of_eq (h us hl)
def Passes (CX:CXT) (X:Cx) (E:XK):Prop:=∀(pins:List (Addr×Obj)) (σ:St) (H:Hp) (s:Shared) (e:Value) (s':Shared),Inv X pins σ H s→CX X.stack H s E e s'→X.xe e s'
section
variable {X:Cx} {CX:CXT} {k:Nat} {f C:Addr} {fd:FuncData} {ps:List Str} {sp:Sp} {dvs:List V} {ds:List Value} {E:XK} {x m:Str} {p pos apos:Pos} {e o:Expr} {es:List Expr} {ta:TE} {t:TA}
theorem run_fn {pins:List (Addr×Obj)} {σ:St} {H:Hp} {s:Shared} {Q:VK} {us:List Value} {vs:List V} (F:lu X.prog X.w X.K X.mg X.base CX k f fd ps sp) (hr:fj k X.A) (hb:Binds X.K fd ps ds) (hd:Vals dvs ds) (hx:Passes CX X E)
  (I:Inv X pins σ H s) (r:Vals vs us) (h:sp (vs++dvs) H Q E):wpAny (model X.prog X.w) X.A (call (.ref f) us) (EP X pins σ Q) X.xe s:=by
 have r2:Vals (vs++dvs) (us++ds):=r.append hd;have hl:(us++ds).length=ps.length:=by rw[←r2.length];exact F.len _ _ _ _ h
 refine wpAny_call (codeAny_mono (F.run X.A X.stack s H ⟨us,[]⟩ (us++ds) (vs++dvs) Q E hr I.iy (hb s us I.kIn hl) r2 h) λr s' hq=>?_);cases r with
 | error e=>exact hx pins σ H s e s' I hq
 | ok fl=>
  cases fl with
  | ret u=>exact I.after hq
  | next=>exact False.elim hq
  | brk=>exact False.elim hq
  | cont=>exact False.elim hq
theorem Aq (F:lu X.prog X.w X.K X.mg X.base CX k f fd ps sp) (hr:fj k X.A) (hg:Gl X x) (hm:X.mg x=some (.ref f)) (hk:PySem.W.keepIn X.K (.ref f)=true) (hb:Binds X.K fd ps ds) (hd:Vals dvs ds) (hx:Passes CX X E)
  (ha:PA X (e::es) t) (hdb:(x==("__debug__":Str))=false:=by decide) (he:starEach (e::es) X.env=(false,eval e X.env)::starEach es X.env:=by rfl) (hpl:(backTo pos (starEach es X.env)).any (·.1)=false:=by rfl):
  PE X (.Call (.Name x p) (e::es) [] pos) (Be sp dvs E t):=by
 intro pins s σ H Q I h;refine wpAny_Call_Name_kw (oz I hg hm ?_ hdb);refine PySem.W.callWith_K (h₀:=X.base) I.ok.mod.kin hk (thn (ha pos pins s σ H _ I h) λus s1 ⟨vs,H1,I1,r,q⟩=>⟨I1.kIn,?_⟩) he hpl;exact run_fn F hr hb hd hx I1 r q
end
structure ax (N P:List Str) (sc:Scope):Prop where
 kind:sc.kind=.function
 co:sc.isCoroutine=false
 gen:sc.isGenerator=false
 nd:N.Nodup
 pre:N.take P.length=P
 par:∀x∈P,sc.names.lookup x=some .local∨sc.names.lookup x=some .cell
 nofree:∀y∈sc.names,y.2≠.free
theorem ya {kindOf:Str→Option NameKind} {x:Str}:∀{binds:List (Str×Value)} {m:Str→Option Value},(∀v,(x,v)∉binds)→bindL kindOf binds m x=m x
 | [],_,_=>rfl
 | (n,v)::r,m,h=>by
  unfold bindL;rw[ya λw hw=>h w (aaa _ hw)];split
  ·have:x≠n:=by rintro rfl;exact h v aa9
   simp[this]
  ·rfl
theorem zb {kindOf:Str→Option NameKind} {x:Str}:∀{binds:List (Str×Value)} {m:Str→Option Value},(∀v,(x,v)∉binds)→bindC kindOf binds m x=m x
 | [],_,_=>rfl
 | (n,v)::r,m,h=>by
  unfold bindC;rw[zb λw hw=>h w (aaa _ hw)];split
  ·rfl
  ·have:x≠n:=by rintro rfl;exact h v aa9
   simp[this]
theorem y8 {kindOf:Str→Option NameKind} {x:Str} {v:Value}:∀{P:List Str} {vs:List Value} {i:Nat} {m:Str→Option Value},P.Nodup→P[i]?=some x→vs[i]?=some v→kindOf x=some .local→
  bindL kindOf (P.zip vs) m x=some v
 | [],_,_,_,_,h,_,_=>by simp at h
 | _::_,[],_,_,_,_,h,_=>by simp at h
 | p::P,w::vs,0,m,nd,h1,h2,hk=>by
  simp at h1 h2;subst h1;subst h2;show bindL kindOf ((p,w)::P.zip vs) m p=_
  unfold bindL;rw[ya λv hv=>(List.nodup_cons.mp nd).1 (acv hv).1,if_pos hk];simp
 | p::P,w::vs,i+1,m,nd,h1,h2,hk=>by
  show bindL kindOf ((p,w)::P.zip vs) m x=_
  unfold bindL;exact y8 (i:=i) (List.nodup_cons.mp nd).2 (by simpa using h1) (by simpa using h2) hk
theorem yi {kindOf:Str→Option NameKind} {x:Str} {v:Value}:∀{P:List Str} {vs:List Value} {i:Nat} {m:Str→Option Value},P.Nodup→P[i]?=some x→vs[i]?=some v→kindOf x≠some .local→
  bindC kindOf (P.zip vs) m x=some v
 | [],_,_,_,_,h,_,_=>by simp at h
 | _::_,[],_,_,_,_,h,_=>by simp at h
 | p::P,w::vs,0,m,nd,h1,h2,hk=>by
  simp at h1 h2;subst h1;subst h2;show bindC kindOf ((p,w)::P.zip vs) m p=_
  unfold bindC;rw[zb λv hv=>(List.nodup_cons.mp nd).1 (acv hv).1,if_neg hk];simp
 | p::P,w::vs,i+1,m,nd,h1,h2,hk=>by
  show bindC kindOf ((p,w)::P.zip vs) m x=_
  unfold bindC;exact yi (i:=i) (List.nodup_cons.mp nd).2 (by simpa using h1) (by simpa using h2) hk
noncomputable def start (N:List Str) (vs:List V):St:=vs.map some++aaj (N.length - vs.length) none
noncomputable def me (CX:CXT) (P:Program) (w:World) (K:PySem.W.Frag) (mg:Str→Option Value) (base:Heap) (N:List Str) (qual:Str) (scope:Scope) (f:Addr) (cd:Value) (A:Around) (outer:List Env) (s:Shared) (H:Hp) (E:XK):Cx where
 prog:=P
 w:=w
 K:=K
 mg:=mg
 base:=base
 A:=A.deeper (envOfC qual scope s.heap.objs.size f cd)
 N:=N
 s₀:=s
 H₀:=H
 env:=envOfC qual scope s.heap.objs.size f cd
 outer:=outer
 stack:=envOfC qual scope s.heap.objs.size f cd::outer
 ex:=[]
 calm:=true
 fn:=λ_=>true
 pn:=[]
 xe:=λe s'=>wpAny (model P w) (A.deeper (envOfC qual scope s.heap.objs.size f cd)) (leaving (envOfC qual scope s.heap.objs.size f cd) e) (λ_ s''=>CX outer H s E e s'') (λe' s''=>CX outer H s E e' s'') s'
theorem Cs {sc:Scope} {n:Nat} {x:Str} (h:sc.names.lookup x=some .cell):∃c,(cellsFrom n sc.names []).lookup x=some c:=by
 have q:=PySem.W.cellsFrom_some sc.names n [] (.inl h);exact Option.isSome_iff_exists.mp q
theorem Hm {CX:CXT} {P:Program} {w:World} {K:PySem.W.Frag} {mg:Str→Option Value} {base:Heap} {N ps:List Str} {qual:Str} {scope:Scope} {f:Addr} {cd:Value} {A:Around} {outer:List Env} {s s1:Shared} {H:Hp} {E:XK} {us:List Value} {vs:List V}
  (S:ax N ps scope) (hd:A.handled=none) (e0:Env0 P w K mg base A outer s H) (hl:vs.length=ps.length) (r:Vals vs us)
  (x:InCallC s s.heap.objs.size (bindL (envOfC qual scope s.heap.objs.size f cd).kindOf (ps.zip us) λ_=>none) (cellsFrom (s.heap.objs.size+1) scope.names []) (bindC (envOfC qual scope s.heap.objs.size f cd).kindOf (ps.zip us) λ_=>none) s1):
  Inv (me CX P w K mg base N qual scope f cd A outer s H E) [] (start N vs) H s1:=by
 have hpl:ps.length≤N.length:=by have:=congrArg ac8 S.pre;rw[ab0] at this;omega
 obtain ⟨h1,tk,rfl,hk⟩:=x.done;have noA:∀b:Addr,b∉(me CX P w K mg base N qual scope f cd A outer s H E).ex:=λb z=>absurd (show b∈([]:List Addr) from z) (by simp);refine ⟨⟨e0.mod,S.kind,rfl,rfl,aa4 _,λy z c h1 h2=>?_,λy hy=>?_,λy c _ h=>?_,λ_=>hd,Around.frames_deeper e0.frames,.inr ⟨rfl,rfl⟩,λb z=>absurd z (noA b),e0.bs,e0.bsz,λb _ _=>noA b,λb z=>absurd z (noA b),e0.ql,e0.frf⟩,
  rfl,e0.bare,Un.kept hk,⟨_,x.toInCall.ns,λi y v h1 h2 h3=>?_⟩,λy c h=>⟨_,x.cell y c h⟩,e0.hok.fresh (aa4 _),λy c h=>?_,λp hp=>absurd (show p∈([]:List (Addr×Obj)) from hp) (by simp),e0.hok.kept hk,?_⟩
 ·exact name_of_addr x.apart (PySem.mem_of_lookup h1) (PySem.mem_of_lookup h2)
 ·have hy:scope.names.lookup y=some .cell∨scope.names.lookup y=some .free:=hy;rcases hy with hy | hy
  ·exact Cs hy
  ·exact absurd rfl (S.nofree _ (PySem.mem_of_lookup hy))
 ·exact abu (x.above y c (PySem.mem_of_lookup h))
 ·have hi:i < vs.length:=by
   unfold start at h2;by_cases hi:i < vs.length
   ·exact hi
   ·rw[aab (by simpa using hi)] at h2;rw[ae3] at h2;split at h2 <;> cases h2
  have ha:vs[i]?=some v:=by
   unfold start at h2;rw[aaf (by simpa using hi),aa8] at h2;cases e:vs[i]? with
   | none=>rw[e] at h2;cases h2
   | some a=>rw[e] at h2;cases h2;rfl
  obtain ⟨u,hu,rv⟩:=r.get ha;have hp:ps[i]?=some y:=by
   rw[←S.pre,acx (by omega)];exact h1
  have ndP:ps.Nodup:=by rw[←S.pre];exact S.nd.sublist (ads _ _)
  refine ⟨u,rv,?_⟩;rcases S.par y (aac hp) with k | k
  ·exact .inl ⟨k,y8 ndP hp hu k⟩
  ·obtain ⟨c,e⟩:=Cs (n:=s.heap.objs.size+1) k;refine .inr ⟨.inl k,c,e,?_⟩;have q:=x.cell y c e;rw[yi ndP hp hu (by show scope.names.lookup y≠_;rw[k];decide)] at q;exact q
 ·exact e0.hok.fresh (abu (x.above y c (PySem.mem_of_lookup h)))
 ·unfold start;show _=N.length
  rw[aa2,aa0,abd];omega
theorem fn_of {CX:CXT} {P:Program} {w:World} {K:PySem.W.Frag} {mg:Str→Option Value} {base:Heap} {k:Nat} {f:Addr} {name qual:Str} {params:Arguments} {body:List Stmt} {scope:Scope} {dV kV doc pm cdv ct oc:Value} {an od:Option Addr}
  {osl:Array (Option Value)} {N ps:List Str} {sp:Sp} (lk:K.lookup f=some ⟨oc,od,.func (PySem.W.fnOf name qual params body scope dV kV doc pm an cdv ct),osl⟩) (hcd:PySem.W.codeIn K cdv qual=true) (S:ax N ps scope)
  (len:∀vs H Q E,sp vs H Q E→vs.length=ps.length)
  (hbody:∀(A:Around) (outer:List Env) (s:Shared) (H:Hp) (vs:List V) (Q:VK) (E:XK),fj k (A.deeper (envOfC qual scope s.heap.objs.size f cdv))→sp vs H Q E→
   ∃t,PSs (me CX P w K mg base N qual scope f cdv A outer s H E) body t∧t { nx:=λ_ H'=>Q .non H',rt:=Q } (start N vs) H):
  lu P w K mg base CX (k+1) f (PySem.W.fnOf name qual params body scope dV kV doc pm an cdv ct) ps sp:=by
 refine ⟨len,λA outer s H args us vs Q E hr e0 hb r hsp=>?_⟩;have hl:=len _ _ _ _ hsp;have KX:K.In s.heap:=e0.mod.kin.keeps λb o e=>(e0.bs b o e).1;have lim:s.heap.NoLimit:=e0.mod.nolimit.keeps λb o e=>(e0.bs b o e).1;have hkind:∀y∈ps.zip us,scope.names.lookup y.1=some .local∨(scope.names.lookup y.1=some .cell∧((cellsFrom (s.heap.objs.size+1) scope.names []).lookup y.1).isSome=true):=λ⟨n,v⟩ hy=>by
  rcases S.par n (acv hy).1 with q | q
  ·exact .inl q
  ·exact .inr ⟨q,PySem.W.cellsFrom_some _ _ _ (.inl q)⟩
 refine codeAny_call_function hr.depth (KX _ _ lk) rfl S.co S.gen rfl (PySem.W.codeRec_of KX hcd) (hb _ _ _ _ ?_);refine wpAny_newFunctionEnv_cells S.kind hkind λenv he s1 x=>?_;subst he;refine ⟨lim.keeps x.toInCall.keep,codeAny_func ?_⟩;obtain ⟨t,ht,hq⟩:=hbody A outer s H vs Q E (hr.deeper _) hsp;have I:Inv (me CX P w K mg base N qual scope f cdv A outer s H E) [] (start N vs) H s1:=Hm S hr.hd e0 hl r x;refine wpAny_mono (ht [] s1 (start N vs) H _ I hq) (λfl s' hs=>?_) λe s' hs=>hs;have fin:∀{σ':St} {H':Hp} {v:V} {u:Value},Inv (me CX P w K mg base N qual scope f cdv A outer s H E) [] σ' H' s'→RelV v u→Q v H'→CE outer P w H s Q u s':=
  λ{σ' H' v u} J rv q=>⟨v,H',J.os,J.bare,J.base,J.hok,rv,q⟩
 cases fl with
 | ret u=>
  obtain ⟨v,σ',H',J,rv,q⟩:=hs;exact fin J rv q
 | next=>
  obtain ⟨σ',H',J,q⟩:=hs;exact fin (v:=V.non) (u:=Value.none) J rfl q
 | brk=>
  obtain ⟨_,_,_,q⟩:=hs;exact False.elim q
 | cont=>
  obtain ⟨_,_,_,q⟩:=hs;exact False.elim q
section
variable {X:Cx} {x:Str} {p pos:Pos} {e:Expr} {es:List Expr} {t:TA} {id T:String} {r:List V→Hp→VK→Prop}
def tCB (r:List V→Hp→VK→Prop) (t:TA):TE:=λσ H Q=>t σ H λvs H1=>r vs H1 Q
theorem Kr (hc:gd X (.builtin id) r) (hg:Gl X x) (hm:X.mg x=none) (hv:bootBuiltins x=some (.builtin id)) (ha:PA X (e::es) t) (hn:x≠"__name__":=by decide) (hdb:(x==("__debug__":Str))=false:=by decide)
  (he:starEach (e::es) X.env=(false,eval e X.env)::starEach es X.env:=by rfl) (hpl:(backTo pos (starEach es X.env)).any (·.1)=false:=by rfl):PE X (.Call (.Name x p) (e::es) [] pos) (tCB r t):=by
 intro pins s σ H Q I h;refine wpAny_Call_Name_kw (ir I hg hm hv ?_ hn hdb);exact PyProof.Rows.callWith_builtin1 (thn (ha pos pins s σ H _ I h) λus s1 ⟨vs,H1,I1,r1,q1⟩=>hc pins s1 σ H1 vs us Q I1 r1 q1) he hpl
theorem Iv (hc:gd X (.type T) r) (hg:Gl X x) (hm:X.mg x=none) (hv:bootBuiltins x=some (.type T)) (ha:PA X (e::es) t) (hn:x≠"__name__":=by decide) (hdb:(x==("__debug__":Str))=false:=by decide)
  (he:starEach (e::es) X.env=(false,eval e X.env)::starEach es X.env:=by rfl) (hpl:(backTo pos (starEach es X.env)).any (·.1)=false:=by rfl):PE X (.Call (.Name x p) (e::es) [] pos) (tCB r t):=by
 intro pins s σ H Q I h;refine wpAny_Call_Name_kw (ir I hg hm hv ?_ hn hdb);exact PyProof.Rows.callWith_type1 (thn (ha pos pins s σ H _ I h) λus s1 ⟨vs,H1,I1,r1,q1⟩=>hc pins s1 σ H1 vs us Q I1 r1 q1) he hpl
end
end L2
namespace HT
open PySem PyProof.Rows
section
open PySem.SeqAt
open PySem.AutoSeq1 (wpAny_loadPart')
open PySem.MeetsSeq PySem.MeetsSeq2 PySem.MeetsSeq3
end
section
variable {prog:Program} {w:World} {A:Around} {E:Value→Shared→Prop} {s:Shared}
theorem Ou {t b:Addr} {vs ws:List Value} {Q:Value→Shared→Prop} (ht:IsTup s.heap t vs.toArray) (hb:IsTup s.heap b ws.toArray) (hv:vs≠[])
  (h1:ws=[]→Q (.ref t) s) (h2:ws≠[]→Q (.ref s.heap.objs.size) { s with heap:=s.heap.push { cls:=.type "tuple",data:=.seq (vs++ws).toArray } })
  (hsz:vs.length+ws.length≤sizeLine):wpAny (model prog w) A (binaryOp .Add (.ref t) (.ref b)) Q E s:=by
 obtain ⟨⟨cls,dd,data,sl⟩,ho,hc,n,hd⟩:=id ht;obtain ⟨⟨cls2,dd2,data2,sl2⟩,ho2,hc2,n2,hd2⟩:=id hb;simp only at hc hd hc2 hd2;subst hc hd hc2 hd2;have e:vs.toArray++ws.toArray=(vs++ws).toArray:=by simp
 by_cases hw:ws=[]
 ·exact concat_meets ⟨_,ho,rfl⟩ ⟨_,ho2,rfl⟩ noFill_tuple_add seq_tuple_add PySem.F.slot_tuple_add PySem.F.entry_tuple_add (PySem.F.args_tuple_add_2 _ _)
   (tuple_addW1 t b vs.toArray ws.toArray n n2 dd dd2 sl sl2 (by simpa using hv) (by simp[hw])) ⟨ho,ho2,h1 hw⟩
 ·refine concat_meets ⟨_,ho,rfl⟩ ⟨_,ho2,rfl⟩ noFill_tuple_add seq_tuple_add PySem.F.slot_tuple_add PySem.F.entry_tuple_add (PySem.F.args_tuple_add_2 _ _)
   (tuple_addW2 t b vs.toArray ws.toArray n n2 dd dd2 sl sl2 (by simpa using hv) (by simpa using hw) (by rw[aa6,aa6];exact hsz)) ⟨ho,ho2,?_⟩
  rw[e];exact h2 hw
noncomputable def sIx (n d:Nat):Option Int→Nat
 | none=>d
 | some v=>if v < 0 then (v+(n:Int)).toNat else min v.toNat n
theorem Df (n d:Nat):sIx n d none=d:=rfl
theorem Gw (n d k:Nat):sIx n d (some (k:Int))=min k n:=by
 show (if (k:Int) < 0 then ((k:Int)+(n:Int)).toNat else min (k:Int).toNat n)=min k n
 rw[if_neg (by omega),abw]
theorem sIx_le (n d:Nat) (hd:d≤n) (o:Option Int):sIx n d o≤n:=by
 cases o with
 | none=>exact hd
 | some v=>
  show (if v < 0 then (v+(n:Int)).toNat else min v.toNat n)≤n
  by_cases hv:v < 0
  ·rw[if_pos hv];omega
  ·rw[if_neg hv];exact Nat.min_le_right _ _
theorem Fu (v:Int) (n d:Nat):(if v < 0 then max (v+(n:Int)) 0 else min v (n:Int))=((sIx n d (some v):Nat):Int):=by
 show (if v < 0 then max (v+(n:Int)) 0 else min v (n:Int))=(((if v < 0 then (v+(n:Int)).toNat else min v.toNat n):Nat):Int)
 by_cases hv:v < 0
 ·simp only[if_pos hv];omega
 ·simp only[if_neg hv];omega
theorem Dq (lo hi:Option Int) (n:Nat):Builtin.Slice.sliceAdjust lo hi 1 (n:Int)=(((sIx n 0 lo:Nat):Int),((sIx n n hi:Nat):Int)):=by
 have h1:¬((1:Int) < 0):=by omega
 unfold Builtin.Slice.sliceAdjust;simp only[h1,if_false];refine Prod.ext ?_ ?_
 ·cases lo with
  | none=>rfl
  | some v=>exact Fu v n 0
 ·cases hi with
  | none=>rfl
  | some v=>exact Fu v n n
theorem Eb (i j:Nat):Builtin.Slice.slicePlaces (i:Int) (j:Int) 1=j - i:=by
 unfold Builtin.Slice.slicePlaces;have h1:(1:Int) > 0:=by omega
 simp only[h1,if_true,Int.ediv_one];split <;> omega
theorem vz {v:Value} {o:Option Int} {Q:Option Int→Shared→Prop} (p:IsPart v o) (h:Q o s):wpAny (model prog w) A (Builtin.Slice.slicePartIndex v) Q E s:=by
 cases p with
 | none=>exact slicePart_none h
 | int i t=>exact slicePart_int h
theorem jc {sl:Addr} {vl vu:Value} {lo hi:Option Int} {n:Nat} {Q:Int×Int×Nat→Shared→Prop} (hs:s.heap.IsSliceOf sl vl vu .none) (pl:IsPart vl lo) (pu:IsPart vu hi)
  (h:Q (((sIx n 0 lo:Nat):Int),1,sIx n n hi - sIx n 0 lo) s):wpAny (model prog w) A (Builtin.Slice.sliceApplied (.ref sl) (pure (n:Int))) Q E s:=by
 obtain ⟨os,hos,hcs,hds⟩:=id hs;unfold Builtin.Slice.sliceApplied Builtin.Slice.sliceFields;refine wpAny_bind (wpAny_bind (wpAny_field hos hds (x:=vl) rfl (wpAny_bind (wpAny_field hos hds (x:=vu) rfl (wpAny_bind (wpAny_field hos hds (x:=.none) rfl (wpAny_pure ?_)))))));refine wpAny_bind (slicePart_none ?_);show wpAny _ _ (if ((1:Int)==0)=true then _ else _) _ _ s
 rw[if_neg (by decide)];refine wpAny_bind (vz pl (wpAny_bind (vz pu (wpAny_bind (wpAny_pure ?_)))));show wpAny _ _ (match Builtin.Slice.sliceAdjust lo hi 1 (n:Int) with | (lo,hi)=>pure (lo,(1:Int),Builtin.Slice.slicePlaces lo hi 1)) _ _ s
 rw[Dq lo hi n];show wpAny _ _ (pure (((sIx n 0 lo:Nat):Int),(1:Int),Builtin.Slice.slicePlaces ((sIx n 0 lo:Nat):Int) ((sIx n n hi:Nat):Int) 1)) _ _ s
 rw[Eb];exact wpAny_pure h
theorem Mv (xs:Array Value) (i k:Nat):((aav k).filterMap λ(m:Nat)=>xs[((i:Int)+(m:Int)*1).toNat]?).toArray=((xs.toList.drop i).take k).toArray:=by
 have e:(λ(m:Nat)=>xs[((i:Int)+(m:Int)*1).toNat]?)=λm=>xs[i+m]?:=by
  funext m
  have:((i:Int)+(m:Int)*1).toNat=i+m:=by omega
  rw[this]
 rw[e];have:=pick_run xs i k;rw[List.filterMap_map] at this;have e2:((λx=>xs[x]?) ∘ λx=>i+x)=λm=>xs[i+m]?:=rfl;rw[e2] at this;rw[this]
theorem oy {t sl:Addr} {items:Array Value} {vl vu:Value} {lo hi:Option Int} {Q:Value→Shared→Prop} (ht:IsTup s.heap t items) (hs:s.heap.IsSliceOf sl vl vu .none) (pl:IsPart vl lo) (pu:IsPart vu hi)
  (hw:¬(sIx items.size 0 lo=0∧sIx items.size items.size hi=items.size))
  (h:Q (.ref s.heap.objs.size) { s with heap:=s.heap.push { cls:=.type "tuple",data:=.seq ((items.toList.drop (sIx items.size 0 lo)).take (sIx items.size items.size hi - sIx items.size 0 lo)).toArray } })
  (hsz:items.size≤sizeLine):wpAny (model prog w) A (getItem (.ref t) (.ref sl)) Q E s:=by
 have htake:sizeOk (.seq ((items.toList.drop (sIx items.size 0 lo)).take (sIx items.size items.size hi - sIx items.size 0 lo)).toArray):=by
  show ((items.toList.drop (sIx items.size 0 lo)).take (sIx items.size items.size hi - sIx items.size 0 lo)).toArray.size≤sizeLine
  rw[aa6,ab0,aao,abt];omega
 have hj:sIx items.size items.size hi≤items.size:=sIx_le _ _ (aa4 _) hi;obtain ⟨os,hos,hcs,hds⟩:=id hs;have hTs:s.TypeIs (.ref sl) "slice":=⟨os,hos,hcs⟩;unfold getItem;try with_reducible refine wpAny_holding ?_
 first | refine wpAny_bind (wpAny_pure ?_) | skip
 refine wpAny_bind (wpAny_sequenceKey ht.typeIs (by decide) ?_);refine wpAny_bind (wpAny_callSpecial?_slot (name:=Str.ofString "__getitem__") ht.typeIs PyProof.Rows.slot_tuple_getitem
  (wpAny_call_entry PyProof.Rows.slot_tuple_getitem ht.typeIs entry_tuple_getitem ?_ (args_tuple_getitem _ _)))
 show wpAny _ _ (Builtin.Tuple.tupleItemsOf (.ref t) >>=_) _ _ s
 refine wpAny_bind (tupleItemsOf_ ht ?_);refine wpAny_bind (wpAny_typeOf hTs ?_);rw[if_pos (by decide)];refine wpAny_bind (jc hs pl pu ?_);have hno:¬((((sIx items.size 0 lo:Nat):Int)==0&&(1:Int)==1&&(sIx items.size items.size hi - sIx items.size 0 lo)==items.size)=true):=by
  intro q;rw[ac9,ac9] at q;have q1:((sIx items.size 0 lo:Nat):Int)=0:=eq_of_beq q.1.1;have q2:sIx items.size items.size hi - sIx items.size 0 lo=items.size:=eq_of_beq q.2;exact hw ⟨by omega,by omega⟩
 show wpAny _ _ (if (((sIx items.size 0 lo:Nat):Int)==0&&(1:Int)==1&&(sIx items.size items.size hi - sIx items.size 0 lo)==items.size)=true then _ else _) _ _ s
 rw[if_neg hno,Mv];first
  | exact wpAny_bind (m:=Builtin.Tuple.tupleExact _) (wpAny_newObj_type (wpAny_pure ⟨_,rfl,wpAny_pure h⟩) htake)
  | exact wpAny_bind (m:=Builtin.Tuple.tupleExact _) (wpAny_newObj_type (wpAny_bind (wpAny_pure (wpAny_pure ⟨_,rfl,wpAny_pure h⟩))) htake)
  | exact wpAny_bind (wpAny_bind (m:=Builtin.Tuple.tupleExact _) (wpAny_newObj_type (wpAny_pure (wpAny_pure ⟨_,rfl,wpAny_pure h⟩)) htake))
  | exact wpAny_bind (wpAny_bind (m:=Builtin.Tuple.tupleExact _) (wpAny_newObj_type (wpAny_pure ⟨_,rfl,wpAny_pure h⟩) htake))
end
end HT
namespace L2
open PySem PySem.Spec PyProof.Rows
abbrev TO:=St→Hp→(Option Int→Hp→Prop)→Prop
def PO (X:Cx) (e:Option Expr) (t:TO):Prop:=
 ∀(pins:List (Addr×Obj)) (s:Shared) (σ:St) (H:Hp) (Q:Option Int→Hp→Prop),Inv X pins σ H s→t σ H Q→
  wpAny (model X.prog X.w) X.A (evalPart e X.env) (λu s'=>∃o H',Inv X pins σ H' s'∧IsPart u o∧Q o H') X.xe s
def Gi:TO:=λ_ H Q=>Q none H
def Lr (t:TE):TO:=λσ H Q=>t σ H λx H1=>∃i,x=.int i∧Q (some i) H1
section
variable {X:Cx} {e:Expr} {te:TE} {lo hi:Option Expr} {tl th:TO} {pos p2:Pos}
theorem oa:PO X none Gi:=by
 intro pins s σ H Q I h;rw[evalPart_none];exact wpAny_pure ⟨none,H,I,.none,h⟩
theorem P0 (h:PE X e te):PO X (some e) (Lr te):=by
 intro pins s σ H Q I hw;rw[evalPart_some];refine thn (h pins s σ H _ I hw) λu s1 ⟨x,H1,I1,r1,q1⟩=>?_;obtain ⟨i,rfl,q⟩:=q1;obtain ⟨t,rfl⟩:=r1;exact ⟨some i,H1,I1,.int i t,q⟩
def SlR (X:Cx) (r:V→Option Int→Option Int→Hp→VK→Prop):Prop:=
 ∀(pins:List (Addr×Obj)) (s:Shared) (σ:St) (H:Hp) (x:V) (v vl vu:Value) (lo hi:Option Int) (sl:Addr) (Q:VK),Inv X pins σ H s→RelV x v→s.heap.IsSliceOf sl vl vu .none→IsPart vl lo→IsPart vu hi→r x lo hi H Q→
  ∃T id,typeLookup (.type T) "__getitem__"=pure (some (.builtin id))∧s.TypeIs v T∧wpAny (model X.prog X.w) X.A (getItem v (.ref sl)) (EP X pins σ Q) X.xe s
def tSl (r:V→Option Int→Option Int→Hp→VK→Prop) (te:TE) (tl th:TO):TE:=λσ H Q=>te σ H λx H1=>tl σ H1 λl H2=>th σ H2 λu H3=>r x l u H3 Q
theorem J2 {r:V→Option Int→Option Int→Hp→VK→Prop} (hr:SlR X r) (he:PE X e te) (hl:PO X lo tl) (hu:PO X hi th):PE X (.Subscript e (.Slice lo hi none p2) pos) (tSl r te tl th):=by
 intro pins s σ H Q I h;refine Subscript_ (thn (he pins s σ H _ I h) λv s1 ⟨x,H1,I1,r1,q1⟩=>?_);refine wpAny_Slice (thn (hl pins s1 σ H1 _ I1 q1) λvl s2 ⟨l,H2,I2,pl,q2⟩=>thn (hu pins s2 σ H2 _ I2 q2) λvu s3 ⟨u,H3,I3,pu,q3⟩=>?_);rw[evalPart_none];refine wpAny_pure ?_;have I4:Inv X pins σ H3 { s3 with heap:=s3.heap.push { cls:=.type "slice",data:=.fields #[vl,vu,.none] } }:=I3.kept (t':=s3.toks) λb ob q=>Heap.get?_push_of_some _ q;obtain ⟨T,id,hT,ht,hg⟩:=hr pins { s3 with heap:=s3.heap.push { cls:=.type "slice",data:=.fields #[vl,vu,.none] } } σ H3 x v vl vu l u s3.heap.objs.size Q I4 r1 (Heap.IsSliceOf.new ..) pl pu q3;show wpAny (model X.prog X.w) X.A (subscriptTail e (.Slice lo hi none p2) v (.ref s3.heap.objs.size)) (EP X pins σ Q) X.xe { s3 with heap:=s3.heap.push { cls:=.type "slice",data:=.fields #[vl,vu,.none] } }
 exact tail_any (ops:=[.ref s3.heap.objs.size,v]) ht hT hg (by with_unfolding_all rfl)
noncomputable def ju (xs:List V) (lo hi:Option Int):List V:=(xs.drop (HT.sIx xs.length 0 lo)).take (HT.sIx xs.length xs.length hi - HT.sIx xs.length 0 lo)
theorem qy (xs:List V) (lo hi:Option Int):(ju xs lo hi).length≤xs.length:=by
 unfold ju;rw[ab0,aao];omega
def rSlT (K:PySem.W.Frag):V→Option Int→Option Int→Hp→VK→Prop:=λx lo hi H Q=>∃a xs,x=.ref a∧SqT K H a xs∧
 ¬(HT.sIx xs.length 0 lo=0∧HT.sIx xs.length xs.length hi=xs.length)∧∀p,H p=none→Q (.ref p) (upd H p (.tup (ju xs lo hi)))
theorem sl_tup:SlR X (rSlT X.K):=by
 intro pins s σ H x v vl vu lo hi sl Q I rx hs pl pu h;obtain ⟨a,xs,rfl,hx,hw,q⟩:=h;cases rx
 obtain ⟨its,r,ht,hz⟩:=I.tuple hx;have hlen:its.toArray.size=xs.length:=by rw[aa6];exact r.length.symm
 refine ⟨"tuple",_,PyProof.Rows.slot_tuple_getitem.lookup,ht.typeIs,?_⟩;refine HT.oy ht hs pl pu (by rw[hlen];exact hw) ?_ (by rw[hlen];exact hz);rw[hlen];refine ⟨.ref s.heap.objs.size,_,I.laid (t':=s.toks) (o:=.tup (ju xs lo hi)) (λb ob q=>Heap.get?_push_of_some _ q) (aa4 _) ?_,rfl,q _ (I.hok.fresh (aa4 _))⟩;exact ⟨aar (qy xs lo hi) hz,_,(r.drop (HT.sIx xs.length 0 lo)).take (HT.sIx xs.length xs.length hi - HT.sIx xs.length 0 lo),⟨_,Heap.get?_push_size _ rfl,rfl,_,rfl,rfl⟩⟩
def rCatT (K:PySem.W.Frag):R2:=λx y H Q=>∃a b xs ys,x=.ref a∧y=.ref b∧SqT K H a xs∧SqT K H b ys∧xs≠[]∧xs.length+ys.length≤sizeLine∧
 (ys=[]→Q (.ref a) H)∧(ys≠[]→∀p,H p=none→Q (.ref p) (upd H p (.tup (xs++ys))))
theorem Vals.t8 {xs:List V} {us:List Value} (r:Vals xs us):us=[]↔xs=[]:=by
 cases r with
 | nil=>simp
 | cons _ _=>simp
theorem Px:OpR X (binaryOp .Add) (rCatT X.K):=by
 intro pins s σ H x y v u Q I rx ry h;obtain ⟨a,b,xs,ys,rfl,rfl,ha,hb,hx,hz,q1,q2⟩:=h;cases rx
 cases ry
 obtain ⟨its,r1,p1,_⟩:=I.tuple ha;obtain ⟨its2,r2,p2,_⟩:=I.tuple hb;refine HT.Ou p1 p2 (λz=>hx (r1.t8.mp z)) (λz=>⟨.ref a,H,I,rfl,q1 (r2.t8.mp z)⟩) (λz=>?_) (by rw[←r1.length,←r2.length];exact hz);refine ⟨.ref s.heap.objs.size,_,I.laid (t':=s.toks) (o:=.tup (xs++ys)) (λb ob q=>Heap.get?_push_of_some _ q) (aa4 _) ?_,rfl,q2 (λw=>z (r2.t8.mpr w)) _ (I.hok.fresh (aa4 _))⟩;exact ⟨by rw[aa2];exact hz,_,r1.append r2,⟨_,Heap.get?_push_size _ rfl,rfl,_,rfl,rfl⟩⟩
end
noncomputable def ixN (n:Nat) (i:Int):Option Nat:=if 0≤i then (if i < n then some i.toNat else none) else if -(n:Int)≤i then some (i+n).toNat else none
noncomputable def atI {α:Type} (xs:List α) (i:Int):Option α:=(ixN xs.length i).bind λj=>xs[j]?
theorem Gz {n:Nat} {i:Int} {j:Nat} (h:ixN n i=some j):seqIndex? i n=some j∧j < n∧-(n:Int)≤i∧i < n:=by
 unfold ixN at h;by_cases h0:0≤i
 ·rw[if_pos h0] at h;by_cases h1:i < n
  ·rw[if_pos h1] at h;have e:i.toNat=j:=aa3 h;exact ⟨by rw[seqIndex_of h0 h1,e],by omega,by omega,h1⟩
  ·rw[if_neg h1] at h;cases h
 ·rw[if_neg h0] at h;by_cases h1:-(n:Int)≤i
  ·rw[if_pos h1] at h;have e:(i+n).toNat=j:=aa3 h;exact ⟨by rw[seqIndex_neg (by omega) h1,e],by omega,h1,by omega⟩
  ·rw[if_neg h1] at h;cases h
theorem Aa {α:Type} {xs:List α} {i:Int} {v:α} (h:atI xs i=some v):∃j,seqIndex? i xs.length=some j∧xs[j]?=some v∧j < xs.length∧-(xs.length:Int)≤i∧i < xs.length:=by
 unfold atI at h;cases e:ixN xs.length i with
 | none=>rw[e] at h;cases h
 | some j=>
  rw[e] at h;obtain ⟨h1,h2,h3,h4⟩:=Gz e;exact ⟨j,h1,h,h2,h3,h4⟩
theorem bb {α:Type} {xs:List α} {j:Nat} {v:α} (h:xs[j]?=some v):atI xs (j:Int)=some v:=by
 have hj:j < xs.length:=(List.getElem?_eq_some_iff.mp h).1;have e:ixN xs.length (j:Int)=some j:=by
  unfold ixN;rw[if_pos (by omega),if_pos (by omega)];simp
 unfold atI;rw[e];exact h
theorem Lp {α:Type} (xs:List α) (v:α):atI (xs++[v]) (-1)=some v:=by
 have hl:(xs++[v]).length=xs.length+1:=by simp
 have e:ixN (xs++[v]).length (-1)=some xs.length:=by
  unfold ixN;rw[hl,if_neg (by decide),if_pos (by omega)];congr 1
  omega
 unfold atI;rw[e];show (xs++[v])[xs.length]?=some v
 simp
def Om (b:Expr):Prop:=∀o i,subscripted b false o i=operate [o,i] (getItem o i)
def IxR (X:Cx) (r:R2):Prop:=
 ∀(value slice:Expr) (pins:List (Addr×Obj)) (s:Shared) (σ:St) (H:Hp) (x y:V) (v u:Value) (Q:VK),Inv X pins σ H s→RelV x v→RelV y u→r x y H Q→
  subscripted slice false v u=operate [v,u] (getItem v u)→wpAny (model X.prog X.w) X.A (subscriptTail value slice v u) (EP X pins σ Q) X.xe s
def MtR (X:Cx) (id:String) (r:V→List V→Hp→VK→Prop):Prop:=
 ∀(pins:List (Addr×Obj)) (s:Shared) (σ:St) (H:Hp) (x:V) (xs:List V) (v:Value) (us:List Value) (Q:VK),Inv X pins σ H s→RelV x v→Vals xs us→r x xs H Q→
  wpAny (model X.prog X.w) X.A (call (.builtin id) (v::us)) (EP X pins σ Q) X.xe s
section
variable {X:Cx} {a b:Expr} {ta tb:TE} {pos:Pos}
theorem pe_ix {r:R2} (hr:IxR X r) (ha:PE X a ta) (hb:PE X b tb) (hs:Om b):PE X (.Subscript a b pos) (tOp r ta tb):=by
 intro pins s σ H Q I h;exact Subscript_ (binT ha hb I h λv u s2 x y H2 I2 rx ry q=>hr a b pins s2 σ H2 x y v u Q I2 rx ry q (hs _ _))
def rIxL (K:PySem.W.Frag):R2:=λx y H Q=>∃p xs i v,x=.ref p∧y=.int i∧SqL K H p xs∧atI xs i=some v∧Q v H
def rIxT (K:PySem.W.Frag):R2:=λx y H Q=>∃p xs i v,x=.ref p∧y=.int i∧SqT K H p xs∧atI xs i=some v∧Q v H
def rIxS:R2:=λx y H Q=>∃z i c,x=.str z∧y=.int i∧z.length≤sizeLine∧atI z.cps.toList i=some c∧Q (.str ⟨#[c]⟩) H
theorem Fn:IxR X (rIxL X.K):=by
 intro value slice pins s σ H x y v u Q I rx ry h hs;obtain ⟨p,xs,i,z,rfl,rfl,hq,he,q⟩:=h;cases rx
 obtain ⟨t,rfl⟩:=ry;obtain ⟨its,r,pl,hz⟩:=I.list hq;obtain ⟨j,h1,h2,h3,h4,h5⟩:=Aa he;obtain ⟨w,ew,rw'⟩:=r.get h2;have hl:=r.length;have hn:=wj;have fin:EP X pins σ Q w s:=⟨z,H,I,rw',q⟩;by_cases h0:0≤i
 ·have hj:i.toNat=j:=by
   rw[seqIndex_of h0 h5] at h1;exact aa3 h1
  exact item_listR pl.isList h0 (by omega) (by rw[hj];simpa using ew) fin hs
 ·have hj:(i+(its.toArray.size:Int)).toNat=j:=by
   rw[seqIndex_neg (by omega) h4] at h1;rw[aa6,←hl];exact aa3 h1
  exact subscriptTail_builtinR (x:=w) pl.isList.typeIs slot_list_getitem.lookup
   (wpAny_getItem_list_neg (Q:=λr s'=>r=w∧EP X pins σ Q r s') pl.isList (by omega) (by rw[aa6] <;> omega) (by omega) (by rw[hj];simpa using ew) ⟨rfl,fin⟩) hs
theorem K3:IxR X (rIxT X.K):=by
 intro value slice pins s σ H x y v u Q I rx ry h hs;obtain ⟨p,xs,i,z,rfl,rfl,hq,he,q⟩:=h;cases rx
 obtain ⟨t,rfl⟩:=ry;obtain ⟨its,r,pl,hz⟩:=I.tuple hq;obtain ⟨j,h1,h2,h3,h4,h5⟩:=Aa he;obtain ⟨w,ew,rw'⟩:=r.get h2;have hl:=r.length;have hn:=wj;have fin:EP X pins σ Q w s:=⟨z,H,I,rw',q⟩;exact subscriptTail_builtinR (x:=w) pl.typeIs slot_tuple_getitem.lookup
  (getItem_tuple (j:=j) (Q:=λr s'=>r=w∧EP X pins σ Q r s') pl (by omega) (by omega) (by rw[aa6,←hl];exact h1) (by simpa using ew) ⟨rfl,fin⟩) hs
theorem ke:IxR X rIxS:=by
 intro value slice pins s σ H x y v u Q I rx ry h hs;obtain ⟨z,i,c,rfl,rfl,hz,he,q⟩:=h;obtain ⟨t,rfl⟩:=rx;obtain ⟨t',rfl⟩:=ry;obtain ⟨j,h1,h2,h3,h4,h5⟩:=Aa he;have hl:z.cps.toList.length=z.length:=by simp[Str.length]
 rw[hl] at h1 h4 h5;have hn:=wj;exact tail_any (typeIs_str s z t) slot_str_getitem.lookup (getItem_str (c:=c) (by
  have e1:decide (i < -(2 ^ 63:Int))=false:=decide_eq_false (by omega);have e2:decide (i≥2 ^ 63)=false:=decide_eq_false (by omega);rw[e1,e2,adq]) (by rw[h1];simpa using h2) ⟨.str ⟨#[c]⟩,H,I.tok _,⟨_,rfl⟩,q⟩) hs
theorem Eg (its:List Value) (n j:Nat) (u:Value):Obj.mapSeq (·.setIfInBounds j u) { cls:=.type "list",data:=.seq its.toArray n }={ cls:=.type "list",data:=.seq (its.set j u).toArray n }:=by
 simp[Obj.mapSeq]
theorem Inv.lst {pins:List (Addr×Obj)} {σ:St} {H:Hp} {s:Shared} {p:Addr} {xs:List V} (I:Inv X pins σ H s) (h:H p=some (.lst xs)):
  ∃(its:List Value) (n:Nat),Vals xs its∧s.heap.get? p=some { cls:=.type "list",data:=.seq its.toArray n }∧xs.length≤sizeLine:=by
 obtain ⟨z,its,n,r,e⟩:=I.hok p _ h;exact ⟨its,n,r,e,z⟩
theorem Inv.lstUpd {pins:List (Addr×Obj)} {σ:St} {H:Hp} {s:Shared} {p:Addr} {xs ys:List V} {its its':List Value} {n n':Nat} {f:Obj→Obj} (I:Inv X pins σ H s) (h:H p=some (.lst xs))
  (ho:s.heap.get? p=some { cls:=.type "list",data:=.seq its.toArray n }) (hf:f { cls:=.type "list",data:=.seq its.toArray n }={ cls:=.type "list",data:=.seq its'.toArray n' }) (r:Vals ys its') (hz:ys.length≤sizeLine) (t:Nat):
  Inv X pins σ (upd H p (.lst ys)) { s with heap:=s.heap.update p f,toks:=t }:=by
 have e:(s.heap.update p f).get? p=some { cls:=.type "list",data:=.seq its'.toArray n' }:=by
  rw[Heap.get?_update_self f ho (by rw[hf] <;> rfl),hf]
 refine I.write (x:=p) (e:=p) (by rw[h];trivial) (.inl rfl) (λb u hb q=>(Heap.get?_update_other _ _ (Ne.symm hb)).trans q) ⟨_,e⟩ ?_;exact ⟨hz,its',n',r,e⟩
def L7:V→V→V→Hp→(Hp→Prop)→Prop:=λo i v H Q=>∃p xs k j,o=.ref p∧i=.int k∧H p=some (.lst xs)∧ixN xs.length k=some j∧Q (upd H p (.lst (xs.set j v)))
theorem set_list:PSet X L7:=by
 intro pins s σ H o i v ov iv u Q I ro ri rv h;obtain ⟨p,xs,k,j,rfl,rfl,hp,hj,q⟩:=h;cases ro
 obtain ⟨t,rfl⟩:=ri;obtain ⟨its,n,r,ho,hz⟩:=I.lst hp;obtain ⟨h1,h2,h3,h4⟩:=Gz hj;have hl:=r.length;have hn:=wj;have I':Inv X pins σ (upd H p (.lst (xs.set j v))) { s with heap:=s.heap.update p (Obj.mapSeq (·.setIfInBounds j u)) }:=
  I.lstUpd hp ho (Eg its n j u) (r.set rv j) (by rw[af4];exact hz) s.toks
 by_cases h0:0≤k
 ·have hk:k.toNat=j:=by
   rw[seqIndex_of h0 h4] at h1;exact aa3 h1
  exact PySem.W.ki_setAt ho h0 (by omega) (by rw[aa6,←hl];exact h4) (by rw[hk];exact ⟨_,I',q⟩)
 ·have hk:(k+(its.toArray.size:Int)).toNat=j:=by
   rw[seqIndex_neg (by omega) h3] at h1;rw[aa6,←hl];exact aa3 h1
  exact PySem.W.ki_setBack ho (by omega) (by rw[aa6,←hl];exact h3) (by omega) (by rw[hk];exact ⟨_,I',q⟩)
theorem zz (lo hi:Option Int) (n:Nat):(sliceBounds lo hi none n).1=((HT.sIx n 0 lo:Nat):Int)∧(sliceBounds lo hi none n).2.1=((HT.sIx n n hi:Nat):Int)∧(sliceBounds lo hi none n).2.2=1:=by
 refine ⟨?_,?_,rfl⟩
 ·cases lo with
  | none=>simp[sliceBounds,HT.sIx]
  | some i=>
   simp only[sliceBounds,HT.sIx,adx,show (1:Int) > 0 by decide,if_true];by_cases h:i < 0
   ·simp only[h,if_true] <;> omega
   ·simp only[h,if_false] <;> omega
 ·cases hi with
  | none=>simp[sliceBounds,HT.sIx]
  | some i=>
   simp only[sliceBounds,HT.sIx,adx,show (1:Int) > 0 by decide,if_true];by_cases h:i < 0
   ·simp only[h,if_true] <;> omega
   ·simp only[h,if_false] <;> omega
theorem xt (its:List Value) (lo hi:Option Int):slicePick its.toArray lo hi none=((its.drop (HT.sIx its.length 0 lo)).take (HT.sIx its.length its.length hi - HT.sIx its.length 0 lo)).toArray:=by
 obtain ⟨h1,h2,h3⟩:=zz lo hi its.toArray.size;unfold slicePick;rw[h1,h2,h3];simp only[sliceRange_one,pick_run,aa6] <;> rfl
def rSlL (K:PySem.W.Frag):V→Option Int→Option Int→Hp→VK→Prop:=λx lo hi H Q=>∃a xs,x=.ref a∧SqL K H a xs∧∀p,H p=none→Q (.ref p) (upd H p (.lst (ju xs lo hi)))
theorem sx:SlR X (rSlL X.K):=by
 intro pins s σ H x v vl vu lo hi sl Q I rx hs pl pu h;obtain ⟨a,xs,rfl,hx,q⟩:=h;cases rx
 obtain ⟨its,r,ht,hz⟩:=I.list hx;have hlen:=r.length;refine ⟨"list",_,slot_list_getitem.lookup,ht.isList.typeIs,?_⟩;refine wpAny_getItem_list_slice ht.isList hs pl pu .none (by simp) ?_ (by rw[aa6] <;> omega);rw[xt,←hlen];refine ⟨.ref s.heap.objs.size,_,I.laid (t':=s.toks) (o:=.lst (ju xs lo hi)) (λb ob q=>Heap.get?_push_of_some _ q) (aa4 _) ?_,rfl,q _ (I.hok.fresh (aa4 _))⟩;exact ⟨aar (qy xs lo hi) hz,_,0,(r.drop (HT.sIx xs.length 0 lo)).take (HT.sIx xs.length xs.length hi - HT.sIx xs.length 0 lo),Heap.get?_push_size _ rfl⟩
noncomputable def ik:V→Bool
 | .non=>true
 | .bl _=>true
 | .int _=>true
 | .str _=>true
 | _=>false
noncomputable def eqV:V→V→Bool
 | .non,.non=>true
 | .bl a,.bl b=>a==b
 | .bl a,.int b=>(if a then 1 else 0)==b
 | .int a,.bl b=>a==(if b then 1 else 0)
 | .int a,.int b=>a==b
 | .str a,.str b=>a==b
 | _,_=>false
theorem eqAt_V {A:Around} {s:Shared} {y x:V} {u v:Value} (ry:RelV y u) (rx:RelV x v) (fy:ik y=true) (fx:ik x=true):SeqAt.EqAt A s u v (eqV y x):=by
 cases y with
 | non=>
  cases ry
  cases x with
  | non=>cases rx;exact SeqAt.EqAt.same _
  | bl b=>cases rx;exact SeqAt.EqAt.none_bool b
  | int b=>obtain ⟨t,rfl⟩:=rx;exact SeqAt.EqAt.none_int b t
  | str b=>obtain ⟨t,rfl⟩:=rx;exact SeqAt.EqAt.none_str b t
  | _=>exact absurd (show false=true from fx) aak
 | bl a=>
  cases ry
  cases x with
  | non=>cases rx;exact SeqAt.EqAt.bool_none a
  | bl b=>cases rx;exact SeqAt.EqAt.bool_bool a b
  | int b=>obtain ⟨t,rfl⟩:=rx;exact SeqAt.EqAt.bool_int a b t
  | str b=>obtain ⟨t,rfl⟩:=rx;exact SeqAt.EqAt.bool_str a b t
  | _=>exact absurd (show false=true from fx) aak
 | int a=>
  obtain ⟨t',rfl⟩:=ry;cases x with
  | non=>cases rx;exact SeqAt.EqAt.int_none a t'
  | bl b=>cases rx;exact SeqAt.EqAt.int_bool a t' b
  | int b=>obtain ⟨t,rfl⟩:=rx;exact SeqAt.EqAt.int_int a t' b t
  | str b=>obtain ⟨t,rfl⟩:=rx;exact SeqAt.EqAt.int_str a t' b t
  | _=>exact absurd (show false=true from fx) aak
 | str a=>
  obtain ⟨t',rfl⟩:=ry;cases x with
  | non=>cases rx;exact SeqAt.EqAt.str_none a t'
  | bl b=>cases rx;exact SeqAt.EqAt.str_bool a t' b
  | int b=>obtain ⟨t,rfl⟩:=rx;exact SeqAt.EqAt.str_int a t' b t
  | str b=>obtain ⟨t,rfl⟩:=rx;exact SeqAt.EqAt.str_str a t' b t
  | _=>exact absurd (show false=true from fx) aak
 | _=>exact absurd (show false=true from fy) aak
noncomputable def eqU (x:V) (u:Value):Bool:=match u with
 | .none=>eqV .non x
 | .bool b=>eqV (.bl b) x
 | .int i _=>eqV (.int i) x
 | .str z _=>eqV (.str z) x
 | _=>false
theorem M9 {x y:V} {u:Value} (r:RelV y u) (f:ik y=true):eqU x u=eqV y x:=by
 cases y with
 | non=>cases r;rfl
 | bl b=>cases r;rfl
 | int i=>obtain ⟨t,rfl⟩:=r;rfl
 | str z=>obtain ⟨t,rfl⟩:=r;rfl
 | _=>exact absurd (show false=true from f) aak
theorem n6 {x:V}:∀{xs:List V} {us:List Value},Vals xs us→xs.all ik=true→us.any (eqU x)=xs.any λy=>eqV y x
 | _,_,.nil,_=>rfl
 | y::xs,u::us,.cons r t,f=>by
  rw[List.all_cons,ac9] at f;rw[acs,acs,M9 r f.1,n6 t f.2]
theorem km {A:Around} {s:Shared} {x:V} {v:Value} (rx:RelV x v) (fx:ik x=true):∀{xs:List V} {us:List Value},Vals xs us→xs.all ik=true→∀u∈us,SeqAt.EqAt A s u v (eqU x u)
 | _,_,.nil,_=>λu hu=>by cases hu
 | y::xs,u::us,.cons r t,f=>λu' hu=>by
  rw[List.all_cons,ac9] at f;rcases List.mem_cons.mp hu with rfl | hu
  ·rw[M9 r f.1];exact eqAt_V r rx f.1 fx
  ·exact km rx fx t f.2 u' hu
noncomputable def inV (x:V) (xs:List V):Bool:=xs.any λy=>eqV y x
def rIn (K:PySem.W.Frag) (neg:Bool):R2:=λx y H Q=>∃p xs,y=.ref p∧(SqL K H p xs∨SqT K H p xs)∧ik x=true∧xs.all ik=true∧Q (.bl (if neg then !inV x xs else inV x xs)) H
theorem yl:OpR X (compareOp .In) (rIn X.K false):=by
 intro pins s σ H x y v u Q I rx ry h;obtain ⟨p,xs,rfl,hq,fx,fs,q⟩:=h;cases ry
 rcases hq with hq | hq
 ·obtain ⟨its,r,pl,hz⟩:=I.list hq;refine SeqAt.in_listAt (eqU x) pl.isList (λw hw=>km rx fx r fs w (by simpa using hw)) ⟨.bl _,H,I,rfl,?_⟩;rw[show its.toArray.any (eqU x)=its.any (eqU x) by simp,n6 r fs];exact q
 ·obtain ⟨its,r,pl,hz⟩:=I.tuple hq;refine SeqAt.in_tupleAt (eqU x) pl (λw hw=>km rx fx r fs w (by simpa using hw)) ⟨.bl _,H,I,rfl,?_⟩;rw[show its.toArray.any (eqU x)=its.any (eqU x) by simp,n6 r fs];exact q
theorem zd:OpR X (compareOp .NotIn) (rIn X.K true):=by
 intro pins s σ H x y v u Q I rx ry h;obtain ⟨p,xs,rfl,hq,fx,fs,q⟩:=h;cases ry
 rcases hq with hq | hq
 ·obtain ⟨its,r,pl,hz⟩:=I.list hq;refine SeqAt.notIn_listAt (eqU x) pl.isList (λw hw=>km rx fx r fs w (by simpa using hw)) ⟨.bl _,H,I,rfl,?_⟩;rw[show its.toArray.any (eqU x)=its.any (eqU x) by simp,n6 r fs];exact q
 ·obtain ⟨its,r,pl,hz⟩:=I.tuple hq;refine SeqAt.notIn_tupleAt (eqU x) pl (λw hw=>km rx fx r fs w (by simpa using hw)) ⟨.bl _,H,I,rfl,?_⟩;rw[show its.toArray.any (eqU x)=its.any (eqU x) by simp,n6 r fs];exact q
theorem zm:gd X (.builtin "len") (λxs H Q=>∃p ys,xs=[.ref p]∧(SqL X.K H p ys∨SqT X.K H p ys)∧Q (.int ys.length) H):=by
 intro pins s σ H xs us Q I r h;obtain ⟨p,ys,rfl,hq,q⟩:=h;obtain ⟨u,rfl,rx⟩:=vals1 r;cases rx
 have hn:=wj;rcases hq with hq | hq
 ·obtain ⟨its,r',pl,hz⟩:=I.list hq;have hlen:=r'.length;exact Calls.call_len_list pl.isList (by simp only[aa6] <;> omega) ⟨.int ys.length,H,I.tok _,⟨s.toks+1,by rw[aa6,hlen]⟩,q⟩
 ·obtain ⟨its,r',pl,hz⟩:=I.tuple hq;have hlen:=r'.length;exact len_tuple pl (by simp only[aa6] <;> omega) ⟨.int ys.length,H,I.tok _,⟨s.toks+1,by rw[aa6,hlen]⟩,q⟩
theorem xr:gd X (.type "tuple") (λxs H Q=>∃p ys,xs=[.ref p]∧((SqL X.K H p ys∧∀l,H l=none→Q (.ref l) (upd H l (.tup ys)))∨(SqT X.K H p ys∧Q (.ref p) H))):=by
 intro pins s σ H xs us Q I r h;obtain ⟨p,ys,rfl,h⟩:=h;obtain ⟨u,rfl,rx⟩:=vals1 r;cases rx
 rcases h with ⟨hq,q⟩ | ⟨hq,q⟩
 ·obtain ⟨its,r',pl,hz⟩:=I.list hq;have hlen:=r'.length;refine call_tuple_list pl.isList (λh' kp=>?_) (by simp only[aa6] <;> omega);have I1:Inv X pins σ H { s with heap:=h' }:=I.kept (t':=s.toks) kp;have I2:Inv X pins σ (upd H h'.objs.size (.tup ys)) { s with heap:=h'.push { cls:=.type "tuple",data:=.seq its.toArray } }:=
   I1.laid (t':=s.toks) (λb o e=>Heap.get?_push_of_some _ e) (aa4 _) (show bp X.prog X.w _ _ _ (.tup ys) from ⟨hz,its,r',⟨_,Heap.get?_push_size _ rfl,rfl,_,rfl,rfl⟩⟩)
  exact ⟨.ref h'.objs.size,_,I2,rfl,q _ (I1.hok.fresh (aa4 _))⟩
 ·obtain ⟨its,r',pl,hz⟩:=I.tuple hq;exact call_tuple_same pl ⟨.ref p,H,I,rfl,q⟩
def tyV (K:PySem.W.Frag) (T:String) (x:V) (H:Hp):Prop:=match x with
 | .str _=>T="str"
 | .int _=>T="int"
 | .ref p=>(T="list"∧∃xs,SqL K H p xs)∨(T="tuple"∧((∃o,K.lookup p=some o∧o.cls=.type "tuple"∧o.dict=none)∨∃xs,H p=some (.tup xs)))∨
   (T="dict"∧((∃kvs,H p=some (.dK kvs))∨∃kvs,H p=some (.dT kvs)))∨(T="set"∧∃S n,H p=some (.set S n))
 | _=>False
theorem Km {pins:List (Addr×Obj)} {σ:St} {H:Hp} {s:Shared} {T:String} {x:V} {v:Value} (I:Inv X pins σ H s) (r:RelV x v) (ty:tyV X.K T x H):
  s.TypeIs v T∧∀a,v=.ref a→∃ob,s.heap.get? a=some ob∧ob.dict=none:=by
 cases x with
 | str z=>
  obtain ⟨t,rfl⟩:=r;cases (show T="str" from ty)
  exact ⟨typeIs_str s z t,λ_ e=>nomatch e⟩
 | int i=>
  obtain ⟨t,rfl⟩:=r;cases (show T="int" from ty)
  exact ⟨typeIs_int s i t,λ_ e=>nomatch e⟩
 | ref p=>
  cases r
  rcases ty with ⟨rfl,xs,hq⟩ | ⟨rfl,⟨o,hk,hc,hd⟩ | ⟨xs,hx⟩⟩ | ⟨rfl,hk⟩ | ⟨rfl,S,n,hk⟩
  ·obtain ⟨its,_,pl,_⟩:=I.list hq;refine ⟨pl.isList.typeIs,λa e=>?_⟩;cases e
   obtain ⟨o,n,e,c,hd,_⟩:=pl;exact ⟨o,e,hd⟩
  ·refine ⟨⟨o,I.kIn p o hk,hc⟩,λa e=>?_⟩;cases e
   exact ⟨o,I.kIn _ o hk,hd⟩
  ·obtain ⟨_,its,_,o,h1,h2,n,_,h3⟩:=I.hok p _ hx;refine ⟨⟨o,h1,h2⟩,λa e=>?_⟩;cases e
   exact ⟨o,h1,h3⟩
  ·have z:∃o,s.heap.get? p=some o∧o.ExactDict:=by
    rcases hk with ⟨kvs,hk⟩ | ⟨kvs,hk⟩
    ·obtain ⟨_,_,_,_,o,_,_,e,ex,_⟩:=I.hok p _ hk;exact ⟨o,e,ex⟩
    ·obtain ⟨_,_,_,_,o,_,_,e,ex,_⟩:=I.hok p _ hk;exact ⟨o,e,ex⟩
   obtain ⟨o,e,ex⟩:=z;refine ⟨⟨o,e,ex.1⟩,λa e2=>?_⟩;cases e2
   exact ⟨o,e,ex.2.1⟩
  ·obtain ⟨o,_,_,_,e,ex,_⟩:=I.hok p _ hk;refine ⟨⟨o,e,ex.1⟩,λa e2=>?_⟩;cases e2
   exact ⟨o,e,ex.2.1⟩
 | _=>exact False.elim ty
def tBM0 (K:PySem.W.Frag) (T:String) (r:V→List V→Hp→VK→Prop) (to:TE):TE:=λσ H Q=>to σ H λx H1=>tyV K T x H1∧r x [] H1 Q
def tBM (K:PySem.W.Frag) (T:String) (r:V→List V→Hp→VK→Prop) (to:TE) (t:TA):TE:=λσ H Q=>to σ H λx H1=>tyV K T x H1∧t σ H1 λxs H2=>r x xs H2 Q
variable {o e:Expr} {es:List Expr} {to:TE} {t:TA} {name:Str} {apos cpos:Pos} {T id:String} {r:V→List V→Hp→VK→Prop}
theorem pe_bm0 (pa:PlainAttrs T) (slot:Slot T name id) (hty:typeOf (.builtin id)=pure (.type "method_descriptor")) (hm:MtR X id r) (ho:PE X o to)
  (hbase:attributeBase o name X.env (eval o X.env)=eval o X.env:=by rfl) (hline:(apos.endLine==cpos.line)=true:=by rfl):PE X (.Call (.Attribute o name apos) [] [] cpos) (tBM0 X.K T r to):=by
 intro pins s σ H Q I h;refine wpAny_Call_method0_late hbase hline (thn (ho pins s σ H _ I h) λv s1 ⟨x,H1,I1,r1,ty,q1⟩=>?_);obtain ⟨h1,h2⟩:=Km I1 r1 ty;exact ⟨T,id,pa,slot,hty,h1,h2,Calls.callWith_builtin rfl (PySem.evalArgs_none (hm pins s1 σ H1 x [] v [] Q I1 r1 .nil q1))⟩
theorem pe_bm (pa:PlainAttrs T) (slot:Slot T name id) (hty:typeOf (.builtin id)=pure (.type "method_descriptor")) (hm:MtR X id r) (ho:PE X o to) (ha:PA X (e::es) t)
  (hbase:attributeBase o name X.env (eval o X.env)=eval o X.env:=by rfl)
  (hfew:((backTo cpos (starEach (e::es) X.env)).all (λx=>!x.1)&&(backToKw cpos (keywordEach [] X.env)).all (λx=>x.1.isSome)
   &&decide ((e::es).length+([]:List Keyword).length+(if ([]:List Keyword).isEmpty then 0 else 1) < 30))=true:=by rfl)
  (hline:(apos.endLine==cpos.line)=true:=by rfl) (hs:starEach (e::es) X.env=(false,eval e X.env)::starEach es X.env:=by rfl) (hplain:(backTo cpos (starEach es X.env)).any (·.1)=false:=by rfl):
  PE X (.Call (.Attribute o name apos) (e::es) [] cpos) (tBM X.K T r to t):=by
 intro pins s σ H Q I h;refine wpAny_Call_method_late hbase hfew hline rfl (thn (ho pins s σ H _ I h) λv s1 ⟨x,H1,I1,r1,ty,q1⟩=>?_);obtain ⟨h1,h2⟩:=Km I1 r1 ty;refine ⟨T,id,pa,slot,hty,h1,h2,?_⟩;have hA:=ha cpos pins s1 σ H1 _ I1 q1;rw[hs] at hA ⊢;refine Calls.callWith_builtin (by show (false||(backTo cpos (starEach es X.env)).any (·.1))=false;rw[hplain] <;> rfl) (Calls.evalArgs_plain ?_);exact thn hA λus s2 ⟨vs,H2,I2,r2,q2⟩=>hm pins s2 σ H2 x vs v us Q I2 r1 r2 q2
end
def MtM (X:Cx) (id:String) (r:V→List V→Hp→VK→Prop):Prop:=
 ∀(pins:List (Addr×Obj)) (s:Shared) (σ:St) (H:Hp) (x:V) (xs:List V) (v:Value) (us:List Value) (Q:VK),Inv X pins σ H s→RelV x v→Vals xs us→r x xs H Q→
  wpAny (model X.prog X.w) X.A (call (.builtin id) (v::us)) (EP X pins σ Q) X.xe s
theorem Vals.one:∀{x:V} {us:List Value},Vals [x] us→∃u,us=[u]∧RelV x u
 | _,_,.cons r .nil=>⟨_,rfl,r⟩
theorem Vals.zero:∀{us:List Value},Vals [] us→us=[]
 | _,.nil=>rfl
theorem Vals.dropLast {xs:List V} {us:List Value} (h:Vals xs us):Vals xs.dropLast us.dropLast:=by
 induction h with
 | nil=>exact .nil
 | cons r t ih=>
  cases t with
  | nil=>exact .nil
  | cons q t'=>exact .cons r ih
theorem Vals.reverse {xs:List V} {us:List Value} (h:Vals xs us):Vals xs.reverse us.reverse:=by
 induction h with
 | nil=>exact .nil
 | cons r t ih=>rw[acg,acg];exact Vals.append ih (.cons r .nil)
theorem Vals.rep {xs:List V} {us:List Value} (h:Vals xs us):∀k:Nat,Vals (aaj k xs).flatten (aaj k us).flatten
 | 0=>.nil
 | k+1=>by
  rw[ab5,ab5,abx,abx];exact Vals.append h (Vals.rep h k)
theorem E8 {α:Type} (l:List α):l.eraseIdx (l.length - 1)=l.dropLast:=by
 induction l with
 | nil=>rfl
 | cons a r ih=>
  cases r with
  | nil=>rfl
  | cons b r=>
   have e:(a::b::r).length - 1=((b::r).length - 1)+1:=by
    have h1:(a::b::r).length=r.length+2:=rfl;have h2:(b::r).length=r.length+1:=rfl;omega
   rw[e,ae4,ih];all_goals rfl
theorem foldl_rep (its:List Value):∀(k:Nat) (acc:List Value),
  af5 (λx1 x2=>x1++x2) acc.toArray (aaj k its.toArray)=(acc++(aaj k its).flatten).toArray
 | 0,acc=>by simp
 | k+1,acc=>by
  have e:acc.toArray++its.toArray=(acc++its).toArray:=by simp
  have e2:(acc++its)++(aaj k its).flatten=acc++(aaj (k+1) its).flatten:=by
   rw[ab5,abx,abi]
  rw[←e2,←foldl_rep its k (acc++its),←e,ab5,af6]
section
variable {X:Cx} {pins:List (Addr×Obj)} {σ:St} {H:Hp} {s:Shared} {l b:Addr} {xs ys zs:List V}
theorem Inv.lset {its its':List Value} {n:Nat} {f:Array Value→Array Value} {t':Nat} (I:Inv X pins σ H s) (hH:H l=some (.lst xs))
  (e:s.heap.get? l=some { cls:=.type "list",data:=.seq its.toArray n }) (hf:f its.toArray=its'.toArray) (hv:Vals ys its') (hz:ys.length≤sizeLine):
  Inv X pins σ (upd H l (.lst ys)) { s with heap:=s.heap.update l (Obj.mapSeq f),toks:=t' }:=by
 have q:=PySem.IsL.update e f;rw[hf] at q;refine I.write (x:=l) (e:=l) (by rw[hH];exact trivial) (.inl rfl) (λb' u hb hu=>(Heap.get?_update_other s.heap (Obj.mapSeq f) (Ne.symm hb)).trans hu) ⟨_,q⟩ ?_;exact ⟨hz,its',_,hv,q⟩
theorem Inv.lnew {its:List Value} {t':Nat} (I:Inv X pins σ H s) (hv:Vals ys its) (hz:ys.length≤sizeLine):
  Inv X pins σ (upd H s.heap.objs.size (.lst ys)) { s with heap:=s.heap.push { cls:=.type "list",data:=.seq its.toArray },toks:=t' }:=
 I.laid (λ_ _ q=>Heap.get?_push_of_some _ q) (aa4 _) ⟨hz,its,0,hv,Heap.get?_push_size _ rfl⟩
theorem Inv.fresh (I:Inv X pins σ H s):H s.heap.objs.size=none:=I.hok.fresh (aa4 _)
theorem Inv.Ef (I:Inv X pins σ H s) (hH:H l=some (.lst xs)):xs.length≤sizeLine∧∃(its:List Value) (n:Nat),Vals xs its∧xs.length=its.length∧s.heap.get? l=some { cls:=.type "list",data:=.seq its.toArray n }:=by
 obtain ⟨z,its,n,r,e⟩:=I.hok l _ hH;exact ⟨z,its,n,r,r.length,e⟩
theorem B1 {n:Nat} (h:n≤sizeLine):Builtin.List.listTooLong n=false:=by
 unfold Builtin.List.listTooLong;exact decide_eq_false (by omega)
end
section
variable {X:Cx}
def oq:V→List V→Hp→VK→Prop:=λx vs H Q=>∃l xs y,x=.ref l∧vs=[y]∧H l=some (.lst xs)∧xs.length < sizeLine∧Q .non (upd H l (.lst (xs++[y])))
theorem yq:MtM X "list.append" oq:=by
 intro pins s σ H x vs v us Q I rx rv h;obtain ⟨l,xs,y,rfl,rfl,hH,hz,q⟩:=h;cases rx
 obtain ⟨u,rfl,ru⟩:=rv.one;obtain ⟨z,its,n,r,hl,e⟩:=I.Ef hH;refine call_meets F.slot_list_append ⟨_,e,rfl⟩ F.entry_list_append (F.args_list_append_2 _ _) (PySem.list_append l its.toArray n u (by rw[aa6];omega)) ⟨e,?_⟩;refine ⟨.non,_,I.lset (its':=its++[u]) hH e (by simp) (r.append (.cons ru .nil)) ?_,rfl,q⟩;rw[aa2,aag];omega
def Qt:V→List V→Hp→VK→Prop:=λx vs H Q=>∃l b xs zs,x=.ref l∧vs=[.ref b]∧H l=some (.lst xs)∧H b=some (.lst zs)∧xs.length+zs.length≤sizeLine∧Q .non (upd H l (.lst (xs++zs)))
theorem lj:MtM X "list.extend" Qt:=by
 intro pins s σ H x vs v us Q I rx rv h;obtain ⟨l,b,xs,zs,rfl,rfl,hH,hB,hz,q⟩:=h;cases rx
 obtain ⟨u,rfl,ru⟩:=rv.one;cases ru
 obtain ⟨z,its,n,r,hl,e⟩:=I.Ef hH;obtain ⟨z2,its2,n2,r2,hl2,e2⟩:=I.Ef hB;have hsz:its.toArray.size+its2.toArray.size≤sizeLine:=by rw[aa6,aa6];omega
 have hlong:¬(!its.toArray.isEmpty&&Builtin.List.listTooLong (its.toArray.size+its2.toArray.size))=true:=by
  rw[B1 hsz,aea];exact aak
 refine call_meets F.slot_list_extend ⟨_,e,rfl⟩ F.entry_list_extend (F.args_list_extend_2 _ _)
  (AutoSeq1.list_extend_list_list_0 l its.toArray n b its2.toArray n2 hlong (by rw[aa6];omega) (by omega)) ⟨e,e2,?_⟩
 refine ⟨.non,_,I.lset (its':=its++its2) hH e (by simp) (r.append r2) ?_,rfl,q⟩;rw[aa2];omega
def rPop:V→List V→Hp→VK→Prop:=λx vs H Q=>∃l xs y,x=.ref l∧vs=[]∧H l=some (.lst xs)∧xs[xs.length - 1]?=some y∧Q y (upd H l (.lst xs.dropLast))
theorem qt:MtM X "list.pop" rPop:=by
 intro pins s σ H x vs v us Q I rx rv h;obtain ⟨l,xs,y,rfl,rfl,hH,hy,q⟩:=h;cases rx
 have hus:=rv.zero;subst hus;obtain ⟨z,its,n,r,hl,e⟩:=I.Ef hH;obtain ⟨u,hu,ru⟩:=r.get hy;have hy':its.toArray[its.toArray.size - 1]?=some u:=by
  show its.toArray[its.length - 1]?=some u
  rw[←aci,←hl];exact hu
 refine call_meets F.slot_list_pop ⟨_,e,rfl⟩ F.entry_list_pop (F.args_list_pop_1 _) (MeetsSeq.list_pop_last l its.toArray n u hy' (by rw[aa6];omega)) ⟨e,?_⟩;refine ⟨y,_,I.lset (its':=its.dropLast) hH e ?_ r.dropLast ?_,ru,q⟩
 ·show its.toArray.eraseIdxIfInBounds (its.toArray.size - 1)=its.dropLast.toArray
  rw[aa6,adb,E8]
 ·rw[adg];omega
def rCat:R2:=λx y H Q=>∃l b xs zs,x=.ref l∧y=.ref b∧H l=some (.lst xs)∧H b=some (.lst zs)∧xs.length+zs.length≤sizeLine∧∀p,H p=none→Q (.ref p) (upd H p (.lst (xs++zs)))
theorem op_cat:OpR X (binaryOp .Add) rCat:=by
 intro pins s σ H x y v u Q I rx ry h;obtain ⟨l,b,xs,zs,rfl,rfl,hH,hB,hz,q⟩:=h;cases rx
 cases ry
 obtain ⟨z,its,n,r,hl,e⟩:=I.Ef hH;obtain ⟨z2,its2,n2,r2,hl2,e2⟩:=I.Ef hB;refine PySem.P.add_list e e2 ?_ (by rw[aa6,aa6];omega);have ea:its.toArray++its2.toArray=(its++its2).toArray:=by simp
 rw[ea];exact ⟨.ref _,_,I.lnew (t':=s.toks) (r.append r2) (by rw[aa2];omega),rfl,q _ I.fresh⟩
def rRep:R2:=λx y H Q=>∃l k xs,x=.ref l∧y=.int k∧H l=some (.lst xs)∧-(2 ^ 63)≤k∧k < 2 ^ 63∧xs.length*k.toNat≤sizeLine∧
 ∀p,H p=none→Q (.ref p) (upd H p (.lst (aaj k.toNat xs).flatten))
theorem len_rep {α:Type} (xs:List α) (k:Nat):(aaj k xs).flatten.length=k*xs.length:=by
 induction k with
 | zero=>simp
 | succ k ih=>rw[ab5,abx,aa2,ih,Nat.succ_mul,ady]
theorem op_rep:OpR X (binaryOp .Mult) rRep:=by
 intro pins s σ H x y v u Q I rx ry h;obtain ⟨l,k,xs,rfl,rfl,hH,h1,h2,hz,q⟩:=h;cases rx
 obtain ⟨t,rfl⟩:=ry;obtain ⟨z,its,n,r,hl,e⟩:=I.Ef hH;have hlen:its.toArray.size*k.toNat≤sizeLine:=by rw[aa6,←hl];exact hz
 have hcap:¬its.toArray.size*k.toNat > (2 ^ 63 - 1) / 8:=by
  have:(sizeLine:Nat)≤(2 ^ 63 - 1) / 8:=by decide
  omega
 have hfit:¬(!Builtin.List.listFitsIndex k)=true:=by
  rw[fitsIndex_both h1 h2];exact aak
 have hlong:¬Builtin.List.listTooLong (its.toArray.size*k.toNat)=true:=by
  rw[B1 hlen];exact aak
 have hnew:af5 (λx1 x2=>x1++x2) #[] (aaj (if its.toArray.isEmpty=true then 0 else k.toNat) its.toArray)=(aaj k.toNat its).flatten.toArray:=by
  have f0:∀m:Nat,af5 (λx1 x2=>x1++x2) #[] (aaj m its.toArray)=(aaj m its).flatten.toArray:=λm=>by
   have:=foldl_rep its m [];rw[adh] at this;exact this
  rw[f0];cases its with
  | nil=>simp
  | cons a r'=>rw[if_neg (by simp)]
 refine wpAny_binaryOp_repeat_ref (T:="list") (U:="int") (by decide) ⟨_,e,rfl⟩ (λs'=>typeIs_int s' k t) noFill_list_mul F.fills_int_mul F.slot_int_rmul repeat_list F.slot_int_index.lookup
  (call_meets F.slot_int_rmul (typeIs_int s k t) F.entry_int_rmul (F.args_int_rmul_2 _ _) (int___rmul___int_list k t l its.toArray n)
   ⟨e,rfl,⟨_,e,rfl⟩,call_meets F.slot_list_mul ⟨_,e,rfl⟩ F.entry_list_mul (F.args_list_mul_2 _ _) (AutoListH.list___mul___list_int_3 l its.toArray n k t hfit hcap hlong) ⟨e,?_⟩⟩)
 rw[hnew];exact ⟨.ref _,_,I.lnew (t':=s.toks) (r.rep k.toNat) (by rw[len_rep,Nat.mul_comm];exact hz),rfl,q _ I.fresh⟩
end
section
variable {prog:Program} {w:World} {A:Around} {E:Value→Shared→Prop} {s:Shared}
set_option maxRecDepth 100000 in
end
end L2
namespace Att
open PySem PySem.W PySem.Calls PyProof.Rows
theorem sm {P:Params} {h:Heap}:∀(ns:List Int) (vs:List Value),WellAll P h vs (ns.map WData.int)→IntsAre vs ns:=by
 intro ns;induction ns with
 | nil=>
  intro vs w;rw[adz] at w;cases w
  exact .nil
 | cons n ns ih=>
  intro vs w;rw[aau] at w;cases w with
  | cons a b=>
   cases a
   exact .cons _ _ (ih _ b)
theorem Hu {l:OpenLaw} {n:Nat} (hn:l.most=some n) {P:Params} {h:Heap} {args:List WData} {vals:List Value}
  (hpre:l.row.toRowW.claim.pre args=true) (hwl:WellAll P h vals args):
  ∃a vs ns,vals=[Value.ref a]∧args=[WData.list (ns.map WData.int)]∧h.get? a=some { cls:=.type "list",data:=.seq vs.toArray }∧IntsAre vs ns∧ns.length≤n:=by
 have hsh:WShape.hasAll [] args [.list .int]=true:=(pre_splitW hpre).1;have hc:l.pre.holds [] { args:=args }=true:=(pre_splitW hpre).2;obtain ⟨d,r,rfl,h1,h2⟩:=hasAllW_cons hsh;obtain rfl:=hasAllW_nil h2;obtain ⟨xs,rfl,h3⟩:=hasW_list h1;obtain ⟨ns,rfl⟩:=items_int h3;have hlen:ns.length≤n:=by
  unfold OpenLaw.pre at hc;have h4:(WTm.not (.lt (.lit (.int (n:Int))) (.len (.arg 0)))).holds [] { args:=[.list (ns.map .int)] }=true:=by
   have h4:=(holds_andW hc).1;rw[hn] at h4;exact h4
  have h5:=condW_of h4 (w_not (w_lt w_lit (w_len_list (w_arg rfl))));rw[aa0] at h5;refine aex λq=>?_;have q':(n:Int) < ((ns.length:Nat):Int):=by omega
  first
   | (rw[decide_eq_true q'] at h5;exact absurd h5 (by decide))
   | (simp at h5;omega)
 cases hwl with
 | cons w1 w2=>
  cases w2
  cases w1 with
  | list ho hall=>exact ⟨_,_,ns,rfl,rfl,ho,sm ns _ hall,hlen⟩
theorem Im (l:OpenLaw) (args:List WData):l.row.toRowW.claim.post args (.bool true) args=true:=
 postW_of (r:=l.row.toRowW) (X:=(true==true))
  (show WShape.has [] (.bool true) .bool=true by first | rfl | decide | simp[WShape.has,WShape.arms,WShape.armsAll])
  (show (WTm.eq .res (.lit (.bool true))).value [] { args:=args,res:=some (.bool true),after:=args }=some (.bool (true==true)) from w_eq_bool (w_res rfl) w_lit) rfl
theorem Bl {l:OpenLaw} {n:Nat} {q:Program} {loose:List Str} {XP:(Str→Option Value)→Heap→Prop} {YP:World→Heap→Prop} {d:DefRec}
  (hn:l.most=some n) (hdf:d.params.defaults=[])
  (call:∀(w:World) (s₀ s₁:Shared) (mg mb:Str→Option Value) (fa:Addr) (o:Obj) (pm cd doc:Value) (a:Addr) (vs:List Value) (ns:List Int),
   Ground q loose [] XP w s₀ mg mb s₁.heap→YP w s₁.heap→
   s₁.heap.get? fa=some o→o.data=.func (docDef d.name d.params d.body d.scope pm cd doc)→s₁.heap.CodeRec cd d.name→mg d.name=some (.ref fa)→
   s₁.heap.get? a=some { cls:=.type "list",data:=.seq vs.toArray }→IntsAre vs ns→ns.length≤n→s₁.gens=#[]→
   codeAny (model l.prog w) callerA (.call (.ref fa) ⟨[.ref a],[]⟩) (λr s'=>r=.ok (.ret (.bool true))∧OldK s₁.heap s'.heap∧s'.os=s₁.os∧AllBare s'.gens) s₁):
  WalkO q loose XP YP l.row.toRowW d [] (λf vs=>PySem.call f vs):=by
 intro w s₀ s₁ mg mb G Y fa o pm cd doc dV kV ho hd hcd hD hmg hg args vals as hpre hlay hrd hwl hlo;obtain rfl:dV=.none:=Dflts.none hD hdf;obtain rfl:kV=.none:=Dflts.noKw hD;obtain ⟨a,vs,ns,rfl,rfl,hobj,hints,hlen⟩:=Hu hn hpre hwl;refine enter_call (codeAny_mono (call w s₀ s₁ mg mb fa o pm cd doc a vs ns G Y ho (fd_plain hd) hcd hmg hobj hints hlen hg) λr s' hq=>?_);obtain ⟨rfl,h2,h3,h4⟩:=hq;exact ⟨.inl ⟨.bool true,.bool true,[],rfl,λ_=>rfl,.bool true,Im l _,λ_=>⟨aeu,λ_ hm=>(nomatch hm)⟩⟩,h2,h3,h4⟩
end Att
namespace L2
open PySem PySem.Spec PyProof.Rows
theorem ye:∀{vs:List Value} {ns:List Int},IntsAre vs ns→Vals (ns.map V.int) vs
 | _,_,.nil=>.nil
 | _,_,.cons n t h=>.cons ⟨t,rfl⟩ (ye h)
def Only (H:Hp):Prop:=∀b,H b=none∨∃o xs,H b=some (.frz o (.lst xs))
theorem Ju {P:Program} {w:World} {K:PySem.W.Frag} {mg mb:Str→Option Value} {CX:CXT} {k:Nat} {fa a:Addr} {fd:FuncData} {x:Str} {sp:Sp} {s₁:Shared} {vs:List Value} {ns:List Int}
  (KX:K.In s₁.heap) (hns:s₁.heap.Ns mainGlobals mg) (hb:s₁.heap.Ns builtinsNs mb) (hbb:∀x:Str,x≠"__name__"→mb x=bootBuiltins x) (hlim:s₁.heap.NoLimit) (hg:s₁.gens=#[])
  (ha:s₁.heap.get? a=some { cls:=.type "list",data:=.seq vs.toArray }) (hi:IntsAre vs ns) (hl:ns.length≤sizeLine) (hr:fj k callerA)
  (F:∀base:Heap,K.In base→base.Ns mainGlobals mg→lu P w K mg base CX k fa fd [x] sp) (hbind:∀(s:Shared) (u:Value),BindsTo s fd ⟨[u],[]⟩ [(x,u)])
  (hsp:∀H:Hp,Only H→SqL K H a (ns.map V.int)→sp [.ref a] H (λv _=>v=.bl true) λ_ _ _=>False)
  (hCX:∀H e s',CX [] H s₁ (λ_ _ _=>False) e s'→False):
  codeAny (model P w) callerA (.call (.ref fa) ⟨[.ref a],[]⟩) (λr s'=>r=.ok (.ret (.bool true))∧OldK s₁.heap s'.heap∧s'.os=s₁.os∧AllBare s'.gens) s₁:=by
 have rv:=ye hi;have lenV:=hi.length;have core:∀H:Hp,Only H→SqL K H a (ns.map V.int)→HOk P w H s₁.heap→(∀b,H b≠none→b=a)→(H a≠none→K.lookup a=none)→
   codeAny (model P w) callerA (.call (.ref fa) ⟨[.ref a],[]⟩) (λr s'=>r=.ok (.ret (.bool true))∧OldK s₁.heap s'.heap∧s'.os=s₁.os∧AllBare s'.gens) s₁:=by
  intro H hO hS hok hA hK;have base_of:∀{b:Addr} {o:Obj},s₁.heap.get? b=some o→H b=none→(Ae s₁.heap H).get? b=some o:=λe n=>Md e n;have noA:∀{b:Addr} {o:Obj} {es:Array DictEntry} {ep:Nat},s₁.heap.get? b=some o→o.data=.dict es ep→H b=none:=λ{b o es ep} e d=>by
   cases q:H b with
   | none=>rfl
   | some u=>
    have e':b=a:=hA b (by rw[q];simp);subst e';rw[ha] at e;cases e;have d':Data.seq vs.toArray _=Data.dict es ep:=d;cases d'
  have nsK:∀{b:Addr} {m:Str→Option Value},s₁.heap.Ns b m→(Ae s₁.heap H).Ns b m:=λ{b m} ⟨o,es,ep,e,d,r⟩=>⟨o,es,ep,base_of e (noA e d),d,r⟩;have hKb:K.In (Ae s₁.heap H):=λb o e=>base_of (KX b o e) (by
   cases q:H b with
   | none=>rfl
   | some u=>
    have e':b=a:=hA b (by rw[q];simp);subst e';rw[hK (by rw[q];simp)] at e;cases e)
  have hM:Mod K mg (Ae s₁.heap H):=⟨hKb,nsK hns,⟨mb,nsK hb,hbb⟩,let ⟨mc,h1,h2⟩:=hlim;⟨mc,nsK h1,h2⟩⟩;have e0:Env0 P w K mg (Ae s₁.heap H) callerA [] s₁ H:=⟨rfl,hM,λb o e=>P7 e,Nat.le_of_eq (Hx _ _),trivial,λb hb=>absurd (show b∈([]:List Addr) from hb) (by simp),hok,.of_eq hg⟩;refine codeAny_mono ((F _ hKb (nsK hns)).run callerA [] s₁ H ⟨[.ref a],[]⟩ [.ref a] [.ref a] _ _ hr e0 (hbind s₁ (.ref a)) (.cons rfl .nil) (hsp H hO hS)) λr s' h=>?_;cases r with
  | error e=>exact (hCX H e s' h).elim
  | ok fl=>
   cases fl with
   | next=>exact False.elim h
   | brk=>exact False.elim h
   | cont=>exact False.elim h
   | ret u=>
    obtain ⟨v,H',os,bare,un,hok',r',q⟩:=h;have q':v=.bl true:=q;subst q';obtain rfl:u=Value.bool true:=r';refine ⟨rfl,OldK.of_keep λb o e=>?_,os,bare⟩;cases q:H b with
    | none=>exact un.keep b o e q (by intro z;exact absurd (show b∈([]:List Addr) from z) (by simp)) (by simp)
    | some u=>
     rcases hO b with z | ⟨ob,xs,z⟩
     ·rw[q] at z;cases z
     ·have z2:=un.frzs b ob _ z;obtain ⟨e1,_⟩:=hok b _ z;obtain ⟨e2,_⟩:=hok' b _ z2;rw[e] at e1;cases e1;exact e2
 cases hk:K.lookup a with
 | some o=>
  have e:=KX a o hk;rw[ha] at e;cases e
  refine core (λ_=>none) (λ_=>.inl rfl) (.inr ⟨_,vs.toArray,_,hk,rfl,rfl,rfl,by rw[aa6,lenV];exact hl,by simpa using rv⟩) (λb u z=>by have z':(none:Option HO)=some u:=z;cases z') (λb z=>absurd rfl z) λz=>absurd rfl z
 | none=>
  refine core (λb=>if b=a then some (.frz { cls:=.type "list",data:=.seq vs.toArray } (.lst (ns.map V.int))) else none) (λb=>?_) (.inl (.inr ⟨{ cls:=.type "list",data:=.seq vs.toArray },if_pos rfl⟩)) (λb u z=>?_) (λb z=>?_) λ_=>hk
  ·by_cases hb:b=a
   ·exact .inr ⟨_,_,if_pos hb⟩
   ·exact .inl (if_neg hb)
  ·by_cases hb:b=a
   ·have z':=(if_pos hb).symm.trans z;cases z'
    subst hb;exact ⟨ha,by rw[aa0];exact hl,vs,_,rv,ha⟩
   ·have z':=(if_neg hb).symm.trans z;cases z'
  ·by_cases hb:b=a
   ·exact hb
   ·exact absurd (if_neg hb) z
noncomputable abbrev KOf {K:PySem.W.Frag} {h:Heap} (_:K.In h):PySem.W.Frag:=K
theorem Qh {l:PySem.W.OpenLaw} {n k:Nat} {q:Program} {loose:List Str} {XP:(Str→Option Value)→Heap→Prop} {YP:World→Heap→Prop} {d:DefRec} {K:Params→PySem.W.Frag} {CX:World→CXT} {sp:World→Sp} {x:Str}
  (hn:l.most=some n) (hn2:n≤sizeLine) (hdf:d.params.defaults=[]) (hr:fj k callerA)
  (hY:∀(w:World) (h:Heap),YP w h→(K w.params).In h)
  (F:∀(w:World) (mg:Str→Option Value) (fa:Addr) (h:Heap),(K w.params).In h→h.Ns mainGlobals mg→mg d.name=some (.ref fa)→
   ∃fd:FuncData,(∀(s:Shared) (u:Value),BindsTo s fd ⟨[u],[]⟩ [(x,u)])∧
    ∀base:Heap,(K w.params).In base→base.Ns mainGlobals mg→lu l.prog w (K w.params) mg base (CX w) k fa fd [x] (sp w))
  (hsp:∀(w:World) (H:Hp) (a:Addr) (ns:List Int),ns.length≤n→Only H→SqL (K w.params) H a (ns.map V.int)→sp w [.ref a] H (λv _=>v=.bl true) λ_ _ _=>False)
  (hCX:∀(w:World) (H:Hp) (s:Shared) (e:Value) (s':Shared),CX w [] H s (λ_ _ _=>False) e s'→False):
  PySem.W.WalkO q loose XP YP l.row.toRowW d [] (λf vs=>PySem.call f vs):=by
 refine Att.Bl hn hdf λw s₀ s₁ mg mb fa o pm cd doc a vs ns G Y ho hd hcd hmg hobj hints hlen hg=>?_;have KX:=hY w _ Y;obtain ⟨fd,hb,hF⟩:=F w mg fa _ KX G.T.g hmg;exact Ju KX G.T.g G.T.b G.T.builtins G.T.nolimit hg hobj hints (aar hlen hn2) hr hF hb (λH hO hS=>hsp w H a ns hlen hO hS) λH e s'=>hCX w H s₁ e s'
noncomputable def ba (s:Stmt):Arguments:=match s with
 | .FunctionDef _ a _ _ _ _ _ _ _ _=>a
 | _=>{ posonlyargs:=[],args:=[],vararg:=none,kwonlyargs:=[],kw_defaults:=[],kwarg:=none,defaults:=[] }
noncomputable def av (s:Stmt):List Stmt:=match s with
 | .FunctionDef _ _ b _ _ _ _ _ _ _=>b
 | _=>[]
noncomputable def ag (s:Stmt):Scope:=match s with
 | .FunctionDef _ _ _ _ _ _ sc _ _ _=>sc
 | _=>{ kind:=.function,names:=[],isGenerator:=false,isCoroutine:=false }
noncomputable abbrev CX0:CXT:=λ_ _ _ _ _ _=>False
abbrev E0:XK:=λ_ _ _=>False
theorem pass0 {X:Cx}:Passes CX0 X E0:=λ_ _ _ _ _ _ _ h=>h.elim
structure Fun (K:PySem.W.Frag) (x qual:Str) (st:Stmt) (f:Addr) (fd:FuncData):Prop where
 ex:∃(oc:Value) (od:Option Addr) (kV doc pm:Value) (an:Option Addr) (cdv ct:Value) (osl:Array (Option Value)),
  fd=PySem.W.fnOf x qual (ba st) (av st) (ag st) .none kV doc pm an cdv ct∧K.lookup f=some ⟨oc,od,.func fd,osl⟩∧PySem.W.codeIn K cdv qual=true
 kp:PySem.W.keepIn K (.ref f)=true
section
variable {P:Program} {w:World} {K:PySem.W.Frag} {mg:Str→Option Value} {base:Heap}
theorem Fun.ok {x qual:Str} {st:Stmt} {f:Addr} {fd:FuncData} {N ps:List Str} {k:Nat} {sp:Sp} (F:Fun K x qual st f fd) (S:ax N ps (ag st)) (len:∀vs H Q E,sp vs H Q E→vs.length=ps.length)
  (hbody:∀(cdv:Value) (A:Around) (outer:List Env) (s:Shared) (H:Hp) (vs:List V) (Q:VK) (E:XK),fj k (A.deeper (envOfC qual (ag st) s.heap.objs.size f cdv))→sp vs H Q E→
   ∃t,PSs (me CX0 P w K mg base N qual (ag st) f cdv A outer s H E).nox (av st) t∧t { nx:=λ_ H'=>Q .non H',rt:=Q } (start N vs) H):lu P w K mg base CX0 (k+1) f fd ps sp:=by
 obtain ⟨oc,od,kV,doc,pm,an,cdv,ct,osl,rfl,lk,hcd⟩:=F.ex;refine fn_of lk hcd S len λA outer s H vs Q E hr hsp=>?_;obtain ⟨t,h,q⟩:=hbody cdv A outer s H vs Q E hr hsp;exact ⟨t,h.nox,q⟩
theorem Fun.binds {x qual:Str} {st:Stmt} {f:Addr} {fd:FuncData} {ps:List Str} (F:Fun K x qual st f fd)
  (h:∀(kV doc pm:Value) (an:Option Addr) (cdv ct:Value) (us:List Value),us.length=ps.length→bindArgs (PySem.W.fnOf x qual (ba st) (av st) (ag st) .none kV doc pm an cdv ct) ⟨us,[]⟩=pure (ps.zip us)):Binds K fd ps []:=by
 obtain ⟨oc,od,kV,doc,pm,an,cdv,ct,osl,rfl,lk,hcd⟩:=F.ex;exact .all (h kV doc pm an cdv ct)
theorem bo {x qual:Str} {st:Stmt} {f:Addr} {oc:Value} {od an:Option Addr} {osl:Array (Option Value)} {kV doc pm cdv ct:Value} (l:K.lookup f=some ⟨oc,od,.func (PySem.W.fnOf x qual (ba st) (av st) (ag st) .none kV doc pm an cdv ct),osl⟩)
  (c:PySem.W.codeIn K cdv qual=true) (k:PySem.W.keepIn K (.ref f)=true):Fun K x qual st f (PySem.W.fnOf x qual (ba st) (av st) (ag st) .none kV doc pm an cdv ct):=⟨⟨oc,od,kV,doc,pm,an,cdv,ct,osl,rfl,l,c⟩,k⟩
end
theorem bx {A:Around} {k:Nat} (hr:fj k A):A.units+1 < cLine:=acy (Nat.add_le_add_left (by decide:1≤64) _) hr.units
section
variable {X:Cx}
theorem pv (i:Nat) {x:Str} {pos:Pos} (hN:X.N[i]?=some x:=by rfl) (hv:Vis X.env.scope x:=by first | exact ab4 rfl | exact ab6 (ab4 rfl) | exact ab6 (ab6 rfl)) (hd:(x==("__debug__":Str))=false:=by decide)
  (hcd:(x==("__classdict__":Str))=false:=by decide):PE X (.Name x pos) (tVar i):=pe_var hN hv hd hcd
end
theorem qf {A B:Prop} (h:B):if false=true then A else B:=by
 rw[if_neg aak];exact h
theorem sg {A B:Prop} (h:A):if true=true then A else B:=by
 rw[if_pos rfl];exact h
theorem cf {c A B:Prop} [Decidable c] (h1:c→A) (h2:¬c→B):if c then A else B:=by
 by_cases h:c
 ·rw[if_pos h];exact h1 h
 ·rw[if_neg h];exact h2 h
def ak (H H':Hp):Prop:=∀b o,H b=some o→H' b=some o
theorem ak.refl (H:Hp):ak H H:=λ_ _ h=>h
theorem ak.trans {H H1 H2:Hp} (a:ak H H1) (b:ak H1 H2):ak H H2:=λc o h=>b c o (a c o h)
theorem ak.free {H H':Hp} (e:ak H H') {l:Addr} (h:H' l=Option.none):H l=Option.none:=by
 cases q:H l with
 | none=>rfl
 | some o=>
  rw[e l o q] at h;cases h
theorem ak.seq {K:PySem.W.Frag} {H H':Hp} {a:Addr} {xs:List V} (e:ak H H') (h:SqL K H a xs):SqL K H' a xs:=by
 rcases h with (h | ⟨o,h⟩) | h
 ·exact .inl (.inl (e _ _ h))
 ·exact .inl (.inr ⟨o,e _ _ h⟩)
 ·exact .inr h
section
variable {κ:Type} [DecidableEq κ]
noncomputable def cj (kvs:List (κ×V)) (k:κ):Option V:=(kvs.find? λkv=>decide (kv.1=k)).map (·.2)
noncomputable def putK (kvs:List (κ×V)) (k:κ) (v:V):List (κ×V):=
 if (kvs.any λkv=>decide (kv.1=k))=true then kvs.map (λkv=>if kv.1=k then (kv.1,v) else kv) else kvs++[(k,v)]
theorem b8 {p:κ×V} {r:List (κ×V)} {k:κ} (e:p.1=k):cj (p::r) k=some p.2:=by simp[cj,abr,e]
theorem b7 {p:κ×V} {r:List (κ×V)} {k:κ} (e:¬p.1=k):cj (p::r) k=cj r k:=by simp[cj,abr,e]
theorem d4 (k:κ):∀kvs:List (κ×V),(kvs.any λkv=>decide (kv.1=k))=(cj kvs k).isSome
 | []=>rfl
 | p::r=>by
  rw[acs];by_cases e:p.1=k
  ·simp only[b8 e,decide_eq_true e,Bool.true_or,ac0]
  ·rw[b7 e,decide_eq_false e,Bool.false_or];exact d4 k r
theorem Cu (k j:κ) (y:V):∀kvs:List (κ×V),cj (kvs.map λkv=>if kv.1=k then (kv.1,y) else kv) j=(cj kvs j).map λx=>if j=k then y else x
 | []=>rfl
 | p::r=>by
  have ih:=Cu k j y r;rw[aau];by_cases h:p.1=k
  ·rw[if_pos h];by_cases e:p.1=j
   ·rw[b8 (p:=(p.1,y)) e,b8 e,acw,if_pos (e.symm.trans h)]
   ·rw[b7 (p:=(p.1,y)) e,b7 e,ih]
  ·rw[if_neg h];by_cases e:p.1=j
   ·rw[b8 (p:=p) e,b8 e,acw,if_neg (λz=>h (e.trans z))]
   ·rw[b7 (p:=p) e,b7 e,ih]
theorem yz (k j:κ) (y:V):∀kvs:List (κ×V),cj kvs k=none→cj (kvs++[(k,y)]) j=if j=k then some y else cj kvs j
 | [],_=>by
  by_cases e:k=j
  ·rw[if_pos e.symm];exact b8 (p:=(k,y)) e
  ·rw[if_neg (λz=>e z.symm)];exact b7 (p:=(k,y)) e
 | p::r,hn=>by
  rw[aey];have hk:¬p.1=k:=λz=>by rw[b8 z] at hn;cases hn
  rw[b7 hk] at hn;have ih:=yz k j y r hn;by_cases e:p.1=j
  ·rw[b8 e,b8 e,if_neg (λz=>hk (e.trans z))]
  ·rw[b7 e,b7 e,ih]
theorem Ci (kvs:List (κ×V)) (k j:κ) (y:V):cj (putK kvs k y) j=if j=k then some y else cj kvs j:=by
 unfold putK;by_cases a:(kvs.any λkv=>decide (kv.1=k))=true
 ·rw[if_pos a,Cu];rw[d4] at a;by_cases e:j=k
  ·obtain ⟨x,hx⟩:=Option.isSome_iff_exists.mp a;rw[if_pos e,e,hx,acw,if_pos rfl]
  ·rw[if_neg e];cases cj kvs j with
   | none=>rfl
   | some x=>rw[acw,if_neg e]
 ·rw[if_neg a];refine yz k j y kvs ?_;rw[d4] at a;cases q:cj kvs k with
  | none=>rfl
  | some x=>rw[q] at a;exact (a rfl).elim
theorem gf (kvs:List (κ×V)) (k:κ) (v:V):(putK kvs k v).length≤kvs.length+1:=by
 unfold putK;split
 ·rw[aa0];omega
 ·rw[aa2,aap,acb];omega
theorem wy {kvs:List (κ×V)} {k:κ} (v:V) (h:cj kvs k=none):putK kvs k v=kvs++[(k,v)]:=by
 unfold putK;rw[d4,h];exact if_neg (by decide)
theorem kc.iw {o:Option V} {u:Option Value} (r:kc o u):o.isSome=u.isSome:=by
 cases o with
 | none=>cases u with
  | none=>rfl
  | some _=>exact (show False from r).elim
 | some _=>cases u with
  | none=>exact (show False from r).elim
  | some _=>rfl
theorem kc.getD {o:Option V} {u:Option Value} {d:V} {d':Value} (r:kc o u) (rd:RelV d d'):RelV (o.getD d) (u.getD d'):=by
 cases o with
 | none=>cases u with
  | none=>exact rd
  | some _=>exact (show False from r).elim
 | some _=>cases u with
  | none=>exact (show False from r).elim
  | some _=>exact r
theorem KV.val {kvs:List (κ×V)} {vs:List (κ×Value)} (r:KV kvs vs) (k:κ):kc (cj kvs k) (valueAt vs k):=by
 unfold KV at r;induction r with
 | nil=>exact True.intro
 | @cons p q ps qs h t ih=>
  obtain ⟨h1,h2⟩:=h;by_cases e:p.1=k
  ·have e':q.1=k:=h1.symm.trans e;have b:valueAt (q::qs) k=some q.2:=by simp[valueAt,abr,e']
   rw[b8 e,b];exact h2
  ·have e':¬q.1=k:=λz=>e (h1.trans z);have b:valueAt (q::qs) k=valueAt qs k:=by simp[valueAt,abr,e']
   rw[b7 e,b];exact ih
theorem KV.any {kvs:List (κ×V)} {vs:List (κ×Value)} (r:KV kvs vs) (k:κ):(kvs.any λkv=>decide (kv.1=k))=vs.any λkv=>decide (kv.1=k):=by
 unfold KV at r;induction r with
 | nil=>rfl
 | cons h t ih=>rw[acs,acs,ih,h.1]
theorem KV.repl {kvs:List (κ×V)} {vs:List (κ×Value)} (r:KV kvs vs) (k:κ) {y:V} {u:Value} (ry:RelV y u):
  KV (kvs.map λkv=>if kv.1=k then (kv.1,y) else kv) (vs.map λkv=>if kv.1=k then (kv.1,u) else kv):=by
 unfold KV at r ⊢;induction r with
 | nil=>exact .nil
 | @cons p q ps qs h t ih=>
  rw[aau,aau];refine .cons ?_ ih;obtain ⟨h1,h2⟩:=h;by_cases e:p.1=k
  ·rw[if_pos e,if_pos (h1.symm.trans e)];exact ⟨h1,ry⟩
  ·rw[if_neg e,if_neg (λz=>e (h1.trans z))];exact ⟨h1,h2⟩
theorem KV.put {kvs:List (κ×V)} {vs:List (κ×Value)} (r:KV kvs vs) (k:κ) {y:V} {u:Value} (ry:RelV y u):KV (putK kvs k y) (stored vs k u):=by
 unfold putK stored;rw[r.any k];by_cases e:(vs.any λkv=>decide (kv.1=k))=true
 ·rw[if_pos e,if_pos e];exact r.repl k ry
 ·rw[if_neg e,if_neg e];exact Paired.snoc r ⟨rfl,ry⟩
theorem KV.length {kvs:List (κ×V)} {vs:List (κ×Value)} (r:KV kvs vs):kvs.length=vs.length:=Paired.length r
end
theorem rb {P:Program} {w:World} {k:Key} {u:Value} (r:RelV (kV k) u):(bh P w).is k u=true:=by
 cases k with
 | inl i=>obtain ⟨t,e⟩:=(show ∃t,u=Value.int i t from r);subst e;exact Dk P w i t
 | inr x=>obtain ⟨t,e⟩:=(show ∃t,u=Value.str x t from r);subst e;exact ko P w x t
theorem yh {P:Program} {w:World}:∀{ks:List Key} {us:List Value},Vals (ks.map kV) us→ItemsAre (bh P w) ks us
 | [],_,r=>by rw[adz] at r;cases r;exact .nil
 | k::ks,_,r=>by
  rw[aau] at r;cases r with
  | cons h t=>exact .cons (rb h) (yh t)
abbrev KT (H:Hp):List (List Key×V)→List (List Key×Addr×Value)→Prop:=Paired λp q=>p.1=q.1∧H q.2.1=some (.tup (p.1.map kV))∧RelV p.2 q.2.2
theorem KT.val {H:Hp} {kvs:List (List Key×V)} {xs:List (List Key×Addr×Value)} (r:KT H kvs xs) (k:List Key):kc (cj kvs k) ((atKey xs k).map (·.2)):=by
 induction r with
 | nil=>exact True.intro
 | @cons p q ps qs h t ih=>
  obtain ⟨h1,_,h2⟩:=h;by_cases e:p.1=k
  ·have e':q.1=k:=h1.symm.trans e;have b:atKey (q::qs) k=some q.2:=by simp[atKey,abr,e']
   rw[b8 e,b];exact h2
  ·have e':¬q.1=k:=λz=>e (h1.trans z);have b:atKey (q::qs) k=atKey qs k:=by simp[atKey,abr,e']
   rw[b7 e,b];exact ih
theorem KT.repl {H:Hp} {kvs:List (List Key×V)} {xs:List (List Key×Addr×Value)} (r:KT H kvs xs) (k:List Key) {y:V} {u:Value} (ry:RelV y u):
  KT H (kvs.map λkv=>if kv.1=k then (kv.1,y) else kv) (xs.map (putAt k u)):=by
 induction r with
 | nil=>exact .nil
 | @cons p q ps qs h t ih=>
  rw[aau,aau];refine .cons ?_ ih;obtain ⟨h1,h2,h3⟩:=h;unfold putAt;by_cases e:p.1=k
  ·rw[if_pos e,if_pos (h1.symm.trans e)];exact ⟨h1,h2,ry⟩
  ·rw[if_neg e,if_neg (λz=>e (h1.trans z))];exact ⟨h1,h2,h3⟩
theorem KT.put {H:Hp} {kvs:List (List Key×V)} {xs:List (List Key×Addr×Value)} (r:KT H kvs xs) (k:List Key) {b:Addr} {y:V} {u:Value} (hb:H b=some (.tup (k.map kV))) (ry:RelV y u):
  KT H (putK kvs k y) (storedH xs k b u):=by
 have e:(kvs.any λkv=>decide (kv.1=k))=(atKey xs k).isSome:=by
  rw[d4,(r.val k).iw,adt]
 unfold putK storedH;rw[e];by_cases q:(atKey xs k).isSome=true
 ·rw[if_pos q,if_pos q];exact r.repl k ry
 ·rw[if_neg q,if_neg q];exact Paired.snoc r ⟨rfl,hb,ry⟩
theorem KT.keeps {H H':Hp} {kvs:List (List Key×V)} {xs:List (List Key×Addr×Value)} (r:KT H kvs xs) (ht:∀b ys,H b=some (.tup ys)→H' b=some (.tup ys)):KT H' kvs xs:=
 Paired.mapP r λ_ _ z=>⟨z.1,ht _ _ z.2.1,z.2.2⟩
section
variable {P:Program} {w:World} {H:Hp} {h:Heap} {a:Addr}
theorem rd_of {u:HO} (ok:HOk P w H h) (e:Rd H a u):bp P w H h a u:=e.ok ok
theorem y4 {kvs:List (Key×V)} (ok:HOk P w H h) (e:Rd H a (.dK kvs)):kvs.length≤sizeLine∧(a==sysModules)=false∧∃vs,KV kvs vs∧h.DictOf (bh P w) a vs:=
 show bp P w H h a (.dK kvs) from rd_of ok e
theorem dk_of {kvs:List (Key×V)} (ok:HOk P w H h) (e:H a=some (.dK kvs)):kvs.length≤sizeLine∧(a==sysModules)=false∧∃vs,KV kvs vs∧h.DictOf (bh P w) a vs:=y4 ok (.inl e)
theorem mr {ks:List Key} (ok:HOk P w H h) (e:H a=some (.tup (ks.map kV))):(tupleKind (bh P w)).is h ks a:=by
 obtain ⟨_,its,r,o,h1,h2,n,h3,_⟩:=(show bp P w H h a (.tup (ks.map kV)) from ok a _ e);exact ⟨o,its.toArray,n,h1,h2,h3,by simpa using yh r⟩
theorem x6 {kvs:List (List Key×V)} (ok:HOk P w H h) (e:Rd H a (.dT kvs)):kvs.length≤sizeLine∧(a==sysModules)=false∧
  ∃xs,KT H kvs xs∧h.DictOfH (tupleKind (bh P w)) a xs:=by
 obtain ⟨z,y,xs,r,o,es,ep,h1,h2,h3,h4,h5⟩:=(show bp P w H h a (.dT kvs) from rd_of ok e);refine ⟨z,y,xs,r,o,es,ep,h1,h2,h3,h4,λx hx=>?_,h5⟩;have all:∀{l:List (List Key×V)} {m:List (List Key×Addr×Value)},KT H l m→∀x∈m,(tupleKind (bh P w)).is h x.1 x.2.1:=by
  intro l m q;induction q with
  | nil=>intro x hx;exact nomatch hx
  | @cons p q ps qs hq t ih=>
   intro x hx;rcases List.mem_cons.mp hx with e | hx
   ·subst e;exact mr ok (by rw[←hq.1];exact hq.2.1)
   ·exact ih x hx
 exact all r x hx
theorem dt_of {kvs:List (List Key×V)} (ok:HOk P w H h) (e:H a=some (.dT kvs)):kvs.length≤sizeLine∧(a==sysModules)=false∧
  ∃xs,KT H kvs xs∧h.DictOfH (tupleKind (bh P w)) a xs:=x6 ok (.inl e)
end
def ib (H:Hp) (a:Addr) (y:V) (r:Option V):Prop:=
 (∃kvs k,Rd H a (.dK kvs)∧y=kV k∧r=cj kvs k)∨∃kvs k b,Rd H a (.dT kvs)∧y=.ref b∧H b=some (.tup (k.map kV))∧r=cj kvs k
def sj (H:Hp) (a:Addr) (y v:V) (H':Hp):Prop:=
 (∃kvs k,H a=some (.dK kvs)∧y=kV k∧kvs.length < sizeLine∧H'=upd H a (.dK (putK kvs k v)))∨
 ∃kvs k b,H a=some (.dT kvs)∧y=.ref b∧H b=some (.tup (k.map kV))∧kvs.length < sizeLine∧H'=upd H a (.dT (putK kvs k v))
theorem ib.t {H:Hp} {a b:Addr} {kvs:List (List Key×V)} {k:List Key} (e:H a=some (.dT kvs)) (eb:H b=some (.tup (k.map kV))):ib H a (.ref b) (cj kvs k):=.inr ⟨kvs,k,b,.inl e,rfl,eb,rfl⟩
theorem sj.t {H:Hp} {a b:Addr} {kvs:List (List Key×V)} {k:List Key} {v:V} (e:H a=some (.dT kvs)) (eb:H b=some (.tup (k.map kV))) (hl:kvs.length < sizeLine):
  sj H a (.ref b) v (upd H a (.dT (putK kvs k v))):=.inr ⟨kvs,k,b,e,rfl,eb,hl,rfl⟩
section
variable {X:Cx} {pins:List (Addr×Obj)} {σ:St} {H:Hp} {s:Shared} {a:Addr} {y v:V} {u r:Value} {o:Option V} {A:Around} {E:Value→Shared→Prop}
theorem Inv.big (I:Inv X pins σ H s):sysModules < s.heap.objs.size:=by
 have h:mainGlobals < s.heap.objs.size:=(I.mod.glob.keeps I.bk).lt;exact aen (by decide) h
theorem Il {Q:Value→Shared→Prop} (hu:A.units+1 < cLine) (I:Inv X pins σ H s) (g:ib H a y (some v)) (ry:RelV y u) (h:∀w' s',Inv X pins σ H s'→RelV v w'→Q w' s'):
  wpAny (model X.prog X.w) A (getItem (.ref a) u) Q E s:=by
 rcases g with ⟨kvs,k,e,ey,l⟩ | ⟨kvs,k,b,e,ey,eb,l⟩
 ·subst ey;obtain ⟨z,hd,vs,rel,dd⟩:=y4 I.hok e;obtain ⟨w',hw,rw'⟩:=kc.some_of (v:=v) (o:=valueAt vs k) (by rw[l];exact rel.val k);exact wpAny_getItem_of (rb ry) dd.mapOf hw (h w' _ (I.tok _) rw')
 ·subst ey;cases (show u=Value.ref b from ry)
  obtain ⟨z,hd,xs,rel,dd⟩:=x6 I.hok e;obtain ⟨w',hw,rw'⟩:=kc.some_of (v:=v) (o:=(atKey xs k).map (·.2)) (by rw[l];exact rel.val k);obtain ⟨p,hp,hp2⟩:=Option.map_eq_some_iff.mp hw;refine wpAny_getItem_heap (tupleKind_room_in1 hu) (mr I.hok eb) dd hp ?_;rw[hp2];exact h w' _ (I.tok _) rw'
theorem d_in {Q:Value→Shared→Prop} (hu:A.units+1 < cLine) (I:Inv X pins σ H s) (g:ib H a y o) (ry:RelV y u) (h:∀s',Inv X pins σ H s'→Q (.bool o.isSome) s'):
  wpAny (model X.prog X.w) A (compareOp .In u (.ref a)) Q E s:=by
 rcases g with ⟨kvs,k,e,ey,l⟩ | ⟨kvs,k,b,e,ey,eb,l⟩
 ·subst ey;obtain ⟨z,hd,vs,rel,dd⟩:=y4 I.hok e;refine wpAny_in_of (rb ry) hd dd.mapOf ?_;rw[←(rel.val k).iw,←l];exact h _ (I.tok _)
 ·subst ey;cases (show u=Value.ref b from ry)
  obtain ⟨z,hd,xs,rel,dd⟩:=x6 I.hok e;refine wpAny_in_heap (tupleKind_room_in1 hu) (mr I.hok eb) hd dd ?_;have q:=(rel.val k).iw;rw[adt] at q;rw[←q,←l];exact h _ (I.tok _)
theorem Pn {Q:Value→Shared→Prop} (hu:A.units+1 < cLine) (I:Inv X pins σ H s) (g:ib H a y o) (ry:RelV y u) (h:∀s',Inv X pins σ H s'→Q (.bool (!o.isSome)) s'):
  wpAny (model X.prog X.w) A (compareOp .NotIn u (.ref a)) Q E s:=by
 rcases g with ⟨kvs,k,e,ey,l⟩ | ⟨kvs,k,b,e,ey,eb,l⟩
 ·subst ey;obtain ⟨z,hd,vs,rel,dd⟩:=y4 I.hok e;refine wpAny_notIn_of (rb ry) hd dd.mapOf ?_;rw[←(rel.val k).iw,←l];exact h _ (I.tok _)
 ·subst ey;cases (show u=Value.ref b from ry)
  obtain ⟨z,hd,xs,rel,dd⟩:=x6 I.hok e;refine wpAny_notIn_heap (tupleKind_room_in1 hu) (mr I.hok eb) hd dd ?_;have q:=(rel.val k).iw;rw[adt] at q;rw[←q,←l];exact h _ (I.tok _)
theorem Am {h':Heap} {t':Nat} {ob:HO} (I:Inv X pins σ H s) (mu:Mut (H a)) (hs:Heap.SameBut a s.heap h') (he:∃q,h'.get? a=some q) (new:bp X.prog X.w (upd H a ob) h' a ob):
  Inv X pins σ (upd H a ob) { s with heap:=h',toks:=t' }:=
 I.write (x:=a) (e:=a) mu (.inl rfl) (λb q hb z=>(hs.2 b hb).trans z) he new
theorem Nn {P:Program} {w:World} {H':Hp} {h':Heap} {kvs:List (Key×V)} {vs:List (Key×Value)} (z:kvs.length≤sizeLine) (hd:(a==sysModules)=false) (rel:KV kvs vs) (dd:h'.DictOf (bh P w) a vs):
  bp P w H' h' a (.dK kvs):=⟨z,hd,vs,rel,dd⟩
theorem Ic {H':Hp} {Q:Unit→Shared→Prop} (hu:A.units+1 < cLine) (I:Inv X pins σ H s) (g:sj H a y v H') (ry:RelV y u) (rv:RelV v r) (h:∀s',Inv X pins σ H' s'→Q () s'):
  wpAny (model X.prog X.w) A (setItem (.ref a) u r) Q E s:=by
 rcases g with ⟨kvs,k,e,ey,l,eH⟩ | ⟨kvs,k,b,e,ey,eb,l,eH⟩
 ·subst ey eH;obtain ⟨z,hd,vs,rel,dd⟩:=dk_of I.hok e;have hz:vs.length≤sizeLine:=by rw[←rel.length];exact z
  have hl:(putK kvs k v).length≤sizeLine:=by have:=gf kvs k v;omega
  refine wpAny_setItem_pairs (hsz:=hz) (rb ry) dd λh' dd' hs=>h _ ?_;have he:∃q,h'.get? a=some q:=let ⟨q,_,_,hq,_⟩:=dd';⟨q,hq⟩
  exact Am I (by rw[e];exact True.intro) hs he (Nn hl hd (rel.put k rv) dd')
 ·subst ey eH;cases (show u=Value.ref b from ry)
  obtain ⟨z,hd,xs,rel,dd⟩:=dt_of I.hok e;have hz:xs.length≤sizeLine:=by rw[←Paired.length rel];exact z
  have hl:(putK kvs k v).length≤sizeLine:=by have:=gf kvs k v;omega
  refine wpAny_setItem_heap (hsz:=hz) (tupleKind_room_in1 hu) (mr I.hok eb) dd λh' dd' hs=>h _ ?_;obtain ⟨q,es,ep,hq,h2,h3,h4,_,h5⟩:=dd';refine Am I (by rw[e];exact True.intro) hs ⟨q,hq⟩ ⟨hl,hd,_,(rel.put k eb rv).keeps λc ys ec=>?_,q,es,ep,hq,h2,h3,h4,h5⟩;rw[af (eh ec e (λz=>nomatch z))];exact ec
end
def NoSl (i:Expr):Prop:=∀ov iv,subscripted i false ov iv=operate [ov,iv] (getItem ov iv)
theorem Qv {prog:Program} {w:World} {A:Around} {E:Value→Shared→Prop} {s:Shared} {env:Env} {value slice:Expr} {pos:Pos} {T id:String} {Q:Value→Shared→Prop}
  (hl:typeLookup (.type T) "__getitem__"=pure (some (.builtin id))) (hs:NoSl slice)
  (h:wpAny (model prog w) A (eval value env) (λo s₁=>wpAny (model prog w) A (eval slice env) (λi s₂=>s₂.TypeIs o T∧wpAny (model prog w) A (getItem o i) Q E s₂) E s₁) E s):
  wpAny (model prog w) A (eval (.Subscript value slice pos) env) Q E s:=by
 refine Subscript_ (wpAny_mono h (λo s₁ h₁=>wpAny_mono h₁ (λi s₂ h₂=>?_) λ_ _ x=>x) λ_ _ x=>x);obtain ⟨hT,h₂⟩:=h₂;unfold subscriptTail;refine wpAny_bind ?_;rw[getitemInPython_of_ne hT.not_modules];refine wpAny_bind (wpAny_specialOf hT hl ?_);have fin:wpAny (model prog w) A (subscripted slice false o i) (λr s₃=>wpAny (model prog w) A (letTemporaryGo value o r >>=λ_=>pure r) Q E s₃) E s₂:=by
  rw[hs o i];exact wpAny_operating (wpAny_mono h₂ (λr s₃ h₃=>wpAny_bind (wpAny_letTemporaryGo (wpAny_pure h₃))) λ_ _ x=>x)
 first
  | exact wpAny_pure (wpAny_bind fin)
  | exact wpAny_bind (wpAny_pure (wpAny_bind fin))
  | exact wpAny_bind fin
theorem Co {X:Cx} {pins:List (Addr×Obj)} {σ:St} {H:Hp} {s:Shared} {a:Addr} {y:V} {o:Option V} (I:Inv X pins σ H s) (g:ib H a y o):s.TypeIs (.ref a) "dict":=by
 rcases g with ⟨kvs,k,e,_,_⟩ | ⟨kvs,k,b,e,_,_,_⟩
 ·obtain ⟨_,_,vs,_,dd⟩:=y4 I.hok e;exact dd.typeIs
 ·obtain ⟨_,_,xs,_,dd⟩:=x6 I.hok e;exact dd.typeIs
def tDGet (td ty:TE):TE:=λσ H Q=>td σ H λx H1=>ty σ H1 λy H2=>∃a v,x=.ref a∧ib H2 a y (some v)∧Q v H2
def tDIn (ty td:TE):TE:=λσ H Q=>ty σ H λy H1=>td σ H1 λx H2=>∃a o,x=.ref a∧ib H2 a y o∧Q (.bl o.isSome) H2
def Gg (ty td:TE):TE:=λσ H Q=>ty σ H λy H1=>td σ H1 λx H2=>∃a o,x=.ref a∧ib H2 a y o∧Q (.bl (!o.isSome)) H2
def sDPut (td ty tv:TE):TS:=λD σ H=>tv σ H λv H1=>td σ H1 λx H2=>ty σ H2 λy H3=>∃a H4,x=.ref a∧sj H3 a y v H4∧D.nx σ H4
section
variable {X:Cx} {o i e value:Expr} {pos pos' tpos:Pos} {td ty tv:TE}
theorem Oc (hu:X.A.units+1 < cLine) (ho:PE X o td) (hi:PE X i ty) (hs:NoSl i):PE X (.Subscript o i pos) (tDGet td ty):=by
 intro pins s σ H Q I h;refine Qv PySem.F.slot_dict_getitem.lookup hs (thn (ho pins s σ H _ I h) λu s1 ⟨x,H1,I1,rx,q1⟩=>thn (hi pins s1 σ H1 _ I1 q1) λiv s2 ⟨y,H2,I2,ry,a,v,ex,g,q2⟩=>?_);subst ex;obtain rfl:u=Value.ref a:=rx;exact ⟨Co I2 g,Il hu I2 g ry λw' s3 I3 rw'=>⟨v,H2,I3,rw',q2⟩⟩
theorem pc_din (hu:X.A.units+1 < cLine) (hi:PE X i ty) (ho:PE X o td):PC X .In i o (tDIn ty td):=by
 intro pins s σ H Q I h;refine thn (hi pins s σ H _ I h) λiv s1 ⟨y,H1,I1,ry,q1⟩=>thn (ho pins s1 σ H1 _ I1 q1) λu s2 ⟨x,H2,I2,rx,a,ov,ex,g,q2⟩=>?_;subst ex;obtain rfl:u=Value.ref a:=rx;exact d_in hu I2 g ry λs3 I3=>⟨.bl ov.isSome,H2,I3,rfl,q2⟩
theorem Jb (hu:X.A.units+1 < cLine) (hi:PE X i ty) (ho:PE X o td):PC X .NotIn i o (Gg ty td):=by
 intro pins s σ H Q I h;refine thn (hi pins s σ H _ I h) λiv s1 ⟨y,H1,I1,ry,q1⟩=>thn (ho pins s1 σ H1 _ I1 q1) λu s2 ⟨x,H2,I2,rx,a,ov,ex,g,q2⟩=>?_;subst ex;obtain rfl:u=Value.ref a:=rx;exact Pn hu I2 g ry λs3 I3=>⟨.bl (!ov.isSome),H2,I3,rfl,q2⟩
theorem O0 (hu:X.A.units+1 < cLine) (ho:PE X o td) (hi:PE X i ty) (hv:PE X value tv) (hs:swapsWith value (some (.Subscript o i pos')) pos.line X.env=pure false):
  PS X (.Assign [.Subscript o i pos'] value pos) (sDPut td ty tv):=by
 intro pins s σ H D I h;refine wpAny_Assign_Subscript (thn (hv pins s σ H _ I h) λr s1 ⟨v,H1,I1,rv,q1⟩=>thn (ho pins s1 σ H1 _ I1 q1) λu s2 ⟨x,H2,I2,rx,q2⟩=>thn (hi pins s2 σ H2 _ I2 q2) λiv s3 ⟨y,H3,I3,ry,a,H4,ex,g,q3⟩=>?_) hs;subst ex;obtain rfl:u=Value.ref a:=rx;exact Ic hu I3 g ry rv λs4 I4=>⟨σ,H4,I4,q3⟩
end
theorem Nm {P:Program} {w:World} {H:Hp} (h:Heap) (hb:sysModules < h.objs.size):bp P w H (h.push { cls:=.type "dict",data:=.dict #[] }) h.objs.size (.dK []):=
 ⟨aa7 _,beq_eq_false_iff_ne.mpr (Ne.symm (aam hb)),[],.nil,Heap.DictOf.new h⟩
theorem Lg {P:Program} {w:World} {H:Hp} (h:Heap) (hb:sysModules < h.objs.size):bp P w H (h.push { cls:=.type "dict",data:=.dict #[] }) h.objs.size (.dT []):=
 ⟨aa7 _,beq_eq_false_iff_ne.mpr (Ne.symm (aam hb)),[],.nil,_,#[],0,Heap.get?_push_size _ rfl,⟨rfl,rfl,rfl⟩,rfl,rfl,acj⟩
def tDNewK:TE:=λ_ H Q=>∀p,H p=none→Q (.ref p) (upd H p (.dK []))
def Ew:TE:=λ_ H Q=>∀p,H p=none→Q (.ref p) (upd H p (.dT []))
section
variable {X:Cx} {pos:Pos}
theorem ue:PE X (.Dict [] [] pos) Ew:=λpins s σ H Q I h=>
 wpAny_Dict_empty ⟨.ref s.heap.objs.size,_,I.laid (a:=s.heap.objs.size) (o:=.dT []) (t':=s.toks) (λ_ _ q=>Heap.get?_push_of_some _ q) (aa4 _) (Lg s.heap I.big),rfl,h _ (I.hok.fresh (aa4 _))⟩
end
def zg:List (TE×TE)→St→Hp→(List (V×V)→Hp→Prop)→Prop
 | [],_,H,Q=>Q [] H
 | (tk,tv)::r,σ,H,Q=>tk σ H λx H1=>tv σ H1 λy H2=>zg r σ H2 λps H3=>Q ((x,y)::ps) H3
abbrev VV:List (V×V)→List (Value×Value)→Prop:=Paired λp q=>RelV p.1 q.1∧RelV p.2 q.2
def PPs (X:Cx) (pos:Pos) (keys:List (Option Expr)) (values:List Expr) (trs:List (TE×TE)):Prop:=
 ∀(pins:List (Addr×Obj)) (s:Shared) (σ:St) (H:Hp) (Q:List (V×V)→Hp→Prop),Inv X pins σ H s→zg trs σ H Q→
  wpAny (model X.prog X.w) X.A (evalPairs (pairTrees keys values X.env pos)) (λvs s'=>∃ps H',Inv X pins σ H' s'∧VV ps vs∧Q ps H') X.xe s
theorem Qi {X:Cx} {pos:Pos}:PPs X pos [] [] []:=λpins s σ H Q I h=>pairTrees_nil_walk ⟨[],H,I,.nil,h⟩
theorem L8 {X:Cx} {pos:Pos} {k v:Expr} {ks:List (Option Expr)} {vs:List Expr} {tk tv:TE} {trs:List (TE×TE)} (hk:PE X k tk) (hv:PE X v tv) (hr:PPs X pos ks vs trs):
  PPs X pos (some k::ks) (v::vs) ((tk,tv)::trs):=λpins s σ H Q I h=>
 pairTrees_cons_walk (thn (hk pins s σ H _ I h) λu s1 ⟨x,H1,I1,rx,q1⟩=>thn (hv pins s1 σ H1 _ I1 q1) λw2 s2 ⟨y,H2,I2,ry,q2⟩=>
  thn (hr pins s2 σ H2 _ I2 q2) λws s3 ⟨ps,H3,I3,rel,q3⟩=>⟨(x,y)::ps,H3,I3,.cons ⟨rx,ry⟩ rel,q3⟩)
noncomputable def qu (kvs more:List (Key×V)):List (Key×V):=more.foldl (λacc kv=>putK acc kv.1 kv.2) kvs
theorem KV.merge:∀{more:List (Key×V)} {rs:List (Key×Value)} {kvs:List (Key×V)} {vs:List (Key×Value)},KV more rs→KV kvs vs→KV (qu kvs more) (merged vs rs):=by
 intro more rs kvs vs r;unfold KV at r;induction r generalizing kvs vs with
 | nil=>intro q;exact q
 | @cons p q ps qs h t ih=>
  intro r0;have e:KV (putK kvs p.1 p.2) (stored vs q.1 q.2):=by
   have:=r0.put p.1 h.2;rw[←h.1];exact this
  exact ih e
theorem ma:∀(more kvs:List (Key×V)),(qu kvs more).length≤kvs.length+more.length
 | [],kvs=>by show kvs.length≤kvs.length+0;omega
 | p::r,kvs=>by
  have h1:=ma r (putK kvs p.1 p.2);have h2:=gf kvs p.1 p.2;show (qu (putK kvs p.1 p.2) r).length≤_
  rw[aap];omega
theorem uq {P:Program} {w:World}:∀{kvs:List (Key×V)} {ws:List (Value×Value)},VV (kvs.map λkv=>(kV kv.1,kv.2)) ws→∃rs,Carries (bh P w) ws rs∧KV kvs rs
 | [],_,r=>by rw[adz] at r;cases r;exact ⟨[],True.intro,.nil⟩
 | p::kvs,_,r=>by
  rw[aau] at r;cases r with
  | @cons a b as bs h t=>
   obtain ⟨rs,c,q⟩:=uq (P:=P) (w:=w) t;obtain ⟨b1,b2⟩:=b;exact ⟨(p.1,b2)::rs,⟨rb h.1,rfl,c⟩,.cons ⟨rfl,h.2⟩ q⟩
def tDisp (trs:List (TE×TE)):TE:=λσ H Q=>∀p,H p=none→zg trs σ (upd H p (.dK [])) λps H2=>H2 p=some (.dK [])∧∃kvs:List (Key×V),ps=kvs.map (λkv=>(kV kv.1,kv.2))∧kvs.length≤15∧Q (.ref p) (upd H2 p (.dK (qu [] kvs)))
theorem Oj {X:Cx} {pos:Pos} {keys:List (Option Expr)} {values:List Expr} {trs:List (TE×TE)} (h:PPs X pos keys values trs) (hall:keys.all (·.isSome)=true) (hl:keys.length=values.length) (h0:keys≠[])
  (h15:keys.length≤15):PE X (.Dict keys values pos) (tDisp trs):=by
 intro pins s σ H Q I q;have hn:=I.hok.fresh (aa4 s.heap.objs.size);have I1:=I.laid (a:=s.heap.objs.size) (o:=.dK []) (h':=s.heap.push { cls:=.type "dict",data:=.dict #[] }) (t':=s.toks) (λ_ _ q=>Heap.get?_push_of_some _ q) (aa4 _) (Nm s.heap I.big);refine wpAny_Dict_walk (knd:=bh X.prog X.w) hall hl h0 h15 (thn (h pins _ σ _ _ I1 (q _ hn)) λws s2 ⟨ps,H2,I2,rel,e,kvs,ep,lk,q2⟩=>?_);subst ep;obtain ⟨rs,c,rk⟩:=uq (P:=X.prog) (w:=X.w) rel;obtain ⟨z,hd,vs0,r0,dd⟩:=dk_of I2.hok e;cases r0
 refine ⟨rs,c,dd,λh' dd' hs=>⟨.ref s.heap.objs.size,_,?_,rfl,q2⟩⟩;have hz:(qu [] kvs).length≤sizeLine:=by
  have h1:=ma kvs [];rw[acb] at h1;rw[sizeLine_eq];omega
 have he:∃q,h'.get? s.heap.objs.size=some q:=let ⟨q,_,_,hq,_⟩:=dd';⟨q,hq⟩
 exact Am I2 (by rw[e];exact True.intro) hs he (Nn hz hd (rk.merge .nil) dd')
structure M2 (X:Cx) (o:Expr) (m:Str) (apos:Pos) (e f:Expr) (cpos:Pos):Prop where
 base:attributeBase o m X.env (eval o X.env)=eval o X.env
 few:((backTo cpos (starEach [e,f] X.env)).all (λx=>!x.1)&&(backToKw cpos (keywordEach [] X.env)).all (λx=>x.1.isSome)
  &&decide (([e,f]:List Expr).length+([]:List Keyword).length+(if ([]:List Keyword).isEmpty then 0 else 1) < 30))=true
 line:(apos.endLine==cpos.line)=true
 trees:backTo cpos (starEach [e,f] X.env)=[(false,eval e X.env),(false,eval f X.env)]
section
variable {κ:Type} [DecidableEq κ]
theorem sv {kvs:List (κ×V)} {k:κ} {v:V} (h:cj kvs k=some v):k∈kvs.map (·.1):=by
 have q:(kvs.any λkv=>decide (kv.1=k))=true:=by
  rw[d4,h];all_goals rfl
 obtain ⟨p,hp,e⟩:=List.any_eq_true.mp q;exact List.mem_map.mpr ⟨p,hp,of_decide_eq_true e⟩
end
def ka (i:Nat):TE:=λσ H Q=>match σ[i]? with | some (some v)=>Q v H | _=>False
theorem pvD {X:Cx} (i:Nat) {x:Str} {pos:Pos} (hN:X.N[i]?=some x) (hv:Vis X.env.scope x) (hd:(x==("__debug__":Str))=false) (hcd:(x==("__classdict__":Str))=false):PE X (.Name x pos) (ka i):=λpins s σ H Q I h=>pv i hN hv hd hcd pins s σ H Q I (by
 unfold ka at h;split at h
 ·exact ⟨_,‹_›,h⟩
 ·exact h.elim)
theorem pl {X:Cx} (i:Nat) {x:Str} {pos:Pos} (hN:X.N[i]?=some x) (hv:X.env.scope.names.lookup x=some .local) (hd:(x==("__debug__":Str)||x==("__classdict__":Str))=false):PE X (.Name x pos) (ka i):=pvD i hN (.inl hv) (Bool.or_eq_false_iff.mp hd).1 (Bool.or_eq_false_iff.mp hd).2
theorem pk {X:Cx} (i:Nat) {x:Str} {pos:Pos} (hN:X.N[i]?=some x) (hv:X.env.scope.names.lookup x=some .cell) (hd:(x==("__debug__":Str)||x==("__classdict__":Str))=false):PE X (.Name x pos) (ka i):=pvD i hN (.inr (.inl hv)) (Bool.or_eq_false_iff.mp hd).1 (Bool.or_eq_false_iff.mp hd).2
theorem fo {i:Nat} {σ:L2.St} {H:Hp} {Q:VK}:ka i σ H Q=∃v,σ[i]?=some (some v)∧Q v H:=by
 unfold ka;refine propext ⟨λh=>?_,λ⟨v,e,h⟩=>?_⟩
 ·split at h
  ·exact ⟨_,‹_›,h⟩
  ·exact h.elim
 ·rw[e];exact h
theorem Ja {α:Type} {a:α} {x y:List α}:(a::x=a::y)=(x=y):=propext ⟨λh=>(abk h).2,λh=>by rw[h]⟩
theorem Nr {α:Type} {a b:α}:([a]=[b])=(a=b):=propext ⟨λh=>(abk h).1,λh=>by rw[h]⟩
theorem Np {α:Type} {a b c d:α}:([a,c]=[b,d])=(a=b∧c=d):=propext ⟨λh=>⟨(abk h).1,(abk (abk h).2).1⟩,λ⟨h,k⟩=>by rw[h,k]⟩
theorem Qr {α:Type} {a b c d e f:α}:([a,c,e]=[b,d,f])=(a=b∧c=d∧e=f):=propext ⟨λh=>⟨(abk h).1,(abk (abk h).2).1,(abk (abk (abk h).2).2).1⟩,λ⟨h,k,l⟩=>by rw[h,k,l]⟩
theorem int_ex {a:Int} {p:Int→Prop}:(∃x,V.int a=V.int x∧p x)=p a:=propext ⟨λ⟨x,e,h⟩=>by cases e;exact h,λh=>⟨a,rfl,h⟩⟩
theorem ref_ex {a:Addr} {p:Addr→Prop}:(∃x,V.ref a=V.ref x∧p x)=p a:=propext ⟨λ⟨x,e,h⟩=>by cases e;exact h,λh=>⟨a,rfl,h⟩⟩
theorem bl_ex {a:Bool} {p:Bool→Prop}:(∃x,V.bl a=V.bl x∧p x)=p a:=propext ⟨λ⟨x,e,h⟩=>by cases e;exact h,λh=>⟨a,rfl,h⟩⟩
theorem Og {a b:Int} {p:Int→Int→Prop}:(∃x y,V.int a=V.int x∧V.int b=V.int y∧p x y)=p a b:=propext ⟨λ⟨x,y,e,e2,h⟩=>by cases e;cases e2;exact h,λh=>⟨a,b,rfl,rfl,h⟩⟩
theorem ifY {c:Prop} [Decidable c] {A B:Prop} (hc:c) (h:A):if c then A else B:=by rw[if_pos hc];exact h
theorem ifN {c:Prop} [Decidable c] {A B:Prop} (hc:¬c) (h:B):if c then A else B:=by rw[if_neg hc];exact h
theorem us0 {α:Type} {P:List α→Prop} {us:List α} (hl:us.length=0) (h:P []):P us:=by
 rw[List.length_eq_zero_iff.mp hl];exact h
theorem usS {α:Type} {P:List α→Prop} {us:List α} {n:Nat} (hl:us.length=n+1) (h:∀a us,us.length=n→P (a::us)):P us:=by
 cases us with
 | nil=>exact absurd hl.symm (Nat.succ_ne_zero n)
 | cons a l=>exact h a l (Nat.succ.inj hl)
theorem us1 {α:Type} {P:List α→Prop} {us:List α} (hl:us.length=1) (h:∀a,P [a]):P us:=usS hl λa us hl=>us0 (P:=λus=>P (a::us)) hl (h a)
theorem us2 {α:Type} {P:List α→Prop} {us:List α} (hl:us.length=2) (h:∀a b,P [a,b]):P us:=usS hl λa us hl=>us1 (P:=λus=>P (a::us)) hl (h a)
theorem us3 {α:Type} {P:List α→Prop} {us:List α} (hl:us.length=3) (h:∀a b c,P [a,b,c]):P us:=usS hl λa us hl=>us2 (P:=λus=>P (a::us)) hl (h a)
theorem us4 {α:Type} {P:List α→Prop} {us:List α} (hl:us.length=4) (h:∀a b c d,P [a,b,c,d]):P us:=usS hl λa us hl=>us3 (P:=λus=>P (a::us)) hl (h a)
theorem us5 {α:Type} {P:List α→Prop} {us:List α} (hl:us.length=5) (h:∀a b c d e,P [a,b,c,d,e]):P us:=usS hl λa us hl=>us4 (P:=λus=>P (a::us)) hl (h a)
def As (g:Int→Int→V):R2:=λx y H Q=>match x,y with | .int i,.int j=>Q (g i j) H | _,_=>False
def rID (C:Int→Int→Prop) (g:Int→Int→V):R2:=λx y H Q=>match x,y with | .int i,.int j=>C i j∧Q (g i j) H | _,_=>False
def rUD (g:Int→V):V→Hp→VK→Prop:=λx H Q=>match x with | .int i=>Q (g i) H | _=>False
def tBD (t:TE):TT:=λσ H Q=>t σ H λx H1=>match x with | .bl c=>Q c H1 | _=>False
def Ep (t:TE):TO:=λσ H Q=>t σ H λx H1=>match x with | .int i=>Q (some i) H1 | _=>False
theorem ij:@As=@rI0:=by
 funext g x y H Q
 refine propext ⟨λh=>?_,λ⟨i,j,e,f,h⟩=>by subst e;subst f;exact h⟩;unfold As at h;split at h
 ·exact ⟨_,_,rfl,rfl,h⟩
 ·exact h.elim
theorem zc:@rID=@rI:=by
 funext C g x y H Q
 refine propext ⟨λh=>?_,λ⟨i,j,e,f,h⟩=>by subst e;subst f;exact h⟩;unfold rID at h;split at h
 ·exact ⟨_,_,rfl,rfl,h⟩
 ·exact h.elim
theorem rUD_eq:@rUD=@rU:=by
 funext g x H Q
 refine propext ⟨λh=>?_,λ⟨i,e,h⟩=>by subst e;exact h⟩;unfold rUD at h;split at h
 ·exact ⟨_,rfl,h⟩
 ·exact h.elim
theorem blD {x:V} {Q:Bool→Prop}:(match x with | .bl c=>Q c | _=>False)=∃c,x=.bl c∧Q c:=by
 refine propext ⟨λh=>?_,λ⟨i,e,h⟩=>by subst e;exact h⟩;split at h
 ·exact ⟨_,rfl,h⟩
 ·exact h.elim
theorem iu:@tBD=@tB:=by
 funext t σ H Q
 exact congrArg (t σ H) (funext λx=>funext λH1=>blD)
theorem Jf:@Ep=@Lr:=by
 funext t σ H Q
 refine congrArg (t σ H) (funext λx=>funext λH1=>propext ⟨λh=>?_,λ⟨i,e,h⟩=>by subst e;exact h⟩);split at h
 ·exact ⟨_,rfl,h⟩
 ·exact h.elim
variable {X:Cx}
theorem O1:OpR X (binaryOp .Add) (As λi j=>.int (i+j)):=ij ▸ op_add
theorem Po:OpR X (binaryOp .Sub) (As λi j=>.int (i - j)):=ij ▸ op_sub
theorem pz:OpR X (compareOp .Lt) (As λi j=>.bl (decide (i < j))):=ij ▸ op_lt
theorem iq:OpR X (compareOp .Gt) (As λi j=>.bl (decide (j < i))):=ij ▸ op_gt
theorem Ac:OpR X (binaryOp .Mult) (rID CMul λi j=>.int (i*j)):=zc ▸ op_mul
theorem Mo:OpR X (binaryOp .FloorDiv) (rID qb λi j=>.int (i / j)):=zc ▸ Pj
theorem O4:OpR X (binaryOp .Mod) (rID (λ_ j=>0 < j) λi j=>.int (i % j)):=zc ▸ op_mod
theorem jo:OpR X (binaryOp .Pow) (rID CPow λi j=>.int (i ^ j.toNat)):=zc ▸ op_pow
theorem kq:UnR X (unaryOp .USub) (rUD λi=>.int (-i)):=rUD_eq ▸ un_neg
theorem P9 {e:Expr} {t:TE} (h:PE X e t) (he:∀whole,isTrue e X.env whole=(do let v ←whole;standAt e.pos;holding [v] (truthy v))):PT X e (tBD t):=iu ▸ pt_val h he
theorem N4 {a b:Expr} {pos:Pos} {op:CmpOp} {t:TE} (h:PC X op a b t) (h1:behindInMarks op b=false):PT X (.Compare a [op] [b] pos) (tBD t):=iu ▸ pt_cmp h h1
theorem Bt {a b:Expr} {ta tb:TE} {pos:Pos} {op:CmpOp} {r:R2} (ho:OpR X (compareOp op) r) (ha:PE X a ta) (hb:PE X b tb) (hm:behindInMarks op b=false):PT X (.Compare a [op] [b] pos) (tBD (tOp r ta tb)):=iu ▸ Pp ho ha hb hm
theorem La {e:Expr} {te:TE} (h:PE X e te):PO X (some e) (Ep te):=Jf ▸ P0 h
def y3 (K:PySem.W.Frag):List V→Hp→VK→Prop:=λxs H Q=>match xs with | [.ref p]=>∃ys,(SqL K H p ys∨SqT K H p ys)∧Q (.int ys.length) H | _=>False
def Kv (K:PySem.W.Frag):List V→Hp→VK→Prop:=λxs H Q=>match xs with | [.ref p]=>∃ys,(SqL K H p ys∧∀l,H l=none→Q (.ref l) (upd H l (.tup ys)))∨(SqT K H p ys∧Q (.ref p) H) | _=>False
def Kh:List V→Hp→VK→Prop:=λxs H Q=>match xs with | [.int i]=>Q (.int i) H | [.bl k]=>Q (.int (if k then 1 else 0)) H | _=>False
theorem xv:gd X (.builtin "len") (y3 X.K):=by
 refine Eq.mp (congrArg _ ?_) zm;funext xs H Q
 refine propext ⟨λ⟨p,ys,e,h⟩=>by subst e;exact ⟨ys,h⟩,λh=>?_⟩;unfold y3 at h;split at h
 ·exact h.elim λys h=>⟨_,ys,rfl,h⟩
 ·exact h.elim
theorem uu:gd X (.type "tuple") (Kv X.K):=by
 refine Eq.mp (congrArg _ ?_) xr;funext xs H Q
 refine propext ⟨λ⟨p,ys,e,h⟩=>by subst e;exact ⟨ys,h⟩,λh=>?_⟩;unfold Kv at h;split at h
 ·exact h.elim λys h=>⟨_,ys,rfl,h⟩
 ·exact h.elim
theorem gy:gd X (.type "int") Kh:=by
 refine Eq.mp (congrArg _ ?_) Jc;funext xs H Q
 refine propext ⟨λh=>?_,λh=>?_⟩
 ·rcases h with ⟨i,e,h⟩ | ⟨k,e,h⟩ <;> subst e <;> exact h
 unfold Kh at h;split at h
 ·exact .inl ⟨_,rfl,h⟩
 ·exact .inr ⟨_,rfl,h⟩
 ·exact h.elim
end L2
namespace Pc
section
variable {κ:Type} [DecidableEq κ]
noncomputable def cost (g:κ→Option Int):Int→List κ→Option Int
 | c,[]=>some c
 | c,k::r=>match g k with
  | none=>none
  | some v=>cost g (c+v) r
structure Ft (κ:Type) where
 key:κ
 own:Int
 hs:List κ
theorem gb {g:κ→Option Int} {c:Int} {k:κ} {r:List κ} {v:Int} (h:g k=some v):cost g c (k::r)=cost g (c+v) r:=by
 show (match g k with | none=>none | some v=>cost g (c+v) r)=_
 rw[h]
theorem gk {g:κ→Option Int} {c:Int} {k:κ} {r:List κ} (h:g k=none):cost g c (k::r)=none:=by
 show (match g k with | none=>none | some v=>cost g (c+v) r)=_
 rw[h]
theorem la {g:κ→Option Int} {c x:Int} {k:κ} {r:List κ} (h:cost g c (k::r)=some x):∃v,g k=some v∧cost g (c+v) r=some x:=by
 cases e:g k with
 | none=>rw[gk e] at h;cases h
 | some v=>rw[gb e] at h;exact ⟨v,rfl,h⟩
theorem sq {g g':κ→Option Int}:∀{hs:List κ} {c c' x:Int},(∀k∈hs,∀v,g k=some v→∃v',g' k=some v'∧v'≤v)→c'≤c→cost g c hs=some x→∃x',cost g' c' hs=some x'∧x'≤x
 | [],c,c',x,_,hc,h=>⟨c',rfl,by cases h;exact hc⟩
 | k::r,c,c',x,hk,hc,h=>by
  obtain ⟨v,hv,h⟩:=la h;obtain ⟨v',hv',le⟩:=hk k aa9 v hv;obtain ⟨x',hx',le'⟩:=sq (c':=c'+v') (λk' m=>hk k' (aaa _ m)) (by omega) h;exact ⟨x',by rw[gb hv'];exact hx',le'⟩
theorem xa {g g':κ→Option Int}:∀{hs:List κ} {c:Int},(∀k∈hs,g k=g' k)→cost g c hs=cost g' c hs
 | [],c,_=>rfl
 | k::r,c,h=>by
  have e:=h k aa9;cases q:g k with
  | none=>rw[gk q,gk (e ▸ q)]
  | some v=>rw[gb q,gb (e ▸ q)];exact xa λk' m=>h k' (aaa _ m)
theorem t7 {g:κ→Option Int} (pos:∀k v,g k=some v→1≤v):∀{hs:List κ} {c x:Int},cost g c hs=some x→c≤x
 | [],c,x,h=>by cases h;exact abp _
 | k::r,c,x,h=>by
  obtain ⟨v,hv,h⟩:=la h;have:=t7 pos h;have:=pos k v hv;omega
theorem Gj {g:κ→Option Int} (pos:∀k v,g k=some v→1≤v):∀{hs:List κ} {c x:Int},1≤c→cost g c hs=some x→∀k∈hs,∃v,g k=some v∧v < x
 | [],c,x,_,_,k,hk=>nomatch hk
 | k::r,c,x,hc,h,k',hk=>by
  obtain ⟨v,hv,h2⟩:=la h;have p:=pos k v hv;have p2:=t7 pos h2;rcases List.mem_cons.mp hk with e | hk
  ·exact ⟨v,by rw[e];exact hv,by omega⟩
  ·exact Gj pos (by omega) h2 k' hk
theorem wb {g:κ→Option Int} {M:Int} (h0:0≤M) (hM:∀k v,g k=some v→v≤M):∀{hs:List κ} {c x:Int},cost g c hs=some x→x≤c+hs.length*M
 | [],c,x,h=>by cases h;simp
 | k::r,c,x,h=>by
  obtain ⟨v,hv,h⟩:=la h;have:=wb h0 hM h;have:=hM k v hv;rw[aap,Int.natCast_add,Int.add_mul];omega
def ji (F:List (Ft κ)) (g:κ→Option Int):Prop:=∀f∈F,∀c,cost g f.own f.hs=some c→∃v,g f.key=some v∧v≤c
def Due (F:List (Ft κ)) (g:κ→Option Int):Prop:=∀k v,g k=some v→∃f∈F,f.key=k∧∃c,cost g f.own f.hs=some c∧c≤v
structure Tbl (F:List (Ft κ)) (g:κ→Option Int):Prop where
 st:ji F g
 du:Due F g
 pos:∀k v,g k=some v→1≤v
theorem Tbl.exact {F:List (Ft κ)} {g:κ→Option Int} (h:Tbl F g) {k:κ} {v:Int} (hv:g k=some v):∃f∈F,f.key=k∧cost g f.own f.hs=some v:=by
 obtain ⟨f,hf,rfl,c,hc,le⟩:=h.du k v hv;obtain ⟨v',hv',le'⟩:=h.st f hf c hc;obtain rfl:v=v':=aa3 (hv.symm.trans hv');exact ⟨f,hf,rfl,by rw[hc];congr 1;omega⟩
theorem Tbl.le {F:List (Ft κ)} {g g':κ→Option Int} (h:Tbl F g) (h':Tbl F g') (own:∀f∈F,1≤f.own):∀(n:Nat) (k:κ) (v:Int),v.toNat≤n→g k=some v→∃v',g' k=some v'∧v'≤v
 | 0,k,v,hn,hv=>by
  have:=h.pos k v hv;omega
 | n+1,k,v,hn,hv=>by
  obtain ⟨f,hf,rfl,hc⟩:=h.exact hv;have lt:=Gj h.pos (own f hf) hc;have p:=h.pos _ v hv;obtain ⟨x',hx',le⟩:=sq (g':=g') (c':=f.own) (λk hk w hw=>by
   obtain ⟨w',hw',l⟩:=lt k hk;obtain rfl:w=w':=aa3 (hw.symm.trans hw');exact Tbl.le h h' own n k w (by omega) hw) (abp _) hc
  obtain ⟨v',hv',le'⟩:=h'.st f hf x' hx';exact ⟨v',hv',by omega⟩
theorem Tbl.eq {F:List (Ft κ)} {g g':κ→Option Int} (h:Tbl F g) (h':Tbl F g') (own:∀f∈F,1≤f.own):g=g':=by
 funext k
 cases e:g k with
 | some v=>
  obtain ⟨v',hv',le⟩:=Tbl.le h h' own _ k v (aa4 _) e;obtain ⟨v2,hv2,le2⟩:=Tbl.le h' h own _ k v' (aa4 _) hv';obtain rfl:v=v2:=aa3 (e.symm.trans hv2);rw[hv'];congr 1
  omega
 | none=>
  cases e':g' k with
  | none=>rfl
  | some v=>
   obtain ⟨v',hv',_⟩:=Tbl.le h' h own _ k v (aa4 _) e';rw[e] at hv';cases hv'
noncomputable def fb (g:κ→Option Int) (k:κ) (v:Int):κ→Option Int:=λx=>if x=k then some v else g x
theorem cg {g:κ→Option Int} {k:κ} {v:Int}:fb g k v k=some v:=if_pos rfl
theorem dn {g:κ→Option Int} {k x:κ} {v:Int} (h:x≠k):fb g k v x=g x:=if_neg h
def Imp (g:κ→Option Int) (k:κ) (c:Int):Prop:=g k=none∨∃v,g k=some v∧c < v
theorem Imp.le {g:κ→Option Int} {k:κ} {c:Int} (h:Imp g k c) {x:κ} {v:Int} (hv:g x=some v):∃v',fb g k c x=some v'∧v'≤v:=by
 by_cases e:x=k
 ·subst e;refine ⟨c,cg,?_⟩;rcases h with h | ⟨w,h,l⟩
  ·rw[h] at hv;cases hv
  ·rw[h] at hv;cases hv;omega
 ·exact ⟨v,by rw[dn e];exact hv,abp _⟩
theorem Qj {F:List (Ft κ)} {g:κ→Option Int} {f:Ft κ} {c:Int} (D:Due F g) (hf:f∈F) (hc:cost g f.own f.hs=some c) (im:Imp g f.key c):Due F (fb g f.key c):=λk v hv=>by
 have up:∀{f':Ft κ} {c':Int},cost g f'.own f'.hs=some c'→∃x,cost (fb g f.key c) f'.own f'.hs=some x∧x≤c':=λh=>sq (λk _ v hv=>im.le hv) (abp _) h;by_cases e:k=f.key
 ·subst e;rw[cg] at hv;cases hv
  obtain ⟨x,hx,le⟩:=up hc;exact ⟨f,hf,rfl,x,hx,le⟩
 ·rw[dn e] at hv;obtain ⟨f',hf',e',c',hc',le⟩:=D k v hv;obtain ⟨x,hx,le'⟩:=up hc';exact ⟨f',hf',e',x,hx,by omega⟩
noncomputable def cnt (F:List (Ft κ)) (g:κ→Option Int):Nat:=(F.filter λf=>(g f.key).isSome).length
theorem E3 (F:List (Ft κ)) (g:κ→Option Int):cnt F g≤F.length:=ab8 _ _
theorem j9 {g g':κ→Option Int}:∀(F:List (Ft κ)),(∀f∈F,(g f.key).isSome→(g' f.key).isSome)→cnt F g≤cnt F g'
 | [],_=>aa4 _
 | f::F,h=>by
  have ih:=j9 F λf' m=>h f' (aaa _ m);have h0:=h f aa9;unfold cnt at ih ⊢;rw[aan,aan];cases e:(g f.key).isSome with
  | false=>
   rw[if_neg (by simp)];split
   ·rw[aap];omega
   ·exact ih
  | true=>
   rw[h0 e];simp only[if_true,aap];omega
theorem tj {g:κ→Option Int} {k:κ} {c:Int} (hn:g k=none):∀(F:List (Ft κ)),(∃f∈F,f.key=k)→cnt F g+1≤cnt F (fb g k c)
 | [],h=>by obtain ⟨f,hf,_⟩:=h;cases hf
 | f::F,h=>by
  have mono:=j9 (g:=g) (g':=fb g k c) F λf' _ e=>by
   by_cases q:f'.key=k
   ·rw[q,cg];rfl
   ·rw[dn q];exact e
  unfold cnt at mono ⊢;rw[aan,aan];by_cases q:f.key=k
  ·rw[q,hn,cg];simp only[acd,ac0,if_true,aaz,if_false,aap];omega
  ·rw[dn q];have ih:=tj (c:=c) hn F (by
    obtain ⟨f',hf',e⟩:=h;rcases List.mem_cons.mp hf' with rfl | hf'
    ·exact absurd e q
    ·exact ⟨f',hf',e⟩)
   unfold cnt at ih;cases (g f.key).isSome with
   | true=>simp only[if_true,aap];omega
   | false=>simp only[aaz,if_false];omega
noncomputable def top (D P h:Nat):Nat→Nat
 | 0=>D
 | c+1=>top D P h c+P+h*top D P h c
theorem j5 (D P h:Nat):∀{a b:Nat},a≤b→top D P h a≤top D P h b:=λ{a b} hab=>by
 induction hab with
 | refl=>exact aa4 _
 | @step m _ ih=>
  have:top D P h m≤top D P h (m+1):=by
   show _≤top D P h m+P+h*top D P h m
   rw[Nat.add_assoc];exact abj _ _
  exact aar ih this
theorem og {α:Type} (f:α→Nat):∀l:List α,∃B,∀x∈l,f x≤B
 | []=>⟨0,λ_ h=>nomatch h⟩
 | a::l=>by
  obtain ⟨B,h⟩:=og f l;refine ⟨f a+B,λx hx=>?_⟩;rcases List.mem_cons.mp hx with rfl | hx
  ·exact abj _ _
  ·exact aar (h x hx) (Nat.le_add_left _ _)
noncomputable def room (B:Nat) (F:List (Ft κ)) (g:κ→Option Int):Nat:=(F.map λf=>match g f.key with | some v=>v.toNat | none=>B+1).sum
theorem Cb {B:Nat} {g:κ→Option Int} {k:κ} {c:Int} (im:Imp g k c) (h0:0≤c) (hB:c.toNat≤B):∀(F:List (Ft κ)),room B F (fb g k c)≤room B F g∧((∃f∈F,f.key=k)→room B F (fb g k c) < room B F g)
 | []=>⟨aa4 _,λh=>by obtain ⟨f,hf,_⟩:=h;cases hf⟩
 | f::F=>by
  obtain ⟨i1,i2⟩:=Cb (B:=B) im h0 hB F;unfold room at i1 i2 ⊢;rw[aau,aau,ad7,ad7];by_cases q:f.key=k
  ·rw[q,cg];rcases im with e | ⟨v,e,l⟩
   ·rw[e];show c.toNat+_≤B+1+_∧(_→c.toNat+_ < B+1+_)
    exact ⟨by omega,λ_=>by omega⟩
   ·rw[e];show c.toNat+_≤v.toNat+_∧(_→c.toNat+_ < v.toNat+_)
    exact ⟨by omega,λ_=>by omega⟩
  ·rw[dn q];refine ⟨by omega,λh=>?_⟩;have:=i2 (by
    obtain ⟨f',hf',e⟩:=h;rcases List.mem_cons.mp hf' with rfl | hf'
    ·exact absurd e q
    ·exact ⟨f',hf',e⟩)
   omega
theorem ends {F:List (Ft κ)} {g0:κ→Option Int} (pos0:∀k v,g0 k=some v→1≤v) (own:∀f∈F,1≤f.own) (hB:∃D:Nat,∀k v,g0 k=some v→v≤(D:Int)):
  ∃(μ:(κ→Option Int)→Nat) (Ok:(κ→Option Int)→Prop),Ok g0∧(∀g,Ok g→∀k v,g k=some v→1≤v)∧∀g f c,Ok g→f∈F→cost g f.own f.hs=some c→Imp g f.key c→Ok (fb g f.key c)∧μ (fb g f.key c) < μ g:=by
 obtain ⟨D,hD⟩:=hB;obtain ⟨P,hP⟩:=og (λf:Ft κ=>f.own.toNat) F;obtain ⟨h,hh⟩:=og (λf:Ft κ=>f.hs.length) F;refine ⟨room (top D P h F.length) F,λg=>(∀k v,g k=some v→1≤v∧v≤(top D P h (cnt F g):Int)),λk v hv=>⟨pos0 k v hv,?_⟩,λg ok k v hv=>(ok k v hv).1,λg f c ok hf hc im=>?_⟩
 ·have a1:=hD k v hv;have a2:=j5 D P h (aa7 (cnt F g0));have a3:top D P h 0=D:=rfl;omega
 ·have pos:∀k v,g k=some v→1≤v:=λk v hv=>(ok k v hv).1;have c1:=t7 pos hc;have o1:=own f hf;have hmono:cnt F g≤cnt F (fb g f.key c):=j9 F λf' _ e=>by
   by_cases q:f'.key=f.key
   ·rw[q,cg];rfl
   ·rw[dn q];exact e
  have hcb:c≤(top D P h (cnt F (fb g f.key c)):Int):=by
   rcases im with e | ⟨v,e,l⟩
   ·have a1:=wb (M:=(top D P h (cnt F g):Int)) (by omega) (λk v hv=>(ok k v hv).2) hc;have a2:f.own.toNat≤P:=hP f hf;have a3:f.hs.length≤h:=hh f hf;have a4:=tj (c:=c) e F ⟨f,hf,rfl⟩;have a5:=j5 D P h a4;have a6:top D P h (cnt F g+1)=top D P h (cnt F g)+P+h*top D P h (cnt F g):=rfl;have a7:f.hs.length*top D P h (cnt F g)≤h*top D P h (cnt F g):=Nat.mul_le_mul_right _ a3;have a8:((f.hs.length*top D P h (cnt F g):Nat):Int)=(f.hs.length:Int)*(top D P h (cnt F g):Int):=by rw[Int.natCast_mul]
    omega
   ·have:=(ok _ v e).2;have a5:=j5 D P h hmono;omega
  have tB:=j5 D P h (E3 F (fb g f.key c));refine ⟨λk v hv=>?_,(Cb im (by omega) (by omega) F).2 ⟨f,hf,rfl⟩⟩;by_cases q:k=f.key
  ·subst q;rw[cg] at hv;cases hv
   exact ⟨by omega,hcb⟩
  ·rw[dn q] at hv;obtain ⟨b1,b2⟩:=ok k v hv;have a5:=j5 D P h hmono;exact ⟨b1,by omega⟩
end
end Pc
namespace L2
open PySem PySem.Spec PyProof.Rows
theorem lookup_mem {α:Type} {x:Str} {c:α}:∀{l:List (Str×α)},l.lookup x=some c→(x,c)∈l
 | [],h=>by cases h
 | (y,d)::r,h=>by
  rw[ae0] at h;cases e:x==y with
  | true=>
   rw[e] at h;have e':x=y:=eq_of_beq e;cases h
   subst e';exact aa9
  | false=>
   rw[e] at h;exact aaa _ (lookup_mem h)
noncomputable def xw (ix:List Nat) (σ:St):St:=ix.map λj=>(σ[j]?).getD none
def SubP (cs:List (Str×Addr)):List (Str×Addr)→Prop
 | []=>True
 | p::r=>cs.lookup p.1=some p.2∧SubP cs r
theorem SubP.of {cs:List (Str×Addr)}:∀{cl:List (Str×Addr)},SubP cs cl→∀p∈cl,cs.lookup p.1=some p.2
 | [],_,_,h=>by cases h
 | p::r,⟨h1,h2⟩,q,hq=>by
  rcases List.mem_cons.mp hq with e | e
  ·rw[e];exact h1
  ·exact SubP.of h2 q e
def Cy (X:Cx) (scope:Scope):List Str→List Nat→Prop
 | [],[]=>True
 | x::fr,j::ix=>(X.N[j]?=some x∧X.env.kindOf x=some .cell∧(relabel scope X.env).names.lookup x=some .cell)∧Cy X scope fr ix
 | _,_=>False
theorem Cy.len {X:Cx} {scope:Scope}:∀{fr:List Str} {ix:List Nat},Cy X scope fr ix→fr.length=ix.length
 | [],[],_=>rfl
 | x::fr,j::ix,h=>by rw[aap,aap,Cy.len h.2]
 | [],_::_,h=>h.elim
 | _::_,[],h=>h.elim
theorem Cy.get {X:Cx} {scope:Scope}:∀{fr:List Str} {ix:List Nat},Cy X scope fr ix→∀(k j:Nat),ix[k]?=some j→∃x,fr[k]?=some x∧X.N[j]?=some x∧X.env.kindOf x=some .cell∧(relabel scope X.env).names.lookup x=some .cell
 | [],[],_,k,j,e=>by simp at e
 | x::fr,i::ix,h,0,j,e=>by
  have e':i=j:=by simpa using e
  subst e';exact ⟨x,rfl,h.1⟩
 | x::fr,i::ix,h,k+1,j,e=>by
  obtain ⟨y,hy,r⟩:=Cy.get h.2 k j (by simpa using e);exact ⟨y,by simpa using hy,r⟩
 | [],_::_,h,_,_,_=>h.elim
 | _::_,[],h,_,_,_=>h.elim
structure j0 (X:Cx) (scope:Scope) (own fr:List Str) (ix:List Nat) (cl:List (Str×Addr)):Prop where
 clos:closureFor scope X.env=pure cl
 kind:scope.kind=.function
 nocell:(scope.names.all λy=>decide (y.2≠.cell))=true
 names:(scope.names.all λy=>decide (y.2≠.local)||decide (scope.names.lookup y.1=some .local))=true
 sub:SubP X.env.cells cl
 has:((relabel scope X.env).names.all λy=>!(decide (y.2=.cell)||decide (y.2=.free))||(cl.lookup y.1).isSome)=true
 out':Cy X scope fr ix
section
variable {X:Cx} {scope:Scope} {own fr:List Str} {ix:List Nat} {cl:List (Str×Addr)}
theorem j0.len (C:j0 X scope own fr ix cl):fr.length=ix.length:=C.out'.len
theorem j0.out (C:j0 X scope own fr ix cl):∀(k j:Nat),ix[k]?=some j→∃x,fr[k]?=some x∧X.N[j]?=some x∧Vis X.env.scope x∧X.env.kindOf x≠some .local∧(relabel scope X.env).names.lookup x≠some .local:=λk j e=>by
 obtain ⟨x,h1,h2,h3,h4⟩:=C.out'.get k j e;exact ⟨x,h1,h2,.inr (.inl h3),(by rw[h3];intro z;cases z),(by rw[h4];intro z;cases z)⟩
theorem j0.Ol (C:j0 X scope own fr ix cl):∀x∈scope.names,x.2≠.cell:=λx hx=>of_decide_eq_true (List.all_eq_true.mp C.nocell x hx)
theorem j0.L5 (C:j0 X scope own fr ix cl):∀x∈scope.names,x.2=.local→scope.names.lookup x.1=some .local:=λx hx e=>by
 have h:=List.all_eq_true.mp C.names x hx;rw[ae6] at h;rcases h with h | h
 ·exact absurd e (of_decide_eq_true h)
 ·exact of_decide_eq_true h
theorem j0.Cf (C:j0 X scope own fr ix cl):∀x c,cl.lookup x=some c→X.env.cells.lookup x=some c:=λx c h=>C.sub.of _ (lookup_mem h)
theorem j0.has' (C:j0 X scope own fr ix cl):∀x,((relabel scope X.env).names.lookup x=some .cell∨(relabel scope X.env).names.lookup x=some .free)→∃c,cl.lookup x=some c:=λx hx=>by
 have key:∀k,(relabel scope X.env).names.lookup x=some k→(k=.cell∨k=.free)→∃c,cl.lookup x=some c:=λk e hk=>by
  have h:=List.all_eq_true.mp C.has (x,k) (lookup_mem e);rw[ae6] at h;rcases h with h | h
  ·rcases hk with rfl | rfl
   ·simp at h
   ·simp at h
  ·exact Option.isSome_iff_exists.mp h
 rcases hx with h | h
 ·exact key _ h (.inl rfl)
 ·exact key _ h (.inr rfl)
end
noncomputable def cxC (X:Cx) (scope:Scope) (cl:List (Str×Addr)) (ns:List Str) (fp:List Addr) (s:Shared) (H:Hp):Cx where
 prog:=X.prog
 w:=X.w
 K:=X.K
 mg:=X.mg
 base:=X.base
 A:=X.A
 N:=ns
 s₀:=s
 H₀:=H
 env:=compEnvC scope cl s.heap.objs.size X.env
 outer:=X.stack
 stack:=X.stack
 ex:=fp
 fn:=λ_=>false
 calm:=X.calm
 pn:=[]
 xe:=λ_ _=>False
section
variable {X:Cx} {scope:Scope} {own fr:List Str} {ix:List Nat} {cl:List (Str×Addr)} {pins:List (Addr×Obj)} {σ:St} {H:Hp} {s:Shared} {fp:List Addr}
theorem cxC_ok (C:j0 X scope own fr ix cl) (I:Inv X pins σ H s) (f:∀b∈fp,sf X pins H b) (lt:∀b∈fp,b < s.heap.objs.size):(cxC X scope cl (own++fr) fp s H).Ok where
 mod:=I.ok.mod
 kind:=C.kind
 glob:=I.ok.glob
 blt:=I.ok.blt
 above:=aa4 _
 inj:=λx y c h1 h2=>I.ok.inj x y c (C.Cf x c h1) (C.Cf y c h2)
 has:=λx hx=>C.has' x hx
 cab:=λx c h _=>ae1 h
 hd:=I.ok.hd
 frames:=I.ok.frames
 stk:=.inl rfl
 exf:=λb hb=>⟨aam (lt b hb),λx c e=>(f b hb).2.2.2.2.1 x c (C.Cf x c e)⟩
 bs:=λb o e=>I.bs b o e
 bsz:=aar I.ok.bsz I.sz
 noex:=λb o e hb=>by
  rcases (f b hb).2.2.2.1 with z | z
  ·exact I.ok.noex b o e z
  ·exact absurd (aai (Heap.lt_size e) (aar I.ok.bsz z)) (abc _)
 exfs:=λb hb z=>by
  rcases List.mem_cons.mp (I.Dm b z) with q | q
  ·exact (f b hb).2.1 q
  ·exact (f b hb).2.2.1 q
 ql:=I.stack
 frf:=I.Au
theorem Mm (C:j0 X scope own fr ix cl) (I:Inv X pins σ H s) (f:∀b∈fp,sf X pins H b) (lt:∀b∈fp,b < s.heap.objs.size) {h₁:Heap} {t:Nat} {m:Str→Option Value}
  (hns:h₁.Ns s.heap.objs.size m) (k:∀b o,s.heap.get? b=some o→h₁.get? b=some o):
  Inv (cxC X scope cl (own++fr) fp s H) [] (aaj own.length none++xw ix σ) H { s with heap:=h₁,toks:=t } where
 ok:=cxC_ok C I f lt
 os:=rfl
 bare:=I.bare
 base:=Un.kept k
 loc:=⟨m,hns,λi x v e1 e2 e3=>by
  have e1:(own++fr)[i]?=some x:=e1;by_cases hi:i < own.length
  ·rw[aaf (by simpa using hi),ae3] at e2;rw[if_pos hi] at e2;cases e2
  ·have hi':own.length≤i:=aex hi;rw[aab (by simpa using hi')] at e2;rw[aab hi'] at e1;rw[abd] at e2;unfold xw at e2;rw[aa8] at e2;cases q:ix[i - own.length]? with
   | none=>rw[q] at e2;cases e2
   | some j=>
    rw[q] at e2;have e2':(σ[j]?).getD none=some v:=aa3 e2;obtain ⟨x',hx',hN,hv,hk,hl'⟩:=C.out _ j q;rw[e1] at hx';cases hx'
    have e4:σ[j]?=some (some v):=by
     cases z:σ[j]? with
     | none=>rw[z] at e2';cases e2'
     | some w=>rw[z] at e2';exact congrArg some e2'
    obtain ⟨mX,hnX,hl⟩:=I.loc;obtain ⟨u,r,l⟩:=hl j x v hN e4 hv;rcases l with ⟨kl,_⟩ | ⟨kk,c,ec,z⟩
    ·exact absurd kl hk
    ·have kY:(relabel scope X.env).names.lookup x=some .cell∨(relabel scope X.env).names.lookup x=some .free:=by
      rcases e3 with e3 | e3 | e3
      ·exact absurd e3 hl'
      ·exact .inl e3
      ·exact .inr e3
     obtain ⟨c',hc'⟩:=C.has' x kY;have hcc:=C.Cf x c' hc';rw[ec] at hcc;cases hcc
     obtain ⟨o,ho,hd⟩:=z;exact ⟨u,r,.inr ⟨kY,c,hc',⟨o,k c o ho,hd⟩⟩⟩⟩
 cell:=λx c e=>by
  obtain ⟨v,o,ho,hd⟩:=I.cell x c (C.Cf x c e);exact ⟨v,o,k c o ho,hd⟩
 free:=I.hok.fresh (aa4 _)
 freeC:=λx c e=>I.freeC x c (C.Cf x c e)
 pin:=λp hp=>by cases hp
 hok:=I.hok.kept k
 len:=by
  show (aaj own.length none++xw ix σ).length=(own++fr).length
  rw[aa2,aa2,abd,C.len];unfold xw;rw[aa0]
theorem Mn (I:Inv X pins σ H s) (f:∀b∈fp,sf X pins H b) {ns:List Str} {τ:St} {H':Hp} {s':Shared} {pins':List (Addr×Obj)} (J:Inv (cxC X scope cl ns fp s H) pins' τ H' s'):Inv X pins σ H' s':=
 I.Kb (ch:=fp) J.os J.base J.hok J.bare λb hb=>⟨(f b hb).2.2.2.1,(f b hb).2.1,(f b hb).2.2.2.2.1,(f b hb).2.2.2.2.2⟩
theorem Bm {σ':St} (I:Inv X pins σ H s) {H':Hp} {s':Shared} {h':Heap} (J:Inv X pins σ' H' s') (free:H' s.heap.objs.size=none) (sb:Heap.SameBut s.heap.objs.size s'.heap h'):Inv X pins σ' H' { s' with heap:=h' }:=
 J.turned (it:=s.heap.objs.size) (t':=s'.toks) (λb o hb e=>(sb.2 b hb).trans e) free (ab9 I.lt) (.inr I.sz)
  (λx c e z=>by
   obtain ⟨v,q⟩:=I.cell x c e;exact absurd (z ▸ q.lt) (abc _))
  (λp hp z=>absurd (z ▸ Heap.lt_size (I.pin p hp).1) (abc _))
end
section
variable {prog:Program} {w:World} {A:Around} {R:Result→Shared→Prop} {s:Shared}
theorem Ax {elt target iter:Expr} {ifs:List Expr} {scope:Scope} {pos:Pos} {it acc:Value} {env:Env} (I:Nat→Shared→Prop)
  (turn:∀n s,I n s→wpAny (model prog w) A (pyNext it) (λr s₁=>match r with
   | none=>R (.ok .next) s₁
   | some v=>wpAny (model prog w) A (letOwnedTupleGo target it v) (λ_ s₁'=>wpAny (model prog w) A (assign target env v) (λ_ s₂=>
     wpAny (model prog w) A (forIn ifs true λc r=>if r=true then do let ok ←isTrue c env (eval c env);pure (ForInStep.yield ok) else pure (ForInStep.yield r)) (λok s₃=>
      if ok=true then wpAny (model prog w) A (eval elt env) (λx s₄=>
       wpAny (model prog w) A (call (.builtin "list.append") [acc,x]) (λ_ s₅=>∃m,m < n∧I m s₅) (notedBy (model prog w) A env λe s'=>R (.error e) s') s₄) (notedBy (model prog w) A env λe s'=>R (.error e) s') s₃
      else ∃m,m < n∧I m s₃) (notedBy (model prog w) A env λe s'=>R (.error e) s') s₂) (notedBy (model prog w) A env λe s'=>R (.error e) s') s₁') (notedBy (model prog w) A env λe s'=>R (.error e) s') s₁)
    (notedBy (model prog w) A env λe s'=>R (.error e) s') s)
  (n:Nat) (h:I n s):
  codeAny (model prog w) A (.compLoop (.ListComp elt [⟨target,iter,ifs,0⟩] scope pos) 0 it acc env) R s:=by
 refine codeAny_loop rfl I (λn s hI=>?_) n h;show wpAny _ A ((compTurn (.ListComp elt [⟨target,iter,ifs,0⟩] scope pos) 0 it acc env).onRaise (λx=>do noteFrame x env;theTreesLotGoes x)) _ _ s
 refine wpAny_noted ?_;rw[compTurn_list];refine wpAny_bind (wpAny_standAt (wpAny_bind (wpAny_mono (turn n s hI) (λr s₁ h₁=>?_) λ_ _ h'=>h')));cases r with
 | none=>exact wpAny_pure h₁
 | some v=>
  refine wpAny_bind (wpAny_mono h₁ (λ_ s₁' h₁'=>?_) λ_ _ h'=>h');refine wpAny_bind (wpAny_mono h₁' (λ_ s₂ h₂=>wpAny_bind (wpAny_mono h₂ (λok s₃ h₃=>?_) λ_ _ h'=>h')) λ_ _ h'=>h');cases ok with
  | false=>exact wpAny_pure ⟨rfl,h₃⟩
  | true=>
   exact wpAny_bind (wpAny_bind (wpAny_mono h₃ (λx s₄ h₄=>wpAny_bind (wpAny_mono h₄ (λ_ s₅ h₅=>wpAny_pure (wpAny_pure ⟨rfl,h₅⟩)) λ_ _ h'=>h')) λ_ _ h'=>h'))
end
def PIfs (X:Cx) (ifs:List Expr) (t:TT):Prop:=
 ∀(pins:List (Addr×Obj)) (s:Shared) (σ:St) (H:Hp) (Q:Bool→Hp→Prop),Inv X pins σ H s→t σ H Q→
  wpAny (model X.prog X.w) X.A (forIn ifs true λc r=>if r=true then do let ok ←isTrue c X.env (eval c X.env);pure (ForInStep.yield ok) else pure (ForInStep.yield r)) (TP X pins σ Q) X.xe s
def tNoIf:TT:=λ_ H Q=>Q true H
theorem pif0 {X:Cx}:PIfs X [] tNoIf:=λpins s σ H Q I h=>wpAny_tests_nil ⟨H,I,h⟩
theorem pif1 {X:Cx} {c:Expr} {t:TT} (h:PT X c t):PIfs X [c] t:=λpins s σ H Q I q=>wpAny_tests_one (h pins s σ H Q I q)
def LC (n:Nat) (fr:St) (g:TG) (tc:TT) (te:TE) (J:It) (D:Addr) (H1:Hp) (Q:Hp→Prop):Prop:=
 ∃W:Nat→Nat→Hp→Prop,(∃m,W 0 m (upd H1 D (.lst [])))∧∀i m H,W i m H→
  (J.stop i H∧Q H)∨(J.go i H∧∀(τ:St) x H',τ.length=n→J.yld i H x H'→g x (τ++fr) H' λσ2 H2=>(∃τ':St,τ'.length=n∧σ2=τ'++fr)∧tc σ2 H2 λb H3=>
   if b=true then te σ2 H3 λy H4=>∃ys,H4 D=some (.lst ys)∧ys.length < sizeLine∧∃m',m' < m∧W (i+1) m' (upd H4 D (.lst (ys++[y]))) else ∃m',m' < m∧W (i+1) m' H3)
def tLC (n:Nat) (ix:List Nat) (wi:TI) (g:TG) (tc:TT) (te:TE):TE:=λσ H Q=>wi σ H λJ H1=>∀D,H1 D=none→LC n (xw ix σ) g tc te J D H1 λH'=>Q (.ref D) H'
section
variable {X:Cx} {scope:Scope} {own fr:List Str} {ix:List Nat} {cl:List (Str×Addr)} {elt iter tg:Expr} {ifs:List Expr} {pos:Pos} {wi:TI} {g:TG} {tc:TT} {te:TE}
theorem vh {E:Value→Shared→Prop} {RR:Value→Addr→Result→Shared→Prop} (C:j0 X scope own fr ix cl) (hc:X.calm=true)
  (hg:∀fp s H,PG (cxC X scope cl (own++fr) fp s H) tg g) (ht:∀fp s H,PIfs (cxC X scope cl (own++fr) fp s H) ifs tc) (he:∀fp s H,PE (cxC X scope cl (own++fr) fp s H) elt te)
  {pins:List (Addr×Obj)} {σ:St} {H2:Hp} {s2:Shared} {it:Addr} {fp:List Addr} {tn:Nat→Heap→Prop} {J:It} {Q:Hp→Prop} (I2:Inv X pins σ H2 s2) (T:Turn X.prog X.w X.K tg J fp it tn) (st2:tn 0 s2.heap) (f2:∀b∈fp,sf X pins H2 b)
  (q:LC own.length (xw ix σ) g tc te J s2.heap.objs.size H2 Q)
  (hRR:∀(s3 s':Shared) (H3 H':Hp) (τ:St),Inv X pins σ H3 s3→Inv X pins σ H' s'→H' s3.heap.objs.size=none→(∃m,s'.heap.Ns s3.heap.objs.size m)→Q H'→RR (.ref s2.heap.objs.size) s3.heap.objs.size (.ok .next) s'):
  wpAny (model X.prog X.w) X.A (newList []) (λacc s₃=>wpAny (model X.prog X.w) X.A (newFunctionEnv scope X.env.globals cl [] X.env.qual none .none (some X.env)) (λcenv s₄=>
   codeAny (model X.prog X.w) X.A (.compStart (.ListComp elt [⟨tg,iter,ifs,0⟩] scope pos) 0 (.ref it) acc { cenv with scope:=relabel scope X.env }) (RR acc cenv.locals) s₄) E s₃) E s2:=by
 refine wpAny_newObj_type ?_;have I3:Inv X pins σ (upd H2 s2.heap.objs.size (.lst [])) { s2 with heap:=s2.heap.push { cls:=.type "list",dict:=none,data:=.seq ([]:List Value).toArray } }:=I2.lnew (t':=s2.toks) (its:=[]) .nil (aa7 _);have lt2:∀b∈fp,b < s2.heap.objs.size:=λb hb=>by
  obtain ⟨o,e,_⟩:=T.obj 0 _ st2 b hb;exact Heap.lt_size e
 have fneD:∀b∈fp,b≠s2.heap.objs.size:=λb hb=>aam (lt2 b hb);generalize hs3:({ s2 with heap:=s2.heap.push { cls:=.type "list",dict:=none,data:=.seq ([]:List Value).toArray } }:Shared)=s3 at I3 ⊢;have hsz:s3.heap.objs.size=s2.heap.objs.size+1:=by rw[←hs3];exact Heap.size_push ..
 have kp23:∀b o,s2.heap.get? b=some o→s3.heap.get? b=some o:=λb o e=>by rw[←hs3];exact Heap.get?_push_of_some _ e
 have f3:∀b∈fp,sf X pins (upd H2 s2.heap.objs.size (.lst [])) b:=λb hb=>by
  obtain ⟨f0,fr⟩:=f2 b hb;exact ⟨by rw[af (fneD b hb)];exact f0,fr⟩
 have lt3:∀b∈fp,b < s3.heap.objs.size:=λb hb=>by rw[hsz];exact ach (lt2 b hb)
 refine wpAny_newFunctionEnv C.Ol (by intro y hy;simp at hy) (λh₁ hns₁ hsb₁=>?_) C.kind;have k34:∀b o,s3.heap.get? b=some o→h₁.get? b=some o:=λb o e=>
  (hsb₁.2 b (aam (Heap.lt_size e))).trans (Heap.get?_push_of_some _ e)
 have I4:=Mm C I3 f3 lt3 (t:=s3.toks+([]:List (Str×Value)).length) hns₁ k34;have st4:tn 0 h₁:=T.keep 0 _ _ st2 λb _ o e=>k34 b o (kp23 b o e);obtain ⟨W,⟨m0,w0⟩,turn⟩:=q;have loop:∀s4:Shared,s4={ s3 with heap:=h₁,toks:=s3.toks+([]:List (Str×Value)).length }→
   codeAny (model X.prog X.w) X.A (.compLoop (.ListComp elt [⟨tg,iter,ifs,0⟩] scope pos) 0 (.ref it) (.ref s2.heap.objs.size) (compEnvC scope cl s3.heap.objs.size X.env)) (RR (.ref s2.heap.objs.size) s3.heap.objs.size) s4:=by
  rintro s4 rfl;have stat:∀{H':Hp},(∀b∈fp,H' b=none)→∀b∈fp,sf (cxC X scope cl (own++fr) fp s3 (upd H2 s2.heap.objs.size (.lst []))) [] H' b:=λ{H'} hn b hb=>
   ⟨hn b hb,aam (lt3 b hb),I4.ok.exfs b hb,.inl hb,(I4.ok.exf b hb).2,λp hp=>by cases hp⟩
  refine Ax (λn s'=>∃i τ H',τ.length=own.length∧Inv (cxC X scope cl (own++fr) fp s3 (upd H2 s2.heap.objs.size (.lst []))) [] (τ++xw ix σ) H' s'∧tn i s'.heap∧(∀b∈fp,H' b=none)∧W i n H') ?_ m0
   ⟨0,aaj own.length none,_,abd,I4,st4,λb hb=>(f3 b hb).1,w0⟩
  rintro n s5 ⟨i,τ,H5,hτ,I5,st5,fr5,w5⟩;rcases turn i n H5 w5 with ⟨stop,qn⟩ | ⟨go,step⟩
  ·refine wpAny_mono (T.done (cxC X scope cl (own++fr) fp s3 (upd H2 s2.heap.objs.size (.lst []))) rfl rfl rfl hc i [] s5 _ H5 (λ_ _=>False) I5 (stat fr5) st5 stop) (λr s6 ⟨hr,I6⟩=>?_) λ_ _ z=>z.elim;subst hr;obtain ⟨mm,hmm,_⟩:=I6.loc;exact hRR s3 s6 _ H5 τ I3 (Mn I3 f3 I6) I6.free ⟨mm,hmm⟩ qn
  ·refine wpAny_mono (T.item (cxC X scope cl (own++fr) fp s3 (upd H2 s2.heap.objs.size (.lst []))) rfl rfl rfl hc i [] s5 _ H5 (λ_ _=>False) I5 (stat fr5) st5 go) (λr s6 ⟨u,hr,h6⟩=>?_) λ_ _ z=>z.elim;subst hr;refine wpAny_mono h6 (λ_ s7 ⟨x,H7,I7,r7,y7,st7,fr7⟩=>?_) λ_ _ z=>z.elim;have I7':=I7.pinned (stat fr7) (T.obj _ _ st7);refine wpAny_mono (hg fp s3 _ _ s7 _ H7 x u _ I7' r7 (step τ x H7 hτ y7)) (λ_ s8 ⟨σ8,H8,I8,⟨τ',hτ',e8⟩,q8⟩=>?_) λ_ _ z=>z.elim;have fin:∀{H9:Hp} {s9:Shared},Inv (cxC X scope cl (own++fr) fp s3 (upd H2 s2.heap.objs.size (.lst []))) ([]++uy fp s7.heap) σ8 H9 s9→(∃m',m' < n∧W (i+1) m' H9)→
     ∃m,m < n∧∃i τ H',τ.length=own.length∧Inv (cxC X scope cl (own++fr) fp s3 (upd H2 s2.heap.objs.size (.lst []))) [] (τ++xw ix σ) H' s9∧tn i s9.heap∧(∀b∈fp,H' b=none)∧W i m H':=λ{H9 s9} I9 hw=>by
    obtain ⟨m',hm,w9⟩:=hw;refine ⟨m',hm,i+1,τ',H9,hτ',e8 ▸ I9.nz,T.keep _ _ _ st7 λb hb o e=>(I9.pin (b,o) (aax _ (aax _ (jm hb e)))).1,λb hb=>?_,w9⟩;obtain ⟨o,e,d⟩:=T.obj _ _ st7 b hb;exact (I9.pin (b,o) (aax _ (aax _ (jm hb e)))).2.1
   refine wpAny_mono (ht fp s3 _ _ s8 σ8 H8 _ I8 q8) (λok s9 ⟨H9,I9,q9⟩=>?_) λ_ _ z=>z.elim;cases ok with
   | false=>exact fin I9 q9
   | true=>
    refine wpAny_mono (he fp s3 _ _ s9 σ8 H9 _ I9 q9) (λy s10 ⟨v10,H10,I10,r10,ys,hD,hz,q10⟩=>?_) λ_ _ z=>z.elim;refine wpAny_mono (yq (X:=cxC X scope cl (own++fr) fp s3 (upd H2 s2.heap.objs.size (.lst []))) _ s10 σ8 H10 (.ref s2.heap.objs.size) [v10] _ [y] (λ_ H'=>∃m',m' < n∧W (i+1) m' H') I10 rfl (.cons r10 .nil) ⟨_,ys,v10,rfl,rfl,hD,hz,q10⟩) (λ_ s11 ⟨_,H11,I11,_,q11⟩=>?_) λ_ _ z=>z.elim;exact fin I11 q11
 exact codeAny_compStart_list (loop _ rfl) (T.self _ 0 _ _ _ st4 (loop _ rfl))
theorem pe_lc (C:j0 X scope own fr ix cl) (hc:X.calm=true) (hi:PI X tg iter wi) (hg:∀fp s H,PG (cxC X scope cl (own++fr) fp s H) tg g)
  (ht:∀fp s H,PIfs (cxC X scope cl (own++fr) fp s H) ifs tc) (he:∀fp s H,PE (cxC X scope cl (own++fr) fp s H) elt te)
  (hs:∀x,foldedSetIterable iter X.env x=pure x:=by intro _;rfl):PE X (.ListComp elt [⟨tg,iter,ifs,0⟩] scope pos) (tLC own.length ix wi g tc te):=by
 intro pins s σ H Q I h;rw[eval_ListComp];refine wpAny_comprehension_free (use:=none) rfl hs C.clos C.kind C.L5 (thn (hi pins s σ H _ I h) λv s1 h1=>thn h1 λitv s2 h2=>?_);obtain ⟨it,fp,tn,J,H2,e,I2,T,st2,f2,q⟩:=h2;subst e;refine vh (RR:=λacc D=>compPost (model X.prog X.w) X.A X.xe none (EP X pins σ Q) acc D) C hc hg ht he I2 T st2 f2 (q _ (I2.hok.fresh (aa4 _))) λs3 s' H3 H' τ I3 I' hn hm q'=>?_;obtain ⟨m,hm⟩:=hm;exact ⟨m,hm,λh' sb=>⟨.ref s2.heap.objs.size,H',Bm I3 I' hn sb,rfl,q'⟩⟩
def Ki (i n:Nat) (ix:List Nat) (wi:TI) (g:TG) (tc:TT) (te:TE):TS:=λD σ H=>wi σ H λJ H1=>∀l,H1 l=none→LC n (xw ix σ) g tc te J l H1 λH'=>D.nx (σ.set i (some (.ref l))) H'
theorem K8 {i:Nat} {x:Str} {px spos:Pos} (hN:X.N.Nodup) (hx:X.N[i]?=some x) (hl:Loc X.env.scope x) (C:j0 X scope own fr ix cl) (hc:X.calm=true) (hi:PI X tg iter wi)
  (hg:∀fp s H,PG (cxC X scope cl (own++fr) fp s H) tg g) (ht:∀fp s H,PIfs (cxC X scope cl (own++fr) fp s H) ifs tc) (he:∀fp s H,PE (cxC X scope cl (own++fr) fp s H) elt te)
  (hsw:swapsWith (.ListComp elt [⟨tg,iter,ifs,0⟩] scope pos) (some (.Name x px)) spos.line X.env=pure true:=by rfl)
  (hs:∀x,foldedSetIterable iter X.env x=pure x:=by intro _;rfl) (hf:X.fn x=true∨X.env.scope.names.lookup x=some .local:=by first | exact .inl rfl | exact .inr rfl | assumption):
  PS X (.Assign [.Name x px] (.ListComp elt [⟨tg,iter,ifs,0⟩] scope pos) spos) (Ki i own.length ix wi g tc te):=by
 intro pins s σ H D I h;rw[exec_Assign_Name_used _ _ _ _ hsw];refine wpAny_bind (wpAny_standAt (wpAny_bind ?_));show wpAny _ X.A (do let _ ←comprehension (.ListComp elt [⟨tg,iter,ifs,0⟩] scope pos) scope X.env _ (newList []) false (eval iter X.env) (some (assign (.Name x px) X.env))) _ _ s
 refine wpAny_bind (wpAny_mono (wpAny_comprehension_free (use:=some (assign (.Name x px) X.env)) (Q:=λ_ s'=>SP X pins D .next s') rfl hs C.clos C.kind C.L5
  (thn (hi pins s σ H _ I h) λv s1 h1=>thn h1 λitv s2 h2=>?_)) (λ_ s' hq=>wpAny_pure (wpAny_pure hq)) λ_ _ e=>e)
 obtain ⟨it,fp,tn,J,H2,e,I2,T,st2,f2,q⟩:=h2;subst e;refine vh (RR:=λacc C=>compPost (model X.prog X.w) X.A X.xe (some (assign (.Name x px) X.env)) (λ_ s'=>SP X pins D .next s') acc C) C hc hg ht he I2 T st2 f2 (q _ (I2.hok.fresh (aa4 _))) λs3 s' H3 H' τ I3 I' hn hm q'=>?_;obtain ⟨m,hm⟩:=hm;show wpAny _ X.A (assign (.Name x px) X.env (.ref s2.heap.objs.size)) _ _ _
 refine wpAny_assign_Name (yj I' hN hx hl (v:=.ref s2.heap.objs.size) rfl (λs'' I'' hsb=>?_) hf);obtain ⟨a,sba,ha⟩:=hsb;have hne:s3.heap.objs.size≠a:=by
  rcases ha with rfl | ha
  ·exact ab9 I3.lt
  ·obtain ⟨v,qv⟩:=I3.cell x a ha;exact ab9 qv.lt
 exact ⟨m,hm.sameBut sba hne,λh' sb=>⟨_,H',Bm I3 I'' hn sb,q'⟩⟩
end
noncomputable def Its (z:Str):It:=⟨λi _=>i < z.cps.size,λi H x H'=>H'=H∧∃c,z.cps[i]?=some c∧x=.str ⟨#[c]⟩,λi _=>i=z.cps.size⟩
def iStr (tl:TE):TI:=λσ H R=>tl σ H λx H1=>∃z,x=.str z∧R (Its z) H1
theorem range_all (bs:List Bool) (tr:Nat→Bool) (h:∀(i:Nat) b,bs[i]?=some b→tr i=b):(aav bs.length).all tr=bs.all id:=by
 apply Bool.eq_iff_iff.mpr
 constructor
 ·intro h1;refine List.all_eq_true.mpr λb hb=>?_;obtain ⟨i,hi⟩:=List.getElem?_of_mem hb;have hl:i < bs.length:=(List.getElem?_eq_some_iff.mp hi).1;have:=List.all_eq_true.mp h1 i (List.mem_range.mpr hl);rw[h i b hi] at this;exact this
 ·intro h1;refine List.all_eq_true.mpr λi hi=>?_;have hl:i < bs.length:=List.mem_range.mp hi;have hg:bs[i]?=some bs[i]:=aa1 hl;rw[h i _ hg];exact List.all_eq_true.mp h1 _ (ab3 hl)
section
variable {X:Cx}
theorem lz (hc:X.calm=true):gd X (.builtin "all") (λxs H Q=>∃p bs,xs=[.ref p]∧SqL X.K H p (aec V.bl bs)∧Q (.bl (bs.all id)) H):=by
 intro pins s σ H xs us Q I r h;obtain ⟨p,bs,rfl,hq,q⟩:=h;obtain ⟨u,rfl,rx⟩:=vals1 r;cases rx
 obtain ⟨its,rv,pl,hz⟩:=I.list hq;have hlen:bs.length=its.length:=by rw[←rv.length,aa0]
 refine call_all_walk (wpAny_pyIter_list pl.isList ?_);have hne:p≠s.heap.objs.size:=by
  obtain ⟨o,n,e,_⟩:=pl;exact aam (Heap.lt_size e)
 have I1:Inv X pins σ H { s with heap:=s.heap.push { cls:=.type "list_iterator",data:=.fields #[.ref p,.int 0 0] } }:=I.kept (t':=s.toks) λb o e=>Heap.get?_push_of_some _ e;have fp:=I.Ey (H':=H) (aa4 s.heap.objs.size) (I.hok.fresh (aa4 _));obtain ⟨f0,f1,f2,f3,f4,f5⟩:=fp;refine ⟨s.heap.objs.size,_,_,its.toArray.size,_,_,λi=>(bs[i]?).getD false,rfl,Walks.list (A:=X.A.in1) (by show X.A.handled=none;exact I.ok.hd hc) s.heap.objs.size p hne its.toArray,⟨⟨_,Heap.get?_push_size _ rfl,rfl,rfl⟩,?_⟩,?_,λh' tk kk=>?_⟩
 ·obtain ⟨o,ho,r⟩:=pl.isList;exact ⟨o,Heap.get?_push_of_some _ ho,r⟩
 ·intro i v s' Q' E' hv hQ;have hv':its[i]?=some v:=by simpa using hv
  have hi:i < bs.length:=by rw[hlen];exact (List.getElem?_eq_some_iff.mp hv').1
  have hb:(bs.map V.bl)[i]?=some (V.bl bs[i]):=by rw[aa8,aa1 hi];rfl
  obtain ⟨u',hu',ru'⟩:=rv.get hb;rw[hv'] at hu';cases hu'
  cases ru'
  dsimp only at hQ;rw[aa1 hi] at hQ;exact wpAny_truthy_bool hQ
 ·rw[aa6,←hlen,range_all bs _ (λi b e=>by rw[e];rfl)];exact ⟨.bl _,H,I1.turned (it:=s.heap.objs.size) (λb o hb e=>kk b o (by simpa using hb) e) f0 f1 f3 f4 f5,rfl,q⟩
end
noncomputable def cutS (z:Str) (lo hi:Option Int):Str:=⟨((z.cps.toList.drop (HT.sIx z.length 0 lo)).take (HT.sIx z.length z.length hi - HT.sIx z.length 0 lo)).toArray⟩
section
variable {X:Cx}
def rSlS:V→Option Int→Option Int→Hp→VK→Prop:=λx lo hi H Q=>∃z,x=.str z∧z.length≤sizeLine∧Q (.str (cutS z lo hi)) H
noncomputable def mh (z:Str) (n:Nat):Str:=⟨(aaj n z.cps.toList).flatten.toArray⟩
theorem yc (x:List Nat):∀(n:Nat) (acc:Array Nat),(aaj n x.toArray).foldl (·++·) acc=acc++(aaj n x).flatten.toArray
 | 0,acc=>by simp
 | n+1,acc=>by
  rw[ab5,af6,yc x n,ab5,abx];apply Array.toList_inj.mp
  simp
theorem Ot (z:Str) (n:Int) (h:0≤n):Txt.mul z n=mh z n.toNat:=by
 unfold Txt.mul mh;by_cases h1:n < 1
 ·rw[if_pos h1];have e:n.toNat=0:=by omega
  rw[e];rfl
 ·rw[if_neg h1];by_cases h2:(n==1||z.length==0)=true
  ·rw[if_pos h2];rw[ae6] at h2;rcases h2 with h2 | h2
   ·have e:n=1:=eq_of_beq h2;subst e;show z=⟨(aaj 1 z.cps.toList).flatten.toArray⟩
    simp
   ·have e:z.length=0:=eq_of_beq h2;have e0:z.cps=#[]:=Array.eq_empty_of_size_eq_zero e;cases z with
    | mk c=>cases e0;simp
  ·rw[if_neg h2];have e:=yc z.cps.toList n.toNat #[];have e3:z.cps.toList.toArray=z.cps:=by simp
   rw[e3] at e;rw[e];simp
theorem ng:OpR X (binaryOp .Mult) (λx y H Q=>∃z n,x=.str z∧y=.int n∧0≤n∧n≤1000∧z.length≤1000∧Q (.str (mh z n.toNat)) H):=by
 intro pins s σ H x y v u Q I rx ry h;obtain ⟨z,n,rfl,rfl,h0,h1,h2,q⟩:=h;obtain ⟨t,rfl⟩:=rx;obtain ⟨t',rfl⟩:=ry;have hb:z.length*n.toNat≤1000*1000:=Nat.mul_le_mul h2 (by omega);refine SB.mul ⟨by rw[Bool.or_eq_false_iff];exact ⟨decide_eq_false (by omega),decide_eq_false (by omega)⟩,λhn1 _=>?_,λ_ _=>?_⟩ λt' k=>⟨.str _,H,I.tok _,⟨_,rfl⟩,by rw[Ot z n h0];exact q⟩
 ·have hp:0 < n:=by omega
  have h3:(z.length:Int)*n≤1000*n:=Int.mul_le_mul_of_nonneg_right (by omega) h0;have h4:(z.length:Int)≤(2 ^ 63 - 1) / n:=Int.le_ediv_of_mul_le hp (by omega);omega
 ·unfold Builtin.Str.tooLong;exact decide_eq_false (by have:=sizeLine_eq;omega)
theorem Dh:gd X (.builtin "isinstance") (λxs H Q=>∃x n t b,xs=[x,.ty n]∧ny X.K H x t∧PySem.W.kitOne X.K t (.type n)=some b∧Q (.bl b) H):=by
 intro pins s σ H xs us Q I r h;obtain ⟨x,n,t,b,rfl,ty,e,q⟩:=h;obtain ⟨u,u2,rfl,r1,r2⟩:=vals2 r;cases (show u2=Value.type n from r2)
 exact He I r1 ty e λtk=>⟨.bl b,H,I.tok tk,rfl,q⟩
end
theorem aa {H:Hp} {p:Addr} (h:H p=none) (o:HO):ak H (upd H p o):=λb u q=>by rw[af (ah q h)];exact q
theorem ak.upd {H H':Hp} {p:Addr} (e:ak H H') (h:H p=none) (o:HO):ak H (L2.upd H' p o):=λb u q=>by rw[af (ah q h)];exact e b u q
theorem ak.tup {K:PySem.W.Frag} {H H':Hp} {a:Addr} {xs:List V} (e:ak H H') (h:SqT K H a xs):SqT K H' a xs:=by
 rcases h with (h | ⟨o,h⟩) | h
 ·exact .inl (.inl (e _ _ h))
 ·exact .inl (.inr ⟨o,e _ _ h⟩)
 ·exact .inr h
def Has (P:Program) (w:World) (K:PySem.W.Frag) (mg:Str→Option Value) (base:Heap) (k:Nat) (x:Str) (ps:List Str) (sp:Sp):Prop:=
 ∃(f:Addr) (fd:FuncData),lu P w K mg base CX0 k f fd ps sp∧Binds K fd ps []∧PySem.W.keepIn K (.ref f)=true∧mg x=some (.ref f)
theorem Has.up {P:Program} {w:World} {K:PySem.W.Frag} {mg:Str→Option Value} {base:Heap} {j k:Nat} {x:Str} {ps:List Str} {sp:Sp} (h:Has P w K mg base j x ps sp) (l:j≤k):Has P w K mg base k x ps sp:=by
 obtain ⟨f,fd,F,r⟩:=h;exact ⟨f,fd,F.mono l,r⟩
def Def (K:PySem.W.Frag) (mg:Str→Option Value) (x:Str) (st:Stmt) (ps:List Str):Prop:=
 ∃(f:Addr) (fd:FuncData),Fun K x x st f fd∧Binds K fd ps []∧mg x=some (.ref f)
theorem Def.has {P:Program} {w:World} {K:PySem.W.Frag} {mg:Str→Option Value} {base:Heap} {k:Nat} {x:Str} {st:Stmt} {N ps:List Str} {sp:Sp} (D:Def K mg x st ps) (S:ax N ps (ag st)) (len:∀vs H Q E,sp vs H Q E→vs.length=ps.length)
  (hbody:∀(f:Addr) (cdv:Value) (A:Around) (outer:List Env) (s:Shared) (H:Hp) (vs:List V) (Q:VK) (E:XK),fj k (A.deeper (envOfC x (ag st) s.heap.objs.size f cdv))→sp vs H Q E→
   ∃t,PSs (me CX0 P w K mg base N x (ag st) f cdv A outer s H E).nox (av st) t∧t { nx:=λ_ H'=>Q .non H',rt:=Q } (start N vs) H):Has P w K mg base (k+1) x ps sp:=by
 obtain ⟨f,fd,F,b,m⟩:=D;exact ⟨f,fd,F.ok S len λcdv A outer s H vs Q E hr h=>hbody f cdv A outer s H vs Q E hr h,b,F.kp,m⟩
section
variable {X:Cx} {k:Nat} {ps:List Str} {sp:Sp} {x:Str} {p pos:Pos} {e:Expr} {es:List Expr} {t:TA}
theorem pe_has (h:Has X.prog X.w X.K X.mg X.base k x ps sp) (hr:fj k X.A) (ha:PA X (e::es) t) (hg:Gl X x:=by rfl) (hdb:(x==("__debug__":Str))=false:=by decide+kernel)
  (he:starEach (e::es) X.env=(false,eval e X.env)::starEach es X.env:=by rfl) (hpl:(backTo pos (starEach es X.env)).any (·.1)=false:=by rfl):
  PE X (.Call (.Name x p) (e::es) [] pos) (Be sp [] E0 t):=by
 obtain ⟨f,fd,F,b,kp,m⟩:=h;exact Aq F hr hg m kp b .nil pass0 ha hdb he hpl
end
theorem Es {J:It} {fr:St} {tc:TT} {te:TE} {D:Addr} {H1:Hp} {Q:Hp→Prop} (n:Nat) (item:Nat→V) (P:Nat→List V→Prop) (hn:n < sizeLine) (hD:H1 D=none)
  (hgo:∀i H,i < n→ak H1 H→J.go i H) (hyld:∀i H x H',i < n→ak H1 H→J.yld i H x H'→H'=H∧x=item i) (hstop:∀H,ak H1 H→J.stop n H)
  (h0:P 0 [])
  (step:∀i ys H (G:Hp→Prop) (K':V→Hp→Prop),i < n→P i ys→ys.length≤i→ak H1 H→(∀H3,ak H H3→P (i+1) ys→G H3)→(∀y H4,ak H H4→P (i+1) (ys++[y])→K' y H4)→tc ([some (item i)]++fr) H λb H3=>if b=true then te ([some (item i)]++fr) H3 K' else G H3)
  (done:∀ys H,P n ys→ys.length≤n→ak H1 H→H D=some (.lst ys)→Q H):LC 1 fr (cv 0) tc te J D H1 Q:=by
 refine ⟨λi m H=>m=n - i∧i≤n∧∃ys,H D=some (.lst ys)∧P i ys∧ys.length≤i∧ak H1 H,⟨n,by simp,aa7 _,[],ae,h0,aa4 _,aa hD _⟩,?_⟩;rintro i m H ⟨rfl,hi,ys,hys,hP,hl,hS⟩;by_cases hlt:i < n
 ·refine .inr ⟨hgo i H hlt hS,λτ x H' hτ hy=>?_⟩;obtain ⟨e1,e2⟩:=hyld i H x H' hlt hS hy;subst e1 e2;obtain ⟨a,rfl⟩:∃a,τ=[a]:=List.length_eq_one_iff.mp hτ;refine ⟨⟨[some (item i)],rfl,rfl⟩,step i ys H' (λH3=>∃m',m' < n - i∧m'=n - (i+1)∧i+1≤n∧∃ys,H3 D=some (.lst ys)∧P (i+1) ys∧ys.length≤i+1∧ak H1 H3)
   (λy H4=>∃zs,H4 D=some (.lst zs)∧zs.length < sizeLine∧∃m',m' < n - i∧m'=n - (i+1)∧i+1≤n∧∃ys,upd H4 D (.lst (zs++[y])) D=some (.lst ys)∧P (i+1) ys∧ys.length≤i+1∧ak H1 (upd H4 D (.lst (zs++[y])))) hlt hP hl hS (λH3 q1 q2=>?_) (λy H4 q1 q2=>?_)⟩
  ·exact ⟨n - (i+1),by omega,rfl,hlt,ys,q1 _ _ hys,q2,adu hl,hS.trans q1⟩
  ·refine ⟨ys,q1 _ _ hys,by omega,n - (i+1),by omega,rfl,hlt,ys++[y],ae,q2,?_,(hS.trans q1).upd hD _⟩;rw[aa2,aag];omega
 ·have e:i=n:=by omega
  subst e;exact .inl ⟨hstop H hS,done ys H hP hl hS hys⟩
theorem Nx {K:PySem.W.Frag} {a:Addr} {xs:List V} {fr:St} {tc:TT} {te:TE} {D:Addr} {H1:Hp} {Q:Hp→Prop} (P:Nat→List V→Prop) (hS:SqL K H1 a xs) (hn:xs.length < sizeLine) (hD:H1 D=none) (h0:P 0 [])
  (step:∀i x ys H (G:Hp→Prop) (K':V→Hp→Prop),xs[i]?=some x→P i ys→ys.length≤i→ak H1 H→(∀H3,ak H H3→P (i+1) ys→G H3)→(∀y H4,ak H H4→P (i+1) (ys++[y])→K' y H4)→tc ([some x]++fr) H λb H3=>if b=true then te ([some x]++fr) H3 K' else G H3)
  (done:∀ys H,P xs.length ys→ys.length≤xs.length→ak H1 H→H D=some (.lst ys)→Q H):LC 1 fr (cv 0) tc te (Itl K a) D H1 Q:=by
 have at':∀i,i < xs.length→xs[i]?=some (xs.getD i .non):=λi hi=>by
  rw[aad,aa1 hi];rfl
 exact Es xs.length (λi=>xs.getD i .non) P hn hD (λi H hi hs=>⟨xs,_,hs.seq hS,at' i hi⟩)
  (λi H x H' hi hs hy=>⟨hy.1,aa3 ((hy.2 xs (hs.seq hS)).symm.trans (at' i hi))⟩) (λH hs=>⟨xs,hs.seq hS,aa4 _⟩) h0
  (λi ys H G K' hi hp hl hs hG hK=>step i _ ys H G K' (at' i hi) hp hl hs hG hK) done
theorem Ar {K:PySem.W.Frag} {a:Addr} {xs:List V} {fr:St} {tc:TT} {te:TE} {D:Addr} {H1:Hp} {Q:Hp→Prop} (P:Nat→List V→Prop) (hS:SqT K H1 a xs) (hn:xs.length < sizeLine) (hD:H1 D=none) (h0:P 0 [])
  (step:∀i x ys H (G:Hp→Prop) (K':V→Hp→Prop),xs[i]?=some x→P i ys→ys.length≤i→ak H1 H→(∀H3,ak H H3→P (i+1) ys→G H3)→(∀y H4,ak H H4→P (i+1) (ys++[y])→K' y H4)→tc ([some x]++fr) H λb H3=>if b=true then te ([some x]++fr) H3 K' else G H3)
  (done:∀ys H,P xs.length ys→ys.length≤xs.length→ak H1 H→H D=some (.lst ys)→Q H):LC 1 fr (cv 0) tc te (Itt K a) D H1 Q:=by
 have at':∀i,i < xs.length→xs[i]?=some (xs.getD i .non):=λi hi=>by
  rw[aad,aa1 hi];rfl
 exact Es xs.length (λi=>xs.getD i .non) P hn hD (λi H hi hs=>⟨xs,_,hs.tup hS,at' i hi⟩)
  (λi H x H' hi hs hy=>⟨hy.1,aa3 ((hy.2 xs (hs.tup hS)).symm.trans (at' i hi))⟩) (λH hs=>⟨xs,hs.tup hS,aa4 _⟩) h0
  (λi ys H G K' hi hp hl hs hG hK=>step i _ ys H G K' (at' i hi) hp hl hs hG hK) done
theorem Cr {lo:Int} {n:Nat} {fr:St} {tc:TT} {te:TE} {D:Addr} {H1:Hp} {Q:Hp→Prop} (P:Nat→List V→Prop) (hn:n < sizeLine) (hD:H1 D=none) (h0:P 0 [])
  (step:∀(i:Nat) ys H (G:Hp→Prop) (K':V→Hp→Prop),i < n→P i ys→ys.length≤i→ak H1 H→(∀H3,ak H H3→P (i+1) ys→G H3)→(∀y H4,ak H H4→P (i+1) (ys++[y])→K' y H4)→tc ([some (.int (lo+i))]++fr) H λb H3=>if b=true then te ([some (.int (lo+i))]++fr) H3 K' else G H3)
  (done:∀ys H,P n ys→ys.length≤n→ak H1 H→H D=some (.lst ys)→Q H):LC 1 fr (cv 0) tc te (Itr lo n) D H1 Q:=
 Es n (λi=>.int (lo+i)) P hn hD (λi H hi _=>hi) (λi H x H' hi hs hy=>hy) (λH hs=>aa4 _) h0 step done
section
variable {X:Cx} {x:Str} {pos:Pos}
theorem O6 {a:Addr} (hm:X.mg x=some (.ref a)) (hg:Gl X x:=by rfl) (hd:(x==("__debug__":Str))=false:=by decide+kernel):PE X (.Name x pos) (tC (.ref a)):=O3 hg hm rfl hd
theorem pe_gty {T:String} (hm:X.mg x=none) (hv:bootBuiltins x=some (.type T)) (hg:Gl X x:=by rfl) (hn:x≠"__name__":=by decide+kernel) (hd:(x==("__debug__":Str))=false:=by decide+kernel):PE X (.Name x pos) (tC (.ty T)):=Pa hg hm hv rfl hn hd
end
theorem cw:bootBuiltins "len"=some (.builtin "len"):=by decide+kernel
theorem b_all:bootBuiltins "all"=some (.builtin "all"):=by decide+kernel
theorem ao:bootBuiltins "isinstance"=some (.builtin "isinstance"):=by decide+kernel
theorem qx:bootBuiltins "bool"=some (.type "bool"):=by decide+kernel
theorem pb:bootBuiltins "int"=some (.type "int"):=by decide+kernel
theorem qz:bootBuiltins "str"=some (.type "str"):=by decide+kernel
theorem pw:bootBuiltins "list"=some (.type "list"):=by decide+kernel
theorem bw:bootBuiltins "tuple"=some (.type "tuple"):=by decide+kernel
theorem b_dict:bootBuiltins "dict"=some (.type "dict"):=by decide+kernel
theorem Mh:bootBuiltins "sorted"=some (.builtin "sorted"):=by decide+kernel
theorem str_eq {a b:Str}:a=b↔a.cps.toList=b.cps.toList:=by
 constructor
 ·intro e;rw[e]
 ·intro e;cases a;cases b
  exact congrArg Str.mk (Array.toList_inj.mp e)
theorem cxOf_K {CX:CXT} {P:Program} {w:World} {K:PySem.W.Frag} {mg:Str→Option Value} {base:Heap} {N:List Str} {qual:Str} {scope:Scope} {f:Addr} {cd:Value} {A:Around} {outer:List Env} {s:Shared} {H:Hp} {E:XK}:(me CX P w K mg base N qual scope f cd A outer s H E).K=K:=rfl
theorem nox_K {X:Cx}:X.nox.K=X.K:=rfl
inductive Ay:List Expr→List V→Prop where
 | nil:Ay [] []
 | str {x:Str} {j:Nat} {pos:Pos} {es:List Expr} {vs:List V} (h:Ay es vs):Ay (.Constant (.str x) j pos::es) (.str x::vs)
 | int {i:Int} {j:Nat} {pos:Pos} {es:List Expr} {vs:List V} (h:Ay es vs):Ay (.Constant (.int i) j pos::es) (.int i::vs)
def tVals (vs:List V):TA:=λ_ H Q=>Q vs H
theorem Nd {X:Cx} {es:List Expr} {vs:List V} (h:Ay es vs):PA X es (tVals vs):=by
 induction h with
 | nil=>exact K2
 | str _ ih=>exact Bc K7 ih
 | int _ ih=>exact Bc Mz ih
def ForW (g:TG) (tb:TS) (D:Ends) (J:It) (σ:St) (H1:Hp):Prop:=∃W:Nat→Nat→St→Hp→Prop,(∃m,W 0 m σ H1)∧∀i m σ H,W i m σ H→
 (J.stop i H∧D.nx σ H)∨(J.go i H∧∃N:St→Hp→Prop,(∀σ' H',N σ' H'→∃m',m' < m∧W (i+1) m' σ' H')∧∀x H',J.yld i H x H'→g x σ H' λσ2 H2=>tb { D with nx:=N,ct:=N,bk:=D.nx } σ2 H2)
theorem Qn (wi:TI) (g:TG) (tb:TS) (D:Ends) (σ:St) (H:Hp):tFor wi g tb D σ H=wi σ H λJ H1=>ForW g tb D J σ H1:=rfl
section
variable {K:PySem.W.Frag} {a:Addr} {xs:List V} {g:TG} {tb:TS} {D:Ends} {σ:St} {H:Hp}
theorem dz (Pv:Nat→St→Hp→Prop) (h0:Pv 0 σ H) (hl:∀i σ H,i≤xs.length→Pv i σ H→SqL K H a xs)
  (hs:∀i x σ H,xs[i]?=some x→Pv i σ H→g x σ H λσ2 H2=>tb { D with nx:=Pv (i+1),ct:=Pv (i+1),bk:=D.nx } σ2 H2) (hd:∀σ H,Pv xs.length σ H→D.nx σ H):ForW g tb D (Itl K a) σ H:=Mf Pv h0 hl hs hd
theorem jf (Pv:Nat→St→Hp→Prop) (h0:Pv 0 σ H) (hl:∀i σ H,i≤xs.length→Pv i σ H→SqT K H a xs)
  (hs:∀i x σ H,xs[i]?=some x→Pv i σ H→g x σ H λσ2 H2=>tb { D with nx:=Pv (i+1),ct:=Pv (i+1),bk:=D.nx } σ2 H2) (hd:∀σ H,Pv xs.length σ H→D.nx σ H):ForW g tb D (Itt K a) σ H:=Qu Pv h0 hl hs hd
theorem fq {lo:Int} {n:Nat} (Pv:Nat→St→Hp→Prop) (h0:Pv 0 σ H)
  (hs:∀i σ H,i < n→Pv i σ H→g (.int (lo+i)) σ H λσ2 H2=>tb { D with nx:=Pv (i+1),ct:=Pv (i+1),bk:=D.nx } σ2 H2) (hd:∀σ H,Pv n σ H→D.nx σ H):ForW g tb D (Itr lo n) σ H:=Ia Pv h0 hs hd
end
end L2
namespace L2
open PySem PySem.Spec PyProof.Rows Builtin Builtin.Str
def ModD (w:World) (K:PySem.W.Frag) (a:Addr) (kvs:List (Key×V)):Prop:=
 (a==sysModules)=false∧∀(P:Program) (h:Heap),K.In h→∃vs,KV kvs vs∧h.DictOf (bh P w) a vs
abbrev Fl:=Int×Str×Tok×Int×Tok
noncomputable def siE (e:Fl):DictEntry:=⟨e.1,.str e.2.1 e.2.2.1,.int e.2.2.2.1 e.2.2.2.2⟩
theorem Bz (P:Program) (w:World):∀es:List Fl,Pairs (bh P w) (es.map siE) (es.map λe=>((Sum.inr e.2.1:Key),Value.int e.2.2.2.1 e.2.2.2.2))
 | []=>.nil
 | e::r=>.cons (ko P w e.2.1 e.2.2.1) rfl (Bz P w r)
theorem si_kv:∀es:List Fl,KV (es.map λe=>((Sum.inr e.2.1:Key),V.int e.2.2.2.1)) (es.map λe=>((Sum.inr e.2.1:Key),Value.int e.2.2.2.1 e.2.2.2.2))
 | []=>.nil
 | e::r=>.cons ⟨rfl,⟨_,rfl⟩⟩ (si_kv r)
theorem Oz {w:World} {K:PySem.W.Frag} {a:Addr} {ep:Nat} (es:List Fl) (hl:K.lookup a=some ⟨.type "dict",none,.dict (es.map siE).toArray ep,#[]⟩) (ha:(a==sysModules)=false)
  (hh:∀e∈es,e.1=hashStr w e.2.1) (nd:(es.map λe=>(Sum.inr e.2.1:Key)).Nodup):ModD w K a (es.map λe=>(Sum.inr e.2.1,V.int e.2.2.2.1)):=by
 refine ⟨ha,λP h hk=>⟨_,si_kv es,_,_,ep,hk a _ hl,⟨rfl,rfl,rfl⟩,rfl,λe he=>?_,by simpa using Bz P w es,?_⟩⟩
 ·have he':e∈es.map siE:=List.mem_toArray.mp he;obtain ⟨r,hr,rfl⟩:=List.mem_map.mp he';exact ⟨Sum.inr r.2.1,ko P w r.2.1 r.2.2.1,hh r hr⟩
 ·rw[ack];exact nd
section
variable {X:Cx} {a:Addr} {kvs:List (Key×V)}
def K0 (kvs:List (Key×V)) (ty tx:TE):TE:=λσ H Q=>ty σ H λy H2=>tx σ H2 λz H3=>∃k,y=kV k∧Q ((cj kvs k).getD z) H3
theorem Nb {o e f:Expr} {apos cpos:Pos} {ty tx:TE} (ho:PE X o (tC (.ref a))) (md:ModD X.w X.K a kvs) (he:PE X e ty) (hf:PE X f tx) (m:M2 X o "get" apos e f cpos):PE X (.Call (.Attribute o "get" apos) [e,f] [] cpos) (K0 kvs ty tx):=by
 intro pins s σ H Q I h;refine wpAny_Call_method m.base m.few m.line PySem.F.plainAttrs_dict PySem.F.slot_dict_get PySem.F.type_dict_get (thn (ho pins s σ H (λx H1=>x=.ref a∧H1=H) I ⟨rfl,rfl⟩) λu s1 ⟨x,H1,I1,rx,ex,eH⟩=>?_);subst ex eH;obtain rfl:u=Value.ref a:=rx;obtain ⟨vs,rel,dd⟩:=md.2 X.prog _ I1.kIn;refine ⟨dd.typeIs,λb q=>?_,?_⟩
 ·cases q
  obtain ⟨ob,_,_,h1,h2,_⟩:=dd;exact ⟨ob,h1,h2.2.1⟩
 rw[m.trees];refine Calls.callWith_builtin rfl (Calls.evalArgs_plain (Calls.spliced_cons (thn (he pins s1 σ H1 _ I1 h) λiv s2 ⟨y,H2,I2,ry,q2⟩=>
  Calls.spliced_cons (thn (hf pins s2 σ H2 _ I2 q2) λfv s3 ⟨z,H3,I3,rz,k,ek,q3⟩=>Calls.spliced_nil ?_))))
 subst ek;obtain ⟨vs',rel',dd'⟩:=md.2 X.prog _ I3.kIn;refine call_meetsIn PySem.F.slot_dict_get dd'.typeIs PySem.F.entry_dict_get (PySem.F.args_dict_get_3 _ _ _) (meets_dict_get_default (bh X.prog X.w) a (rb ry) md.1 fv) ⟨_,dd'.mapOf,⟨_,H3,I3.tok _,?_,q3⟩⟩;exact (rel'.val k).getD rz
noncomputable def Ge:V→Str
 | .str z=>z
 | .int i=>(toString i:String)
 | _=>Str.empty
def wordV:V→Prop
 | .str _=>True
 | .int i=>i.natAbs.log2 < 1920
 | _=>False
theorem zk:gd X (.type "str") (λxs H Q=>∃x,xs=[x]∧wordV x∧Q (.str (Ge x)) H):=by
 intro pins s σ H xs us Q I r h;obtain ⟨x,rfl,hw,q⟩:=h;obtain ⟨u,rfl,rx⟩:=vals1 r;cases x with
 | str z=>obtain ⟨t,rfl⟩:=rx;exact PySem.P.str_of_str ⟨.str z,H,I,⟨t,rfl⟩,q⟩
 | int i=>obtain ⟨t,rfl⟩:=rx;exact PySem.P.str_of_int hw ⟨.str _,H,I.tok _,⟨_,rfl⟩,q⟩
 | _=>exact hw.elim
end
end L2
namespace L2
open PySem PySem.Spec PyProof.Rows
section
variable {X:Cx} (K:PySem.W.Frag) (hK:X.K=K)
include hK
theorem o8:IxR X (rIxL K):=by subst hK;exact Fn
theorem Qx:IxR X (rIxT K):=by subst hK;exact K3
theorem nj:OpR X (compareOp .In) (rIn K false):=by subst hK;exact yl
end
def tMid (t u:TS):TS:=λD σ H=>∃M:St→Hp→Prop,t { D with nx:=M } σ H∧∀σ' H',M σ' H'→u D σ' H'
theorem ei {t u:TS} {D:Ends} {σ:St} {H:Hp} (M:St→Hp→Prop) (h1:t { D with nx:=M } σ H) (h2:∀σ' H',M σ' H'→u D σ' H'):tMid t u D σ H:=⟨M,h1,h2⟩
section
variable {X:Cx} {st:Stmt} {rest:List Stmt} {t u:TS}
theorem Pe (h1:PS X st t) (h2:PSs X rest u):PSs X (st::rest) (tMid t u):=by
 intro pins s σ H D I h;obtain ⟨M,h,hM⟩:=h;refine wpAny_execs_cons (thn (h1 pins s σ H { D with nx:=M } I h) λf s1 q=>?_);cases f with
 | next=>
  obtain ⟨σ',H',I',q⟩:=q;exact h2 pins s1 σ' H' D I' (hM σ' H' q)
 | ret v=>exact q
 | brk=>exact q
 | cont=>exact q
end
theorem Q6 {K:PySem.W.Frag} {z:Str} {H:Hp}:tyV K "str" (.str z) H=True:=eq_true rfl
theorem az {K:PySem.W.Frag} {a:Addr} {xs:List V} {H:Hp} (h:H a=some (.lst xs)):tyV K "list" (.ref a) H:=.inl ⟨rfl,xs,SqL.of h⟩
theorem au {K:PySem.W.Frag} {H:Hp} {t:Addr} {xs:List V} {i:Int} {v:V} {Q:VK} (h:H t=some (.tup xs)) (hv:atI xs i=some v) (q:Q v H):rIxT K (.ref t) (.int i) H Q:=⟨t,xs,i,v,rfl,rfl,SqT.of h,hv,q⟩
theorem aw {K:PySem.W.Frag} {H:Hp} {t:Addr} {xs:List V} {i:Int} {v:V} {Q:VK} (h:H t=some (.lst xs)) (hv:atI xs i=some v) (q:Q v H):rIxL K (.ref t) (.int i) H Q:=⟨t,xs,i,v,rfl,rfl,SqL.of h,hv,q⟩
theorem P8 {H:Hp} {a b:Addr} {xs ys:List V} {Q:VK} (h1:H a=some (.lst xs)) (h2:H b=some (.lst ys)) (hz:xs.length+ys.length≤sizeLine) (q:∀p,H p=none→Q (.ref p) (upd H p (.lst (xs++ys)))):rCat (.ref a) (.ref b) H Q:=⟨a,b,xs,ys,rfl,rfl,h1,h2,hz,q⟩
theorem Q0 {H:Hp} {a:Addr} {x:V} {k:Int} {Q:VK} (h1:H a=some (.lst [x])) (h0:0≤k) (hk:k≤1000000) (q:∀p,H p=none→Q (.ref p) (upd H p (.lst (aaj k.toNat x)))):rRep (.ref a) (.int k) H Q:=by
 have sz:=sizeLine_eq;refine ⟨a,k,[x],rfl,rfl,h1,by omega,by omega,by show 1*k.toNat≤sizeLine;omega,λp hp=>?_⟩;have e:(aaj k.toNat [x]).flatten=aaj k.toNat x:=by
  induction k.toNat with
  | zero=>rfl
  | succ n ih=>rw[ab5,abx,ih];rfl
 rw[e];exact q p hp
theorem bg {K:PySem.W.Frag} {H:Hp} {l:Addr} {xs:List V} {y:V} {Q:VK} (h:H l=some (.lst xs)) (hz:xs.length < sizeLine) (q:Q .non (upd H l (.lst (xs++[y])))):tyV K "list" (.ref l) H∧oq (.ref l) [y] H Q:=
 ⟨az h,l,xs,y,rfl,rfl,h,hz,q⟩
end L2
namespace HT
open PySem PySem.Spec PyProof.Rows L2
section
variable {prog:Program} {w:World} {A:Around} {E:Value→Shared→Prop} {s:Shared}
theorem L9 {t b:Addr} {vs ws:List Value} {Q:Value→Shared→Prop} (ht:IsTup s.heap t vs.toArray) (hb:IsTup s.heap b ws.toArray) (hv:vs=[]) (h1:Q (.ref b) s):wpAny (model prog w) A (binaryOp .Add (.ref t) (.ref b)) Q E s:=by
 obtain ⟨⟨cls,dd,data,sl⟩,ho,hc,n,hd⟩:=id ht;obtain ⟨⟨cls2,dd2,data2,sl2⟩,ho2,hc2,n2,hd2⟩:=id hb;simp only at hc hd hc2 hd2;subst hc hd hc2 hd2;exact concat_meets ⟨_,ho,rfl⟩ ⟨_,ho2,rfl⟩ noFill_tuple_add seq_tuple_add PySem.F.slot_tuple_add PySem.F.entry_tuple_add (PySem.F.args_tuple_add_2 _ _)
  (tuple_addW0 t b vs.toArray ws.toArray n n2 dd dd2 sl sl2 (by simp[hv])) ⟨ho,ho2,h1⟩
theorem lr {t sl:Addr} {items:Array Value} {vl vu:Value} {lo hi:Option Int} {Q:Value→Shared→Prop} (ht:IsTup s.heap t items) (hs:s.heap.IsSliceOf sl vl vu .none) (pl:IsPart vl lo) (pu:IsPart vu hi)
  (hw:sIx items.size 0 lo=0∧sIx items.size items.size hi=items.size) (h:Q (.ref t) s) (hsz:items.size≤sizeLine):wpAny (model prog w) A (getItem (.ref t) (.ref sl)) Q E s:=by
 obtain ⟨os,hos,hcs,hds⟩:=id hs;have hTs:s.TypeIs (.ref sl) "slice":=⟨os,hos,hcs⟩;unfold getItem;try with_reducible refine wpAny_holding ?_
 first | refine wpAny_bind (wpAny_pure ?_) | skip
 refine wpAny_bind (wpAny_sequenceKey ht.typeIs (by decide) ?_);refine wpAny_bind (wpAny_callSpecial?_slot (name:=Str.ofString "__getitem__") ht.typeIs PyProof.Rows.slot_tuple_getitem
  (wpAny_call_entry PyProof.Rows.slot_tuple_getitem ht.typeIs entry_tuple_getitem ?_ (args_tuple_getitem _ _)))
 show wpAny _ _ (Builtin.Tuple.tupleItemsOf (.ref t) >>=_) _ _ s
 refine wpAny_bind (tupleItemsOf_ ht ?_);refine wpAny_bind (wpAny_typeOf hTs ?_);rw[if_pos (by decide)];refine wpAny_bind (jc hs pl pu ?_);have hyes:((((sIx items.size 0 lo:Nat):Int)==0&&(1:Int)==1&&(sIx items.size items.size hi - sIx items.size 0 lo)==items.size)=true):=by
  rw[hw.1,hw.2];simp
 show wpAny _ _ (if (((sIx items.size 0 lo:Nat):Int)==0&&(1:Int)==1&&(sIx items.size items.size hi - sIx items.size 0 lo)==items.size)=true then _ else _) _ _ s
 rw[if_pos hyes];refine wpAny_bind ?_;show wpAny _ _ (typeOf (.ref t) >>=λv=>pure (v==.type "tuple")) _ _ s
 refine wpAny_bind (wpAny_typeOf ht.typeIs (wpAny_pure ?_));rw[if_pos (by decide)];refine wpAny_bind (wpAny_rule ?_);first
  | exact wpAny_bind (wpAny_pure (wpAny_pure ⟨_,rfl,wpAny_pure h⟩))
  | exact wpAny_pure ⟨_,rfl,wpAny_pure h⟩
  | exact wpAny_bind (wpAny_pure ⟨_,rfl,wpAny_pure h⟩)
end
end HT
namespace L2
open PySem PySem.Spec PyProof.Rows
section
variable {X:Cx}
def M3:R2:=λx y H Q=>∃a b xs ys,x=.ref a∧y=.ref b∧H a=some (.tup xs)∧H b=some (.tup ys)∧xs.length+ys.length≤sizeLine∧∀p H',ak H H'→H' p=some (.tup (xs++ys))→Q (.ref p) H'
theorem Gu:OpR X (binaryOp .Add) M3:=by
 intro pins s σ H x y v u Q I rx ry h;obtain ⟨a,b,xs,ys,rfl,rfl,ha,hb,hz,q⟩:=h;by_cases hx:xs=[]
 ·subst hx;cases rx
  cases ry
  obtain ⟨its,r1,p1,_⟩:=I.tuple (SqT.of ha);obtain ⟨its2,r2,p2,_⟩:=I.tuple (SqT.of hb);exact HT.L9 p1 p2 (r1.t8.mpr rfl) ⟨.ref b,H,I,rfl,q b H (ak.refl H) hb⟩
 ·refine Px pins s σ H _ _ v u Q I rx ry ⟨a,b,xs,ys,rfl,rfl,SqT.of ha,SqT.of hb,hx,hz,λe=>?_,λ_ p hp=>q p _ (λc o h=>by rw[af (ah h hp)];exact h) ae⟩;subst e;exact q a H (ak.refl H) (by rw[aay];exact ha)
theorem Bv {H:Hp} {a b:Addr} {xs ys:List V} {Q:VK} (ha:H a=some (.tup xs)) (hb:H b=some (.tup ys)) (hz:xs.length+ys.length≤sizeLine) (q:∀p H',ak H H'→H' p=some (.tup (xs++ys))→Q (.ref p) H'):M3 (.ref a) (.ref b) H Q:=⟨a,b,xs,ys,rfl,rfl,ha,hb,hz,q⟩
def rSlU:V→Option Int→Option Int→Hp→VK→Prop:=λx lo hi H Q=>∃a xs,x=.ref a∧H a=some (.tup xs)∧∀p H',ak H H'→H' p=some (.tup (ju xs lo hi))→Q (.ref p) H'
theorem L3 {xs:List V} {lo hi:Option Int} (h:HT.sIx xs.length 0 lo=0∧HT.sIx xs.length xs.length hi=xs.length):ju xs lo hi=xs:=by
 unfold ju;rw[h.1,h.2,List.drop_zero,acm,abm]
theorem Pu:SlR X rSlU:=by
 intro pins s σ H x v vl vu lo hi sl Q I rx hs pl pu h;obtain ⟨a,xs,rfl,ha,q⟩:=h;by_cases hw:HT.sIx xs.length 0 lo=0∧HT.sIx xs.length xs.length hi=xs.length
 ·cases rx
  obtain ⟨its,r,ht,hz⟩:=I.tuple (SqT.of ha);have hlen:its.toArray.size=xs.length:=by rw[aa6];exact r.length.symm
  exact ⟨"tuple",_,PyProof.Rows.slot_tuple_getitem.lookup,ht.typeIs,HT.lr ht hs pl pu (by rw[hlen];exact hw) ⟨.ref a,H,I,rfl,q a H (ak.refl H) (by rw[L3 hw];exact ha)⟩ (by rw[hlen];exact hz)⟩
 ·exact sl_tup pins s σ H _ v vl vu lo hi sl Q I rx hs pl pu ⟨a,xs,rfl,SqT.of ha,hw,λp hp=>q p _ (λc o h=>by rw[af (ah h hp)];exact h) ae⟩
theorem Oo {H:Hp} {a:Addr} {xs:List V} {lo hi:Option Int} {Q:VK} (ha:H a=some (.tup xs)) (q:∀p H',ak H H'→H' p=some (.tup (ju xs lo hi))→Q (.ref p) H'):rSlU (.ref a) lo hi H Q:=⟨a,xs,rfl,ha,q⟩
theorem Ov (k:Key):ik (kV k)=true:=by cases k <;> rfl
end
section
variable {X:Cx} {k:Nat} {ps:List Str} {sp:Sp} {x:Str} {p pos:Pos} {e:Expr} {es:List Expr} {t:TA}
def FnV (P:Program) (w:World) (K:PySem.W.Frag) (mg:Str→Option Value) (base:Heap) (k:Nat) (ps:List Str) (sp:Sp) (v:V):Prop:=
 ∃(f:Addr) (fd:FuncData),v=.ref f∧lu P w K mg base CX0 k f fd ps sp∧Binds K fd ps []∧PySem.W.keepIn K (.ref f)=true
def tCallV (P:Program) (w:World) (K:PySem.W.Frag) (mg:Str→Option Value) (base:Heap) (k:Nat) (ps:List Str) (i:Nat) (t:TA):TE:=λσ H Q=>∃v sp,σ[i]?=some (some v)∧FnV P w K mg base k ps sp v∧t σ H λvs H1=>sp vs H1 Q E0
end
noncomputable def Itv (K:PySem.W.Frag) (a:Addr) (n:Nat):It:=
 ⟨λi H=>i < n∧∃xs,SqL K H a xs∧xs.length=n,λi H x H'=>H'=H∧∀xs,SqL K H a xs→xs[n - 1 - i]?=some x,λi H=>i=n⟩
theorem Jk {P:Program} {w:World} {K:PySem.W.Frag} {tg:Expr} (a it:Addr) (n:Nat):Turn P w K tg (Itv K a n) [it] it (λi h=>i≤n∧h.IsRevIter it a ((n:Int) - 1 - (i:Int))) where
 mem:=by simp
 obj:=λi h st b hb=>by
  have e:b=it:=by simpa using hb
  subst e;obtain ⟨_,o,e,c,d⟩:=st;exact ⟨o,e,λv z=>by rw[d] at z;cases z⟩
 keep:=λi h h' st k=>⟨st.1,st.2.at λo e=>k it (by simp) o e⟩
 item:=by
  intro X hP hw hK hc i pins s σ H E I hf st hg;subst hP hw hK;obtain ⟨hi,xs,hq,hn⟩:=hg;have hx:xs[n - 1 - i]?=some (xs[n - 1 - i]'(by omega)):=aa1 (by omega);obtain ⟨its,rv,p,hz⟩:=I.list hq;obtain ⟨u,hu,ru⟩:=rv.get hx;obtain ⟨f0,f1,f2,f3,f4,f5⟩:=hf it (by simp);have e:(n:Int) - 1 - (i:Int)=((n - 1 - i:Nat):Int):=by omega
  have st2:=st.2;rw[e] at st2;refine wpAny_pyNext_rev_item st2 p.isList (x:=u) (by simpa using hu) λh' st' sb=>?_;have e2:((n - 1 - i:Nat):Int) - 1=(n:Int) - 1 - ((i+1:Nat):Int):=by omega
  rw[e2] at st';have I1:Inv X pins σ H { s with heap:=h' }:=I.turned (t':=s.toks) (λb o hb e=>(sb.2 b hb).trans e) f0 f1 f3 f4 f5;obtain ⟨o,e,c,d⟩:=id st';exact ⟨u,rfl,yp (s:={ s with heap:=h' }) e c d (by decide) ⟨_,H,I1,ru,⟨rfl,λys hy=>by rw[I.Cj hy hq];exact hx⟩,⟨hi,st'⟩,λb hb=>(hf b hb).1⟩⟩
 done:=by
  intro X hP hw hK hc i pins s σ H E I hf st hg;subst hP hw hK;obtain ⟨f0,f1,f2,f3,f4,f5⟩:=hf it (by simp);have hg:i=n:=hg;subst hg;have e:(i:Int) - 1 - (i:Int)=-1:=by omega
  have st2:=st.2;rw[e] at st2;exact wpAny_pyNext_rev_end (I.ok.hd hc) st2 λh' eb=>⟨rfl,I.turned (t':=s.toks) (λb o hb e=>eb b o hb e) f0 f1 f3 f4 f5⟩
 self:=λ_ _ _ _ _ st h=>wpAny_pyIter_revIter st.2 h
def iRev (K:PySem.W.Frag) (ta:TA):TI:=λσ H R=>ta σ H λvs H1=>∃a xs,vs=[.ref a]∧SqL K H1 a xs∧R (Itv K a xs.length) H1
theorem xb:bootBuiltins "reversed"=some (.type "reversed"):=by decide+kernel
section
variable {X:Cx} {tg:Expr}
theorem pi_rev {a:Expr} {ta:TA} {p pos:Pos} (hg:Gl X "reversed") (hm:X.mg "reversed"=none) (ha:PA X [a] ta) (hs:starEach [a] X.env=[(false,eval a X.env)]:=by rfl):PI X tg (.Call (.Name "reversed" p) [a] [] pos) (iRev X.K ta):=by
 intro pins s σ H R I h;refine Call_ (ir I hg hm xb (PyProof.Rows.callWith_type1 (thn (ha pos pins s σ H _ I h) λus s1 ⟨vs,H1,I1,r1,q1⟩=>?_) hs rfl));obtain ⟨l,xs,e,hq,q⟩:=q1;subst e;cases r1 with
 | cons r rr=>
  cases rr
  cases (show _=Value.ref l from r)
  obtain ⟨its,rv,pl,hz⟩:=I1.list hq;refine call_reversed_list pl.isList ?_;have hlen:((its.toArray.size:Nat):Int) - 1=(xs.length:Int) - 1 - ((0:Nat):Int):=by
   rw[aa6,←rv.length];omega
  have st:Heap.IsRevIter (s1.heap.push (revObj l ((its.toArray.size:Int) - 1))) s1.heap.objs.size l ((xs.length:Int) - 1 - ((0:Nat):Int)):=by
   rw[←hlen];exact ⟨_,Heap.get?_push_size _ rfl,rfl,rfl⟩
  refine wpAny_pyIter_revIter st ?_;refine ⟨s1.heap.objs.size,[s1.heap.objs.size],_,_,H1,rfl,I1.kept (t':=s1.toks) λb o e=>Heap.get?_push_of_some _ e,Jk l _ xs.length,⟨aa7 _,st⟩,λb hb=>?_,q⟩;have e:b=s1.heap.objs.size:=by simpa using hb
  subst e;exact I1.Ey (aa4 _) (I1.hok.fresh (aa4 _))
end
theorem Jm {K:PySem.W.Frag} {a:Addr} {xs:List V} {g:TG} {tb:TS} {D:Ends} {σ:St} {H:Hp} (Pv:Nat→St→Hp→Prop) (h0:Pv 0 σ H) (hl:∀i σ H,i≤xs.length→Pv i σ H→SqL K H a xs)
  (hs:∀i x σ H,i < xs.length→xs[xs.length - 1 - i]?=some x→Pv i σ H→g x σ H λσ2 H2=>tb { D with nx:=Pv (i+1),ct:=Pv (i+1),bk:=D.nx } σ2 H2) (hd:∀σ H,Pv xs.length σ H→D.nx σ H):ForW g tb D (Itv K a xs.length) σ H:=by
 refine ⟨λi m σ H=>m=xs.length - i∧i≤xs.length∧Pv i σ H,⟨xs.length,by simp,aa7 _,h0⟩,?_⟩;rintro i m σ H ⟨rfl,hi,p⟩;have q:=hl i σ H hi p;by_cases hlt:i < xs.length
 ·refine .inr ⟨⟨hlt,xs,q,rfl⟩,Pv (i+1),λσ' H' p'=>⟨xs.length - (i+1),by omega,rfl,hlt,p'⟩,λx H' y=>?_⟩;obtain ⟨e,y⟩:=y;subst e;exact hs i x σ _ hlt (y xs q) p
 ·have e:i=xs.length:=by omega
  subst e;exact .inl ⟨rfl,hd σ H p⟩
section
variable {CX:CXT} {P:Program} {w:World} {K:PySem.W.Frag} {mg:Str→Option Value} {base:Heap} {N:List Str} {qual:Str} {scope:Scope} {f:Addr} {cd:Value} {A:Around} {outer:List Env} {s:Shared} {H:Hp} {E:XK}
theorem cxOf_P:(me CX P w K mg base N qual scope f cd A outer s H E).prog=P:=rfl
theorem cxOf_w:(me CX P w K mg base N qual scope f cd A outer s H E).w=w:=rfl
theorem Pr:(me CX P w K mg base N qual scope f cd A outer s H E).mg=mg:=rfl
theorem cxOf_b:(me CX P w K mg base N qual scope f cd A outer s H E).base=base:=rfl
end
theorem qg {K:PySem.W.Frag} {H:Hp} {l:Addr} {xs:List V} {y:V} {Q:VK} (h:H l=some (.lst (xs++[y]))) (q:Q y (upd H l (.lst xs))):tyV K "list" (.ref l) H∧rPop (.ref l) [] H Q:=
 ⟨az h,l,xs++[y],y,rfl,rfl,h,by rw[aa2,aag,acz,aab (aa4 _),ad0];rfl,by rw[aed];exact q⟩
end L2
namespace L2.Srt
open PySem PySem.W PyProof.Rows
section
variable {cmp:Nat→Nat→(Bool→Shared→Prop)→Shared→Prop} {N:Nat} {r:Nat→Int} {s:Shared}
def Cmp (cmp:Nat→Nat→(Bool→Shared→Prop)→Shared→Prop) (N:Nat) (r:Nat→Int) (s:Shared):Prop:=∀i j C,i < N→j < N→C (decide (r i < r j)) s→cmp i j C s
def cb (N:Nat) (p:Array Nat):Prop:=p.toList.Perm (aav N)
theorem cb.size {p:Array Nat} (h:cb N p):p.size=N:=by
 have:=h.length_eq;rw[abt,ac5] at this;exact this
theorem cb.lt {p:Array Nat} (h:cb N p) {k:Nat} (hk:k < N):p.getD k 0 < N:=by
 have hs:=h.size;have e:p.getD k 0=p[k]'(by omega):=by simp[Array.getD,hs,hk]
 rw[e];have:p[k]'(by omega)∈p.toList:=by simp
 exact List.mem_range.mp (h.mem_iff.mp this)
theorem cb.of {p q:Array Nat} (h:cb N p) (e:q.Perm p):cb N q:=(Array.perm_iff_toList_perm.mp e).trans h
noncomputable def R (r:Nat→Int) (p:Array Nat) (i:Nat):Int:=r (p.getD i 0)
theorem o9 {p q:Array Nat} {i j:Nat} (h:p[i]?=q[j]?):R r p i=R r q j:=by
 unfold R;rw[aco,aco,h]
def Inc (r:Nat→Int) (p:Array Nat) (k:Nat):Prop:=∀i j,i≤j→j < k→R r p i≤R r p j
def Dec (r:Nat→Int) (p:Array Nat) (k:Nat):Prop:=∀i j,i≤j→j < k→R r p j≤R r p i
theorem uj {p:Array Nat} {i j:Nat} (hj:j≤p.size) (k:Nat):R r (kas_rev p i j) k=if i≤k∧k < j then R r p (i+j - 1 - k) else R r p k:=by
 have e:=getElem?_mirror_all (i:=i) hj k;by_cases h1:i≤k∧k < j
 ·rw[if_pos h1] at e ⊢;exact o9 e
 ·rw[if_neg h1] at e ⊢;exact o9 e
theorem gp {p:Array Nat} {i j:Nat} (hj:j≤p.size) (heq:∀k,i≤k→k < j→R r p k=R r p (j - 1)) (k:Nat):R r (kas_rev p i j) k=R r p k:=by
 rw[uj hj];split
 ·rename_i h
  rw[heq _ (by omega) (by omega),heq k h.1 h.2]
 ·rfl
theorem kb {p:Array Nat} {i j:Nat} (h:cb N p):cb N (kas_rev p i j):=h.of (mirror_perm _ _ _ _)
theorem Bj {p:Array Nat} {src d:Nat} (hs:src < p.size) (hd:d≤src) (k:Nat):
  R r (bubble p src d) k=if k=src - d then R r p src else if src - d < k∧k≤src then R r p (k - 1) else R r p k:=by
 have e:=getElem?_bubble hs d hd k;by_cases h1:k=src - d
 ·rw[if_pos h1] at e ⊢;exact o9 e
 ·rw[if_neg h1] at e ⊢;by_cases h2:src - d < k∧k≤src
  ·rw[if_pos h2] at e ⊢;exact o9 e
  ·rw[if_neg h2] at e ⊢;exact o9 e
theorem Inc.more {p:Array Nat} {k:Nat} (h:Inc r p k) (hk:1≤k) (e:R r p (k - 1)≤R r p k):Inc r p (k+1):=by
 intro i j hij hj;by_cases h1:j < k
 ·exact h i j hij h1
 ·have:j=k:=by omega
  subst this;by_cases h2:i=j
  ·subst h2;exact abp _
  ·have:=h i (j - 1) (by omega) (by omega);omega
theorem Dec.more {p:Array Nat} {k:Nat} (h:Dec r p k) (hk:1≤k) (e:R r p k≤R r p (k - 1)):Dec r p (k+1):=by
 intro i j hij hj;by_cases h1:j < k
 ·exact h i j hij h1
 ·have:j=k:=by omega
  subst this;by_cases h2:i=j
  ·subst h2;exact abp _
  ·have:=h i (j - 1) (by omega) (by omega);omega
theorem En (hc:Cmp cmp N r s) {p:Array Nat} (hp:cb N p) {Q:Nat→Shared→Prop}:∀(f n:Nat),1≤n→n+f≤N→Inc r p n→(∀m,n≤m→m≤n+f→Inc r p m→(m=n+f∨R r p m < R r p (m - 1))→Q m s)→(kas_asc p f n).kasWp cmp Q s
 | 0,n,_,_,hi,q=>q n (aa4 _) (aa4 _) hi (.inl rfl)
 | f+1,n,h1,hn,hi,q=>by
  show cmp _ _ _ s
  refine hc _ _ _ (hp.lt (by omega)) (hp.lt (by omega)) ?_;by_cases c:r (p.getD n 0) < r (p.getD (n - 1) 0)
  ·rw[decide_eq_true c];show KasT.kasWp cmp (if true=true then _ else _) Q s
   rw[if_pos rfl];exact q n (aa4 _) (by omega) hi (.inr c)
  ·rw[decide_eq_false c];show KasT.kasWp cmp (if false=true then _ else _) Q s
   rw[if_neg (by decide)];exact En hc hp f (n+1) (by omega) (by omega) (hi.more h1 (by have:R r p n=r (p.getD n 0):=rfl;have:R r p (n - 1)=r (p.getD (n - 1) 0):=rfl;omega)) λm a b c d=>q m (by omega) (by omega) c (d.elim (λd=>.inl (by omega)) .inr)
theorem t6 (hc:Cmp cmp N r s) {Q:Array Nat×Nat×Nat→Shared→Prop}:∀(f:Nat) (p:Array Nat) (n k:Nat),cb N p→1≤n→n+f≤N→Dec r p n→k+1≤n→(∀i,n - (k+1)≤i→i < n→R r p i=R r p (n - 1))→
  (∀p' n' k',cb N p'→n≤n'→n'≤N→Dec r p' n'→k'+1≤n'→(∀i,n' - (k'+1)≤i→i < n'→R r p' i=R r p' (n' - 1))→Q (p',n',k') s)→(kas_desc f p n k).kasWp cmp Q s
 | 0,p,n,k,hp,_,hn,hd,hk,he,q=>q p n k hp (aa4 _) (by omega) hd hk he
 | f+1,p,n,k,hp,h1,hn,hd,hk,he,q=>by
  show cmp _ _ _ s
  refine hc _ _ _ (hp.lt (by omega)) (hp.lt (by omega)) ?_;have hsz:=hp.size;have e1:R r p n=r (p.getD n 0):=rfl;have e2:R r p (n - 1)=r (p.getD (n - 1) 0):=rfl;by_cases c:r (p.getD n 0) < r (p.getD (n - 1) 0)
  ·rw[decide_eq_true c];show KasT.kasWp cmp (if true=true then _ else _) Q s
   rw[if_pos rfl];by_cases hk0:k > 0
   ·rw[if_pos hk0];have eq:=gp (r:=r) (p:=p) (i:=n - (k+1)) (j:=n) (by omega) he;refine t6 hc f _ (n+1) 0 (kb hp) (by omega) (by omega) ?_ (by omega) (λi a b=>by rw[show i=n+1 - 1 by omega]) λp' n' k' a b c d e g=>q p' n' k' a (by omega) c d e g;intro i j hij hj;rw[eq,eq];exact (hd.more h1 (by omega)) i j hij hj
   ·rw[if_neg hk0];exact t6 hc f p (n+1) 0 hp (by omega) (by omega) (hd.more h1 (by omega)) (by omega) (λi a b=>by rw[show i=n+1 - 1 by omega]) λp' n' k' a b c d e g=>q p' n' k' a (by omega) c d e g
  ·rw[decide_eq_false c];show KasT.kasWp cmp (if false=true then _ else _) Q s
   rw[if_neg (by decide)];show cmp _ _ _ s
   refine hc _ _ _ (hp.lt (by omega)) (hp.lt (by omega)) ?_;by_cases c2:r (p.getD (n - 1) 0) < r (p.getD n 0)
   ·rw[decide_eq_true c2];show KasT.kasWp cmp (if true=true then _ else _) Q s
    rw[if_pos rfl];exact q p n k hp (aa4 _) (by omega) hd hk he
   ·rw[decide_eq_false c2];show KasT.kasWp cmp (if false=true then _ else _) Q s
    rw[if_neg (by decide)];refine t6 hc f p (n+1) (k+1) hp (by omega) (by omega) (hd.more h1 (by omega)) (by omega) (λi a b=>?_) λp' n' k' a b c d e g=>q p' n' k' a (by omega) c d e g;by_cases hi:i < n
    ·rw[he i (by omega) hi,show n+1 - 1=n by omega];omega
    ·rw[show i=n+1 - 1 by omega]
theorem Dj (hc:Cmp cmp N r s) {p:Array Nat} (hp:cb N p) {n:Nat} (h1:1≤n) (hn:n≤N) (hd:Dec r p n) {Q:Nat×Array Nat→Shared→Prop} (q:∀m p',cb N p'→1≤m→m≤N→Inc r p' m→Q (m,p') s):(kas_tail3 n N p).kasWp cmp Q s:=by
 unfold kas_tail3;rw[KasT.kasWp_bind];have hsz:=hp.size;refine En hc (kb hp) (N - n) n h1 (by omega) (λi j hij hj=>?_) λm a b c d=>q m _ (kb hp) (by omega) (by omega) c;rw[uj (by omega),uj (by omega),if_pos ⟨aa7 _,by omega⟩,if_pos ⟨aa7 _,hj⟩];exact hd _ _ (by omega) (by omega)
theorem rn (hc:Cmp cmp N r s) {p:Array Nat} (hp:cb N p) {n:Nat} (h1:1≤n) (hn:n+1≤N) (hd:Dec r p (n+1)) {Q:Nat×Array Nat→Shared→Prop} (q:∀m p',cb N p'→1≤m→m≤N→Inc r p' m→Q (m,p') s):(kas_descPart n N p).kasWp cmp Q s:=by
 unfold kas_descPart;rw[KasT.kasWp_bind];refine t6 hc (N - (n+1)) p (n+1) 0 hp (by omega) (by omega) hd (by omega) (λi a b=>by rw[show i=n+1 - 1 by omega]) λp' n' k' hp' a b hd' hk he=>?_;have hsz:=hp'.size;by_cases hk0:k' > 0
 ·show KasT.kasWp cmp (if k' > 0 then _ else _) Q s
  rw[if_pos hk0];refine Dj hc (kb hp') (by omega) b (λi j hij hj=>?_) q;have eq:=gp (r:=r) (p:=p') (i:=n' - (k'+1)) (j:=n') (by omega) he;rw[eq,eq];exact hd' i j hij hj
 ·show KasT.kasWp cmp (if k' > 0 then _ else _) Q s
  rw[if_neg hk0];exact Dj hc hp' (by omega) b hd' q
theorem Ni (hc:Cmp cmp N r s) {p:Array Nat} (hp:cb N p) (h2:2≤N) {Q:Nat×Array Nat→Shared→Prop} (q:∀m p',cb N p'→1≤m→m≤N→Inc r p' m→Q (m,p') s):(kas_count N p).kasWp cmp Q s:=by
 unfold kas_count;rw[KasT.kasWp_bind];have hsz:=hp.size;refine En hc hp (N - 1) 1 (aa4 _) (by omega) (λi j a b=>by rw[show i=j by omega];exact abp _) λm a b hi hm=>?_;show KasT.kasWp cmp (if (m==N)=true then _ else _) Q s
 by_cases e:m=N
 ·rw[if_pos (by simp[e])];exact q m p hp a (by omega) hi
 ·rw[if_neg (by simp[e])];have lt:R r p m < R r p (m - 1):=hm.resolve_left (by omega);by_cases h1:m > 1
  ·rw[if_pos h1];show cmp _ _ _ s
   refine hc _ _ _ (hp.lt (by omega)) (hp.lt (by omega)) ?_;by_cases c:r (p.getD 0 0) < r (p.getD (m - 1) 0)
   ·rw[decide_eq_true c];show KasT.kasWp cmp (if true=true then _ else _) Q s
    rw[if_pos rfl];exact q m p hp a (by omega) hi
   ·rw[decide_eq_false c];show KasT.kasWp cmp (if false=true then _ else _) Q s
    rw[if_neg (by decide)];have e0:R r p 0=r (p.getD 0 0):=rfl;have e1:R r p (m - 1)=r (p.getD (m - 1) 0):=rfl;have all:∀k,0≤k→k < m→R r p k=R r p (m - 1):=λk _ hk=>by
     have a1:=hi 0 k (aa7 _) hk;have a2:=hi k (m - 1) (by omega) (by omega);omega
    have eq:=gp (r:=r) (p:=p) (i:=0) (j:=m) (by omega) all;refine rn hc (kb hp) a (by omega) (λi j hij hj=>?_) q;rw[eq,eq];by_cases hjm:j=m
    ·subst hjm;by_cases him:i=j
     ·subst him;exact abp _
     ·rw[all i (aa7 _) (by omega)];omega
    ·rw[all i (aa7 _) (by omega),all j (aa7 _) (by omega)];exact abp _
  ·rw[if_neg h1];have m1:m=1:=by omega
   subst m1;refine rn hc hp (aa4 _) (by omega) (λi j hij hj=>?_) q;by_cases hij':i=j
   ·subst hij';exact abp _
   ·rw[show i=1 - 1 by omega,show j=1 by omega];omega
theorem um (hc:Cmp cmp N r s) {p:Array Nat} (hp:cb N p) {k:Nat} (hk:k < N) (hi:Inc r p k) {Q:Nat→Shared→Prop}:∀(f l u:Nat),l≤u→u≤k→u - l≤f→(∀i,i < l→R r p i≤R r p k)→(∀i,u≤i→i < k→R r p k < R r p i)→
  (∀m,m≤k→(∀i,i < m→R r p i≤R r p k)→(∀i,m≤i→i < k→R r p k < R r p i)→Q m s)→(kas_place p k f l u).kasWp cmp Q s
 | 0,l,u,hlu,huk,hf,a,b,q=>q l (by omega) a λi h1 h2=>b i (by omega) h2
 | f+1,l,u,hlu,huk,hf,a,b,q=>by
  show KasT.kasWp cmp (if l≥u then _ else _) Q s
  by_cases c:l≥u
  ·rw[if_pos c];exact q l (by omega) a λi h1 h2=>b i (by omega) h2
  ·rw[if_neg c];show cmp _ _ _ s
   refine hc _ _ _ (hp.lt hk) (hp.lt (by omega)) ?_;have e0:R r p k=r (p.getD k 0):=rfl;have e1:R r p ((l+u) / 2)=r (p.getD ((l+u) / 2) 0):=rfl;by_cases d:r (p.getD k 0) < r (p.getD ((l+u) / 2) 0)
   ·rw[decide_eq_true d];show KasT.kasWp cmp (if true=true then _ else _) Q s
    rw[if_pos rfl];refine um hc hp hk hi f l ((l+u) / 2) (by omega) (by omega) (by omega) a (λi h1 h2=>?_) q;have:=hi ((l+u) / 2) i h1 h2;omega
   ·rw[decide_eq_false d];show KasT.kasWp cmp (if false=true then _ else _) Q s
    rw[if_neg (by decide)];refine um hc hp hk hi f ((l+u) / 2+1) u (by omega) huk (by omega) (λi h1=>?_) b q;have:=hi i ((l+u) / 2) (by omega) (by omega);omega
theorem Mj (hc:Cmp cmp N r s) {Q:Array Nat→Shared→Prop}:∀(f:Nat) (p:Array Nat) (k:Nat),cb N p→Inc r p k→k+f=N→(∀p',cb N p'→Inc r p' N→Q p' s)→(kas_bin f p k).kasWp cmp Q s
 | 0,p,k,hp,hi,hk,q=>q p hp (by rw[←hk];exact hi)
 | f+1,p,k,hp,hi,hk,q=>by
  unfold kas_bin;rw[KasT.kasWp_bind];refine um hc hp (by omega) hi k 0 k (aa7 _) (aa4 _) (by omega) (λi h=>absurd h (by omega)) (λi h1 h2=>absurd h2 (by omega)) λm hm a b=>?_;have hsz:=hp.size;refine Mj hc f _ (k+1) (hp.of (bubble_perm _ _ _)) (λi j hij hj=>?_) (by omega) q;rw[Bj (by omega) (by omega),Bj (by omega) (by omega),show k - (k - m)=m by omega];by_cases hi1:i=m
  ·rw[if_pos hi1];by_cases hj1:j=m
   ·rw[if_pos hj1];exact abp _
   ·rw[if_neg hj1,if_pos (by omega)];have:=b (j - 1) (by omega) (by omega);omega
  ·rw[if_neg hi1];by_cases hi2:m < i∧i≤k
   ·rw[if_pos hi2,if_neg (by omega),if_pos (by omega)];exact hi _ _ (by omega) (by omega)
   ·rw[if_neg hi2];have him:i < m:=by omega
    by_cases hj1:j=m
    ·rw[if_pos hj1];exact a i him
    ·rw[if_neg hj1];by_cases hj2:m < j∧j≤k
     ·rw[if_pos hj2];exact hi _ _ (by omega) (by omega)
     ·rw[if_neg hj2];exact hi _ _ hij (by omega)
theorem Pd (hc:Cmp cmp N r s) (h2:2≤N) {Q:Array Nat→Shared→Prop} (q:∀p,cb N p→Inc r p N→Q p s):(kas_sort N).kasWp cmp Q s:=by
 unfold kas_sort;rw[KasT.kasWp_bind];refine Ni hc (by unfold cb;exact ad3 _) h2 λm p hp h1 hm hi=>?_;show KasT.kasWp cmp (if m < N then _ else _) Q s
 by_cases c:m < N
 ·rw[if_pos c,show max m 1=m by omega];exact Mj hc (N - m) p m hp hi (by omega) q
 ·rw[if_neg c];exact q p hp (by rw[show N=m by omega];exact hi)
end
noncomputable def dc (h:Heap) (a:Addr) (vs:List Value):Heap:=((h.update a (Obj.mapSeq λ_=>#[])).push (seqObj "tuple" vs.toArray 0)).push (seqObj "list" #[] 0)
section
variable {prog:Program} {w:World} {A:Around} {E:Value→Shared→Prop} {s:Shared} {r:Nat→Int}
theorem Dp {a:Addr} {vs:List Value} {n:Nat} {P:PySem.Fin→Shared→Prop} (ho:s.heap.get? a=some (seqObj "list" vs.toArray n)) (h64:vs.length < 64)
  (ask:2≤vs.length→wpAny (model prog w) A (keyKind' vs.toArray) (λκ s'=>s'={ s with heap:=dc s.heap a vs }∧Cmp (kas_ask prog w A κ vs) vs.length r { s with heap:=dc s.heap a vs }) (λ_ _=>False) { s with heap:=dc s.heap a vs })
  (h:∀p,cb vs.length p→Inc r p vs.length→P (.done (.ret .none)) { s with heap:=sortedHeap s.heap a vs (adi (p.toList.map λi=>vs.getD i Value.none)) }):
  wpAny (model prog w) A (Builtin.«list.sort» ⟨[.ref a],[]⟩) P E s:=by
 rw[list_sort_plain];have ha:a < s.heap.objs.size:=Heap.lt_size ho;refine wpAny_bind (listItems_at ho rfl ?_);refine wpAny_bind (listUpdate_at ho rfl ?_ (by rw[aa6,sizeLine_eq];omega) (aa7 _));obtain ⟨e1,ho1⟩:∃e1,(s.heap.update a (Obj.mapSeq λ_=>#[])).get? a=some (seqObj "list" #[] e1):=⟨_,get?_update_seq ho (λ_=>#[])⟩;refine wpAny_bind (seqEpoch_at ho1 rfl ?_);refine wpAny_bind (wpAny_newTuple ?_ (by show vs.length≤_;rw[sizeLine_eq];omega));refine wpAny_bind (wpAny_newList ?_ (aa7 _));refine wpAny_holding ?_;have ho6:(dc s.heap a vs).get? a=some (seqObj "list" #[] e1):=by
  unfold dc;rw[Heap.get?_push_ne _ _ _ (by rw[size_push',Heap.size_update];exact aam (ach ha)),Heap.get?_push_ne _ _ _ (by rw[Heap.size_update];exact aam ha)];exact ho1
 show wpAny (model prog w) A _ P E { s with heap:=dc s.heap a vs }
 dsimp only;have hsz:vs.toArray.size=vs.length:=by simp
 have fin:∀(p:Array Nat) (st':SortSt),arrOf st'=p.map (kas_item (vs.toArray.zip vs.toArray))→cb vs.length p→Inc r p vs.length→P (.done (.ret .none)) { s with heap:=sortedHeap s.heap a vs ((arrOf st').map (·.2)) }:=λp st' e hp hi=>by
  rw[kat_snds rfl e];exact h p hp hi
 have big:∀(p:Array Nat) (st':SortSt),arrOf st'=p.map (kas_item (vs.toArray.zip vs.toArray))→cb vs.length p→((arrOf st').map (·.2)).size≤sizeLine:=λp st' e hp=>by
  rw[Array.size_map,e,Array.size_map,hp.size,sizeLine_eq];omega
 by_cases h2:vs.toArray.size < 2
 ·rw[if_pos h2,if_pos h2];refine wpAny_bind (wpAny_pure ?_);rw[StateT.run_pure];refine wpAny_bind (wpAny_pure ?_);dsimp only;have e0:arrOf (SortSt.mk' general' (vs.toArray.zip vs.toArray) #[] 7 none)=(adi (aav vs.length)).map (kas_item (vs.toArray.zip vs.toArray)):=by
   have e:=kas_range (vs.toArray.zip vs.toArray);rw[show (vs.toArray.zip vs.toArray).size=vs.length by simp] at e;exact e.symm
  have pr:cb vs.length (adi (aav vs.length)):=ad3 _;refine wpAny_bind (seqEpoch_at ho6 rfl ?_);refine wpAny_bind (listUpdate_at ho6 rfl ?_ (aa7 _) (aar (big _ _ e0 pr) (by omega)));simp only[bne_self_eq_false,aaz,if_false];refine wpAny_pure (fin _ _ e0 pr λi j hij hj=>?_);have:i=j:=by omega
  subst this;exact abp _
 ·rw[if_neg h2,if_neg h2];refine wpAny_bind (wpAny_mono (ask (by omega)) (λκ s0 hk=>?_) λ_ _ x=>x.elim);obtain ⟨rfl,hc⟩:=hk;refine wpAny_bind (wpAny_mono (kat_run (Q:=λst' s'=>s'={ s with heap:=dc s.heap a vs }∧∃p:Array Nat,cb vs.length p∧Inc r p vs.length∧arrOf st'=p.map (kas_item (vs.toArray.zip vs.toArray))∧failedOf st'=none)
   (G:=λp s'=>s'={ s with heap:=dc s.heap a vs }∧cb vs.length p∧Inc r p vs.length) rfl (by omega) h64 (λp st' s' a1 a2 a3 a4=>⟨a4.1,p,a4.2.1,a4.2.2,a2,a3⟩) (Pd hc (by omega) λp hp hi=>⟨rfl,hp,hi⟩)) ?_ λ_ _ e=>e)
  rintro ⟨⟨⟩,st'⟩ s' ⟨rfl,p,hp,hi,har,hf⟩;dsimp only;refine wpAny_bind (seqEpoch_at ho6 rfl ?_);refine wpAny_bind (listUpdate_at ho6 rfl ?_ (aa7 _) (aar (big _ _ har hp) (by omega)));rw[hf];simp only[bne_self_eq_false,aaz,if_false];exact wpAny_pure (fin p st' har hp hi)
theorem Bw {l:Addr} {vs:List Value} {Q:List Value→Shared→Prop} (hl:s.heap.IsTuple l vs.toArray)
  (h:Q vs { s with heap:=(s.heap.push (seqObj "list" #[] 0)).update s.heap.objs.size (Obj.mapSeq (·++vs.toArray)) }) (hsz:vs.length≤sizeLine):
  wpAny (model prog w) A (collect (.ref l)) Q E s:=by
 obtain ⟨o,ho,hc,n,hd⟩:=id hl;unfold collect;refine wpAny_bind (wpAny_runValue (codeAny_builtin entry_proto_collect' ?_));show wpAny _ _ (do again (.builtin "list.__iadd__" ⟨[←newList [],.ref l],[]⟩)) _ _ s
 refine wpAny_bind (wpAny_newList (wpAny_pure ⟨Code.quiet_builtin _ (by decide+kernel),codeAny_builtin entry_list_iadd' ?_⟩));show wpAny _ _ (Builtin.List.listExtendWith (.ref s.heap.objs.size) (.ref l) (.ref s.heap.objs.size)) _ _ { s with heap:=s.heap.push (seqObj "list" #[] 0) }
 unfold Builtin.List.listExtendWith;have ho':(s.heap.push (seqObj "list" #[] 0)).get? l=some o:=Heap.get?_push_of_some _ ho;refine wpAny_bind (wpAny_typeOf (T:="tuple") ⟨o,ho',hc⟩ ?_);have ht:(Value.type "tuple"==Value.type "tuple")=true:=by rfl
 rw[if_pos (by rw[ht];simp)];refine wpAny_bind (listItems_at ho' hd ?_);refine wpAny_bind (listItems_at (xs:=#[]) (n:=0) (Heap.get?_push_size _ rfl) rfl ?_);rw[if_neg (by simp)];refine wpAny_bind (listUpdate_at (xs:=#[]) (n:=0) (Heap.get?_push_size _ rfl) rfl ?_ (aa7 _) (by show (#[]++vs.toArray).size≤sizeLine+1;simp only[Array.size_append,aa6,acb];omega));refine wpAny_pure ?_;show wpAny (model prog w) A (do
   let o ←load s.heap.objs.size
   match o.data with
   | .seq xs _=>pure xs.toList
   | _=>unsupported "internal:collect") Q E { s with heap:=(s.heap.push (seqObj "list" #[] 0)).update s.heap.objs.size (Obj.mapSeq (·++vs.toArray)) }
 refine wpAny_bind (wpAny_load (get?_update_seq (Heap.get?_push_size _ rfl) _) ?_);show wpAny _ _ (pure ((#[]:Array Value)++vs.toArray).toList) Q E _
 rw[show ((#[]:Array Value)++vs.toArray).toList=vs by simp];exact wpAny_pure h
noncomputable def dr (h:Heap) (vs:List Value):Heap:=((h.push (seqObj "list" #[] 0)).update h.objs.size (Obj.mapSeq (·++vs.toArray))).push (seqObj "list" vs.toArray 0)
theorem Ox {l:Addr} {vs:List Value} {Q:Value→Shared→Prop} (hl:s.heap.IsList l vs.toArray∨s.heap.IsTuple l vs.toArray) (h64:vs.length < 64)
  (ask:2≤vs.length→wpAny (model prog w) A.in1.in1 (keyKind' vs.toArray) (λκ s'=>s'={ s with heap:=dc (dr s.heap vs) (s.heap.objs.size+1) vs }∧Cmp (kas_ask prog w A.in1.in1 κ vs) vs.length r { s with heap:=dc (dr s.heap vs) (s.heap.objs.size+1) vs }) (λ_ _=>False) { s with heap:=dc (dr s.heap vs) (s.heap.objs.size+1) vs })
  (h:∀p,cb vs.length p→Inc r p vs.length→Q (.ref (s.heap.objs.size+1)) { s with heap:=sortedAll s.heap vs (adi (p.toList.map λi=>vs.getD i Value.none)) }):
  wpAny (model prog w) A (call (.builtin "sorted") [.ref l]) Q E s:=by
 have sz:vs.length≤sizeLine:=by rw[sizeLine_eq];omega
 refine Calls.call_function_entry kind_sorted plain_sorted entry_sorted (args_sorted1 _) ?_;unfold Builtin.«sorted»;refine wpAny_bind (m:=checkCount "sorted" 1 1 _) (wpAny_pure ?_);have go:∀{Q':List Value→Shared→Prop},Q' vs { s with heap:=(s.heap.push (seqObj "list" #[] 0)).update s.heap.objs.size (Obj.mapSeq (·++vs.toArray)) }→wpAny (model prog w) A.in1 (collect (.ref l)) Q' E s:=λ{Q'} q=>by
  rcases hl with hl | hl
  ·exact collect_list hl q sz
  ·exact Bw hl q sz
 refine wpAny_bind (go ?_);refine wpAny_bind (wpAny_newList ?_ sz);have hsz:((s.heap.push (seqObj "list" #[] 0)).update s.heap.objs.size (Obj.mapSeq (·++vs.toArray))).objs.size=s.heap.objs.size+1:=by
  rw[Heap.size_update,size_push']
 have hoL:(dr s.heap vs).get? (s.heap.objs.size+1)=some (seqObj "list" vs.toArray 0):=by
  unfold dr;rw[←hsz];exact Heap.get?_push_size _ rfl
 show wpAny _ _ _ _ _ { s with heap:=dr s.heap vs }
 rw[hsz];refine wpAny_bind (wpAny_holding (wpAny_call_entry slot_list_sort ⟨_,hoL,rfl⟩ entry_list_sort (Dp (s:={ s with heap:=dr s.heap vs }) hoL h64 ask λp hp hi=>⟨_,rfl,?_⟩) (args_list_sort _)));exact wpAny_pure ⟨_,rfl,h p hp hi⟩
end
end L2.Srt
namespace L2
open PySem PySem.Spec PyProof.Rows Srt
def Ords (P:Program) (w:World) (A:Around) (H:Hp) (ys:List V) (rk:Nat→Int):Prop:=
 ∀(s:Shared) (vs:List Value),HOk P w H s.heap→Vals ys vs→2≤vs.length→wpAny (model P w) A (keyKind' vs.toArray) (λκ s'=>s'=s∧Cmp (PySem.W.kas_ask P w A κ vs) vs.length rk s) (λ_ _=>False) s
theorem Qa {h:Heap} {vs:List Value} {b:Addr} {o:Obj} (hb:h.get? b=some o):(dc (dr h vs) (h.objs.size+1) vs).get? b=some o:=by
 have hlt:b < h.objs.size:=Heap.lt_size hb;have hsz:(dr h vs).objs.size=h.objs.size+2:=by unfold dr;rw[size_push',Heap.size_update,size_push']
 unfold dc;rw[Heap.get?_push_ne _ _ _ (by rw[size_push',Heap.size_update,hsz];exact aam (aai hlt (by omega))),Heap.get?_push_ne _ _ _ (by rw[Heap.size_update,hsz];exact aam (aai hlt (by omega))),Heap.get?_update_ne _ _ _ _ (aam (aai hlt (by omega)))];unfold dr;rw[Heap.get?_push_ne _ _ _ (by rw[Heap.size_update,size_push'];exact aam (aai hlt (by omega))),Heap.get?_update_ne _ _ _ _ (aam hlt),Heap.get?_push_ne _ _ _ (aam hlt)];exact hb
theorem yr {ys:List V} {vs:List Value} (r:Vals ys vs):∀(is:List Nat),(∀i∈is,i < ys.length)→Vals (is.map λi=>ys.getD i .non) (is.map λi=>vs.getD i Value.none)
 | [],_=>.nil
 | i::is,h=>by
  have hi:=h i aa9;obtain ⟨u,hu,ru⟩:=r.get (aa1 hi);refine .cons ?_ (yr r is λj hj=>h j (aaa _ hj));have e1:ys.getD i .non=ys[i]:=by rw[aad,aa1 hi];rfl
  have e2:vs.getD i Value.none=u:=by rw[aad,hu];rfl
  show RelV (ys.getD i .non) (vs.getD i Value.none)
  rw[e1,e2];exact ru
section
variable {X:Cx}
theorem Ba:gd X (.builtin "sorted") (λxs H Q=>∃p ys rk,xs=[.ref p]∧(SqL X.K H p ys∨SqT X.K H p ys)∧ys.length < 64∧Ords X.prog X.w X.A.in1.in1 H ys rk∧
  ∀(l:Addr) (is:List Nat),is.Perm (aav ys.length)→(∀i j,i≤j→j < ys.length→rk (is.getD i 0)≤rk (is.getD j 0))→H l=none→Q (.ref l) (upd H l (.lst (is.map λi=>ys.getD i .non)))):=by
 intro pins s σ H xs us Q I r h;obtain ⟨p,ys,rk,rfl,hq,h64,ho,q⟩:=h;obtain ⟨u,rfl,rx⟩:=vals1 r;cases rx
 obtain ⟨its,r',hl⟩:∃its,Vals ys its∧(s.heap.IsList p its.toArray∨s.heap.IsTuple p its.toArray):=by
  rcases hq with hq | hq
  ·obtain ⟨its,r',pl,_⟩:=I.list hq;exact ⟨its,r',.inl pl.isList⟩
  ·obtain ⟨its,r',pl,_⟩:=I.tuple hq;exact ⟨its,r',.inr pl⟩
 have hlen:=r'.length;refine Ox (r:=rk) hl (by omega) (λh2=>?_) λpm hp hi=>?_
 ·exact ho { s with heap:=dc (dr s.heap its) (s.heap.objs.size+1) its } its (I.hok.kept λb o e=>Qa e) r' h2
 ·obtain ⟨e,he⟩:=sortedAll_at s.heap its (adi (pm.toList.map λi=>its.getD i Value.none));have hp':pm.toList.Perm (aav ys.length):=by rw[hlen];exact hp
  have hin:∀i∈pm.toList,i < ys.length:=λi hi=>List.mem_range.mp (hp'.mem_iff.mp hi);have hz:(pm.toList.map λi=>ys.getD i V.non).length≤sizeLine:=by
   have sz:=sizeLine_eq;rw[aa0,hp'.length_eq,ac5];omega
  refine ⟨.ref (s.heap.objs.size+1),_,I.laid (t':=s.toks) (λb o e=>sortedAll_old e) (ad5 _) (show bp X.prog X.w _ _ _ (.lst (pm.toList.map λi=>ys.getD i V.non)) from ⟨hz,_,e,yr r' _ hin,he⟩),rfl,q _ _ hp' (λi j hij hj=>?_) (I.hok.fresh (ad5 _))⟩;have:=hi i j hij (by omega);have g:∀k,pm.toList.getD k 0=pm.getD k 0:=λk=>by
   rw[aco,aad,aci]
  rw[g,g];exact this
end
theorem yk {α:Type} {p q:α→Bool}:∀{l:List α},(∀x∈l,p x=true→q x=true)→(∃x∈l,q x=true∧p x=false)→l.countP p < l.countP q
 | [],_,h=>by obtain ⟨x,hx,_⟩:=h;cases hx
 | a::t,hm,h=>by
  rw[aez,aez];have mono:=aeb (l:=t) (λx hx=>hm x (aaa _ hx));have ha:=hm a aa9;by_cases hw:q a=true∧p a=false
  ·rw[hw.1,hw.2];simp;omega
  ·have:∃x∈t,q x=true∧p x=false:=by
    obtain ⟨x,hx,hq⟩:=h;rcases List.mem_cons.mp hx with rfl | hx
    ·exact absurd hq hw
    ·exact ⟨x,hx,hq⟩
   have ih:=yk (λx hx=>hm x (aaa _ hx)) this;cases hp:p a with
   | true=>rw[ha hp];simp;omega
   | false=>cases q a <;> simp <;> omega
noncomputable def rank (n:Nat) (lt:Nat→Nat→Bool) (i:Nat):Int:=(((aav n).countP λk=>lt k i:Nat):Int)
structure Ord (n:Nat) (lt:Nat→Nat→Bool):Prop where
 irr:∀i,i < n→lt i i=false
 tr:∀i j k,i < n→j < n→k < n→lt i j=true→lt j k=true→lt i k=true
 neg:∀i j k,i < n→j < n→k < n→lt i k=true→lt i j=true∨lt j k=true
theorem Ord.rank {n:Nat} {lt:Nat→Nat→Bool} (o:Ord n lt) {i j:Nat} (hi:i < n) (hj:j < n):decide (rank n lt i < rank n lt j)=lt i j:=by
 cases h:lt i j with
 | true=>
  apply decide_eq_true
  have:(aav n).countP (λk=>lt k i) < (aav n).countP λk=>lt k j:=yk (λk hk e=>o.tr k i j (List.mem_range.mp hk) hi hj e h) ⟨i,List.mem_range.mpr hi,h,o.irr i hi⟩;unfold L2.rank;omega
 | false=>
  apply decide_eq_false
  have:(aav n).countP (λk=>lt k j)≤(aav n).countP λk=>lt k i:=aeb λk hk e=>by
   rcases o.neg k i j (List.mem_range.mp hk) hi hj e with e | e
   ·exact e
   ·rw[h] at e;cases e
  unfold L2.rank;omega
noncomputable def ltS (x y:Str):Bool:=decide (x.cps.toList < y.cps.toList)
theorem zi (x:Str):ltS x x=false:=decide_eq_false (List.lt_irrefl _)
theorem zj {x y z:Str} (h1:ltS x y=true) (h2:ltS y z=true):ltS x z=true:=decide_eq_true (List.lt_trans (of_decide_eq_true h1) (of_decide_eq_true h2))
theorem Gd (x y:Str):ltS x y=true∨x=y∨ltS y x=true:=by
 by_cases h1:x.cps.toList < y.cps.toList
 ·exact .inl (decide_eq_true h1)
 by_cases h2:y.cps.toList < x.cps.toList
 ·exact .inr (.inr (decide_eq_true h2))
 exact .inr (.inl (str_eq.mpr (List.le_antisymm (List.not_lt.mp h2) (List.not_lt.mp h1))))
theorem Fz {x z:Str} (y:Str) (h:ltS x z=true):ltS x y=true∨ltS y z=true:=by
 rcases Gd x y with e | e | e
 ·exact .inl e
 ·subst e;exact .inr h
 ·exact .inr (zj e h)
section
variable {P:Program} {w:World} {A:Around} {H:Hp}
theorem Ji {zs:List Str}:Ords P w A H (zs.map V.str) (rank zs.length λi j=>ltS (zs.getD i "") (zs.getD j "")):=by
 intro s vs hok r h2;have hlen:=r.length;rw[aa0] at hlen;have at':∀i,i < zs.length→∃t,vs.getD i Value.none=.str (zs.getD i "") t:=λi hi=>by
  obtain ⟨u,hu,t,rfl⟩:=r.get (i:=i) (x:=.str (zs.getD i "")) (by rw[aa8,aa1 hi,aad,aa1 hi];rfl);exact ⟨t,by rw[aad,hu];rfl⟩
 have o:Ord zs.length λi j=>ltS (zs.getD i "") (zs.getD j ""):=⟨λ_ _=>zi _,λ_ _ _ _ _ _ a b=>zj a b,λ_ j _ _ _ _ a=>Fz _ a⟩;have sa:StrsAre vs (vs.map strOf):=strsAre_map vs λv hv=>by
  obtain ⟨i,hi,e⟩:=List.mem_iff_getElem.mp hv;obtain ⟨t,et⟩:=at' i (by omega);rw[aad,aa1 hi] at et;exact ⟨_,t,by rw[←e];exact et⟩
 obtain ⟨v₁,v₂,rest,rfl⟩:∃v₁ v₂ rest,vs=v₁::v₂::rest:=by
  match vs,h2 with
  | v₁::v₂::rest,_=>exact ⟨v₁,v₂,rest,rfl⟩
 rw[keyKind_strs sa];refine wpAny_pure ⟨rfl,λi j C hi hj hC=>?_⟩;obtain ⟨t,e1⟩:=at' i (by omega);obtain ⟨u,e2⟩:=at' j (by omega);show wpAny (model P w) A (keyLt' oneType' _ _) C _ s
 rw[e1,e2];refine PySem.W.kas_lt_str ?_;rw[o.rank (by omega) (by omega)] at hC;exact hC
end
end L2
namespace L2
open PySem PySem.Spec PyProof.Rows
def L4:V→List V→Hp→VK→Prop:=λx xs H Q=>∃a y z o,x=.ref a∧xs=[y,z]∧ib H a y o∧Q (o.getD z) H
section
variable {X:Cx}
theorem Lq (hu:X.A.units+1 < cLine):MtR X "dict.get" L4:=by
 intro pins s σ H x xs v us Q I rx r h;obtain ⟨a,y,z,o,rfl,rfl,g,q⟩:=h;cases (show v=Value.ref a from rx)
 cases r with
 | cons ry rr=>
  cases rr with
  | cons rz rr=>
   cases rr
   rename_i u1 u2
   rcases g with ⟨kvs,k,e,ey,l⟩ | ⟨kvs,k,b,e,ey,eb,l⟩
   ·subst ey;obtain ⟨_,hd,vs,rel,dd⟩:=y4 I.hok e;refine call_meetsIn PySem.F.slot_dict_get dd.typeIs PySem.F.entry_dict_get (PySem.F.args_dict_get_3 _ _ _) (meets_dict_get_default (bh X.prog X.w) a (rb ry) hd u2) ⟨_,dd.mapOf,⟨_,H,I.tok _,?_,q⟩⟩;rw[l];exact kc.getD (rel.val k) rz
   ·subst ey;cases (show u1=Value.ref b from ry)
    obtain ⟨_,hd,xs,rel,dd⟩:=x6 I.hok e;have rv:=rel.val k;rw[←l] at rv;refine wpAny_call_entry PySem.F.slot_dict_get dd.typeIs PySem.F.entry_dict_get ?_ (PySem.F.args_dict_get_3 _ _ _);show wpAny _ _ (dictGet a (.ref b) >>=_) _ _ s
    refine wpAny_bind (wpAny_dictGet_heap (tupleKind_room_in1 hu) (mr I.hok eb) dd ?_);have g:=kc.getD rv rz;cases hf:atKey xs k with
    | some p=>
     rw[hf] at g;exact wpAny_pure ⟨p.2,rfl,⟨_,H,I.tok _,g,q⟩⟩
    | none=>
     rw[hf] at g;show wpAny _ _ (Builtin.Dict.missed a (.ref b) >>=_) _ _ _
     exact wpAny_bind (wpAny_missed_other hd (wpAny_pure ⟨u2,rfl,⟨_,H,I.tok _,g,q⟩⟩))
theorem Jh {K:PySem.W.Frag} {a:Addr} {kvs:List (List Key×V)} {H:Hp} (h:H a=some (.dT kvs)):tyV K "dict" (.ref a) H:=.inr (.inr (.inl ⟨rfl,.inr ⟨kvs,h⟩⟩))
end
end L2
namespace Pc
open PySem PySem.Spec L2 PyProof.Rows
theorem cz {α:Type} (l:List α) (k:Int) (h0:0≤k) (h1:k < (l.length:Int)):∃c,atI l k=some c∧c∈l:=by
 have hk:k.toNat < l.length:=by omega
 have e:k=((k.toNat:Nat):Int):=by omega
 have q:atI l ((k.toNat:Nat):Int)=some l[k.toNat]:=bb (aa1 hk);rw[←e] at q;exact ⟨_,q,ab3 hk⟩
end Pc
namespace Pc
noncomputable def eat:Nat→List Nat→Option Nat
 | 0,_=>some 0
 | _+1,[]=>none
 | l+1,a::r=>(eat (l+a) r).map (·+1)
noncomputable def pend:Nat→List Nat→Option Nat
 | l,[]=>some l
 | 0,_::_=>none
 | l+1,a::r=>pend (l+a) r
noncomputable def starts:Nat→List Nat→List Nat
 | _,[]=>[]
 | p,a::r=>p::(starts (p+1) r).drop a
theorem kf (r:List Nat):eat 0 r=some 0:=by cases r <;> rfl
theorem dj (l a:Nat) (r:List Nat):eat (l+1) (a::r)=(eat (l+a) r).map (·+1):=rfl
theorem n8:∀(xs ys:List Nat) (l:Nat),pend l (xs++ys)=(pend l xs).bind λm=>pend m ys
 | [],ys,l=>by cases l <;> rfl
 | a::r,ys,0=>rfl
 | a::r,ys,l+1=>by
  show pend (l+a) (r++ys)=(pend (l+a) r).bind _
  exact n8 r ys (l+a)
theorem Cn (l a:Nat) (h:0 < l):pend l [a]=some (l - 1+a):=by
 cases l with
 | zero=>omega
 | succ l=>show some (l+a)=some (l+1 - 1+a);rw[acz]
theorem yo (xs:List Nat) (a l d:Nat) (h:pend l xs=some d) (hd:0 < d):pend l (xs++[a])=some (d - 1+a):=by
 rw[n8,h];exact Cn d a hd
theorem qd:∀(r:List Nat) (l n:Nat),eat l r=some n→n≤r.length
 | r,0,n,h=>by rw[kf] at h;cases h;exact aa7 _
 | [],l+1,n,h=>by cases h
 | a::r,l+1,n,h=>by
  rw[dj] at h;obtain ⟨m,hm,rfl⟩:=Option.map_eq_some_iff.mp h;have:=qd r (l+a) m hm;rw[aap];omega
theorem rh:∀(r:List Nat) (l:Nat),pend l r=some 0→eat l r=some r.length
 | [],l,h=>by
  cases h
  rfl
 | a::r,0,h=>by cases h
 | a::r,l+1,h=>by
  rw[dj,rh r (l+a) h];rfl
theorem yd (r:List Nat) (l:Nat) (h:pend l r=some 0) (p:Nat):∃m,pend m (r.drop p)=some 0:=by
 have e:r=r.take p++r.drop p:=(ac1 p r).symm;rw[e,n8] at h;cases q:pend l (r.take p) with
 | none=>rw[q] at h;cases h
 | some m=>rw[q] at h;exact ⟨m,h⟩
theorem Lx {m:Nat} {r:List Nat} (h:pend m r=some 0) (hr:r≠[]):0 < m:=by
 cases r with
 | nil=>exact absurd rfl hr
 | cons a r=>
  cases m with
  | zero=>cases h
  | succ m=>omega
theorem vw:∀(r:List Nat) (l m:Nat),pend (l+m) r=some 0→∃n,eat l r=some n∧pend m (r.drop n)=some 0
 | r,0,m,h=>⟨0,kf r,by rw[ad1] at h;exact h⟩
 | [],l+1,m,h=>by
  have:l+1+m=0:=aa3 h;omega
 | a::r,l+1,m,h=>by
  have e:l+1+m=(l+m)+1:=by omega
  rw[e] at h;have h':pend (l+a+m) r=some 0:=by
   have e2:l+a+m=l+m+a:=by omega
   rw[e2];exact h
  obtain ⟨n,h1,h2⟩:=vw r (l+a) m h';exact ⟨n+1,by rw[dj,h1];rfl,h2⟩
theorem rq:∀(r:List Nat) (l n p:Nat),eat l r=some n→(starts p r).drop l=starts (p+n) (r.drop n)
 | r,0,n,p,h=>by rw[kf] at h;cases h;rfl
 | [],l+1,n,p,h=>by cases h
 | a::r,l+1,n,p,h=>by
  rw[dj] at h;obtain ⟨m,hm,rfl⟩:=Option.map_eq_some_iff.mp h;show ((starts (p+1) r).drop a).drop l=starts (p+(m+1)) (r.drop m)
  rw[adl,ady a l,rq r (l+a) m (p+1) hm];congr 1
  omega
theorem vf:∀(r:List Nat) (l p:Nat),pend l r=some 0→(starts p r).length=l
 | [],l,p,h=>by
  have:l=0:=aa3 h;rw[this];rfl
 | a::r,0,p,h=>by cases h
 | a::r,l+1,p,h=>by
  have ih:=vf r (l+a) (p+1) h;show ((starts (p+1) r).drop a).length+1=l+1
  rw[aao,ih];omega
theorem q5 (r:List Nat) (p:Nat) (h:r≠[]):∃t,starts p r=p::t:=by
 cases r with
 | nil=>exact absurd rfl h
 | cons a r=>exact ⟨_,rfl⟩
theorem Jg (ar:List Nat) (p:Nat) (h:p < ar.length):starts p (ar.drop p)=p::(starts (p+1) (ar.drop (p+1))).drop (ar.getD p 0):=by
 rw[aaw h];have e:ar.getD p 0=ar[p]:=by rw[aad,aa1 h];rfl
 rw[e];rfl
end Pc
namespace Pc
open PySem PySem.Spec L2 PyProof.Rows
noncomputable abbrev parts:List (Key×V):=[(Sum.inr "add",.int 2),(Sum.inr "sub",.int 2),(Sum.inr "mul",.int 2),(Sum.inr "neg",.int 1)]
noncomputable def arS (z:Str):Nat:=if z="add" then 2 else if z="sub" then 2 else if z="mul" then 2 else if z="neg" then 1 else 0
noncomputable def arV:V→Nat
 | .str z=>arS z
 | _=>0
def isW (v:V):Prop:=∃k:Key,v=kV k
theorem Jd (k:Key):(cj parts k).getD (.int 0)=.int (arV (kV k)):=by
 cases k with
 | inl i=>rfl
 | inr z=>
  show (cj parts (Sum.inr z)).getD (.int 0)=.int (arS z)
  unfold arS;by_cases h1:z="add"
  ·subst h1;rw[b8 rfl,if_pos rfl];rfl
  rw[b7 (λe=>h1 (Sum.inr.inj e).symm),if_neg h1];by_cases h2:z="sub"
  ·subst h2;rw[b8 rfl,if_pos rfl];rfl
  rw[b7 (λe=>h2 (Sum.inr.inj e).symm),if_neg h2];by_cases h3:z="mul"
  ·subst h3;rw[b8 rfl,if_pos rfl];rfl
  rw[b7 (λe=>h3 (Sum.inr.inj e).symm),if_neg h3];by_cases h4:z="neg"
  ·subst h4;rw[b8 rfl,if_pos rfl];rfl
  rw[b7 (λe=>h4 (Sum.inr.inj e).symm),if_neg h4];rfl
theorem arS_le (z:Str):arS z≤2:=by
 unfold arS;repeat' split
 all_goals decide
theorem xi (v:V):arV v≤2:=by cases v <;> first | exact arS_le _ | exact aa7 _
theorem qw {z:Str} (h:0 < arS z):z="add"∨z="sub"∨z="mul"∨z="neg":=by
 unfold arS at h;by_cases h1:z="add"
 ·exact .inl h1
 by_cases h2:z="sub"
 ·exact .inr (.inl h2)
 by_cases h3:z="mul"
 ·exact .inr (.inr (.inl h3))
 by_cases h4:z="neg"
 ·exact .inr (.inr (.inr h4))
 rw[if_neg h1,if_neg h2,if_neg h3,if_neg h4] at h;exact absurd h (by decide)
def isTerm (ws:List V):Prop:=pend 1 (ws.map arV)=some 0
theorem isTerm.ne {ws:List V} (h:isTerm ws):ws≠[]:=by
 intro e;rw[e] at h;cases h
def xn:Sp:=λvs H Q _=>∃v,vs=[v]∧isW v∧Q (.int (arV v)) H
def fm (H:Hp) (d b:Addr) (ns:List Int) (n:Nat):Prop:=H d=some (.lst [.ref b,.int (n:Int)])∧H b=some (.lst (aec V.int ns))
def ay (d:Addr) (H H':Hp):Prop:=∀b o,b≠d→H b=some o→H' b=some o
theorem ay.refl (d:Addr) (H:Hp):ay d H H:=λ_ _ _ h=>h
theorem ay.trans {d:Addr} {H H1 H2:Hp} (a:ay d H H1) (b:ay d H1 H2):ay d H H2:=λc o n h=>b c o n (a c o n h)
theorem ay.of {d:Addr} {H H':Hp} (a:ak H H'):ay d H H':=λb o _ h=>a b o h
theorem ay.upd {d p:Addr} {H H':Hp} (a:ay d H H') (hp:H p=none) (o:HO):ay d H (L2.upd H' p o):=λb u n h=>by rw[af (ah h hp)];exact a b u n h
theorem fm.ne {H:Hp} {d b:Addr} {ns:List Int} {n:Nat} (h:fm H d b ns n):b≠d:=eh h.2 h.1 (by intro e;cases ns <;> simp at e)
theorem fm.next {H H':Hp} {d b:Addr} {ns:List Int} {n k:Nat} (h:fm H d b ns n) (s:ay d H H') (e:H' d=some (.lst [.ref b,.int (k:Int)])):fm H' d b ns k:=⟨e,s b _ h.ne h.2⟩
theorem fm.same {H H':Hp} {d b:Addr} {ns:List Int} {n:Nat} (h:fm H d b ns n) (s:ak H H'):fm H' d b ns n:=⟨s _ _ h.1,s _ _ h.2⟩
noncomputable def ly (H:Hp) (p:Addr):Nat:=match H p with | some (.lst ws)=>ws.length | _=>0
theorem gc {H:Hp} {p:Addr} {ws:List V} (h:H p=some (.lst ws)):ly H p=ws.length:=by unfold ly;rw[h]
def jg:Sp:=λvs H Q _=>∃(d b:Addr) (ns:List Int) (n:Nat),vs=[.ref d]∧fm H d b ns n∧n≤100000∧∀(c:Int) (H':Hp),ay d H H'→H' d=some (.lst [.ref b,.int ((n+1:Nat):Int)])→Q (.int c) H'
theorem lh {z:Str}:∀{xs:List V},inV (.str z) xs=true→.str z∈xs:=by
 intro xs h;unfold inV at h;obtain ⟨y,hy,e⟩:=List.any_eq_true.mp h;cases y with
 | str x=>
  have e':x=z:=by simpa [eqV] using e
  exact e' ▸ hy
 | _=>simp[eqV] at e
theorem Dy (z:Str) (n:Nat):(mh z n).cps.toList=(aaj n z.cps.toList).flatten:=by unfold mh;simp
theorem Aw:arS "neg"=1:=by decide+kernel
theorem ay.free {d t:Addr} {H H':Hp} {o:HO} (s:ay d H H') (hd:H' d=some o) (ht:H' t=none):H t=none:=by
 cases e:H t with
 | none=>rfl
 | some u=>
  by_cases h:t=d
  ·subst h;rw[hd] at ht;cases ht
  ·rw[s t u h e] at ht;cases ht
theorem M6 (ns:List Int) (lo hi:Option Int):∃ms:List Int,ju (ns.map V.int) lo hi=ms.map V.int∧ms.length≤ns.length:=by
 refine ⟨_,by unfold ju;rw[←ac4,←aei],?_⟩;rw[ab0,aao];omega
theorem Hc:∀(r:List Nat) (l:Nat),pend l r=some 0→l≤r.length
 | [],l,h=>by
  have:l=0:=aa3 h;omega
 | a::r,0,h=>by cases h
 | a::r,l+1,h=>by
  have:=Hc r (l+a) h;rw[aap];omega
theorem tq:∀(r:List Nat) (j k:Nat),eat (j+k) r=(eat j r).bind λs=>(eat k (r.drop s)).map (s+·)
 | r,0,k=>by
  rw[kf,ad1];show eat k r=(eat k r).map (0+·)
  cases eat k r with
  | none=>rfl
  | some n=>show some n=some (0+n);rw[ad1]
 | [],j+1,k=>by
  rw[show j+1+k=(j+k)+1 by omega];rfl
 | a::r,j+1,k=>by
  rw[show j+1+k=(j+k)+1 by omega,dj,dj,show j+k+a=j+a+k by omega,tq r (j+a) k];cases eat (j+a) r with
  | none=>rfl
  | some s=>
   show ((eat k (r.drop s)).map (s+·)).map (·+1)=(eat k (r.drop s)).map (s+1+·)
   cases eat k (r.drop s) with
   | none=>rfl
   | some n=>show some (s+n+1)=some (s+1+n);congr 1;omega
theorem Az:∀(r:List Nat) (k n:Nat),eat (k+1) r=some n→0 < n
 | [],k,n,h=>by cases h
 | a::r,k,n,h=>by
  rw[dj] at h;obtain ⟨m,hm,rfl⟩:=Option.map_eq_some_iff.mp h;omega
theorem uw (ws:List V) (p:Nat) (h:p≤ws.length):ju ws none (some (p:Int))=ws.take p:=by
 unfold ju;rw[HT.Gw,HT.Df,af7 h];rfl
theorem Ly (ws:List V) (p n:Nat) (h:p+n≤ws.length):ju ws (some ((p:Int)+(n:Int))) none=ws.drop (p+n):=by
 unfold ju;rw[show (p:Int)+(n:Int)=((p+n:Nat):Int) by omega,HT.Gw,HT.Df,af7 h];apply aby
 rw[aao];omega
theorem El {ws:List V} (h:isTerm ws) {p:Nat} {x:V} (hx:ws[p]?=some x):∃m,pend (m+arV x) ((ws.drop (p+1)).map arV)=some 0:=by
 have hp:p < ws.length:=(List.getElem?_eq_some_iff.mp hx).1;have hd:ws.drop p=x::ws.drop (p+1):=by
  rw[aaw hp];congr 1
  rw[aa1 hp] at hx;exact aa3 hx
 obtain ⟨m,hm⟩:=yd _ 1 h p;rw[←ac4,hd] at hm;cases m with
 | zero=>cases hm
 | succ m'=>exact ⟨m',hm⟩
theorem B4 {x:V} (hx:isW x):(inV x [V.str "add",V.str "sub",V.str "mul"]=true)↔arV x=2:=by
 obtain ⟨k,rfl⟩:=hx;cases k with
 | inl i=>
  constructor
  ·intro h;exact absurd h (by simp[inV,eqV,kV])
  ·intro h;exact absurd h (by show ¬(0=2);decide)
 | inr z=>
  show (inV (.str z) _=true)↔arS z=2
  constructor
  ·intro h;have:=lh h;simp only[aaq,aah,or_false,V.str.injEq] at this;rcases this with rfl | rfl | rfl <;> decide+kernel
  ·intro h;rcases qw (z:=z) (by omega) with rfl | rfl | rfl | rfl
   ·decide+kernel
   ·decide+kernel
   ·decide+kernel
   ·rw[Aw] at h;exact absurd h (by decide)
noncomputable def intAt (σ:L2.St) (i:Nat):Nat:=match σ[i]? with | some (some (.int x))=>x.toNat | _=>0
def ur (K:PySem.W.Frag):Sp:=λvs H Q _=>∃(t:Addr) (ws:List V) (p n:Nat),vs=[.ref t,.int (p:Int)]∧SqT K H t ws∧(∀v∈ws,isW v)∧ws.length≤1000∧eat 1 ((ws.drop p).map arV)=some n∧∀H',ak H H'→Q (.int ((p:Int)+(n:Int))) H'
end Pc
namespace L2.RvR
open PySem PySem.Spec PySem.Calls PyProof.Rows
end L2.RvR
namespace L2
open PySem PySem.Spec PyProof.Rows RvR
noncomputable def Itd (n:Nat):It:=⟨λi _=>i < n,λi H x H'=>H'=H∧x=.int ((n:Int) - 1 - (i:Int)),λi _=>n≤i⟩
theorem Ht {P:Program} {w:World} {K:PySem.W.Frag} {tg:Expr} (it:Addr) (n:Nat):Turn P w K tg (Itd n) [it] it (λi h=>IsRangeIter h it ((n:Int) - 1+(i:Nat)*(-1)) ((n:Int) - (i:Nat)) (-1)) where
 mem:=by simp
 obj:=λi h st b hb=>by
  have e:b=it:=by simpa using hb
  subst e;exact ⟨_,st,λv z=>nomatch (show Data.fields _=Data.cell v from z)⟩
 keep:=λi h h' st k=>k it (by simp) _ st
 item:=by
  intro X hP hw hK hc i pins s σ H E I hf st hg;subst hP hw hK;obtain ⟨f0,f1,f2,f3,f4,f5⟩:=hf it (by simp);refine (Walks.range (prog:=X.prog) (w:=X.w) (I.ok.hd hc) it ((n:Int) - 1) (-1) n).item i s _ _ hg st λv h' tk hv st' kk=>?_;obtain ⟨t,rfl⟩:=hv;have I1:Inv X pins σ H { s with heap:=h',toks:=tk }:=I.turned (λb o hb e=>kk b o (by simpa using hb) e) f0 f1 f3 f4 f5;refine ⟨_,rfl,yp (s:={ s with heap:=h',toks:=tk }) (n:="range_iterator") st' rfl rfl (by decide) ⟨.int ((n:Int) - 1 - (i:Int)),H,I1,⟨t,?_⟩,⟨rfl,rfl⟩,st',λb hb=>(hf b hb).1⟩⟩;congr 1
  omega
 done:=by
  intro X hP hw hK hc i pins s σ H E I hf st hg;subst hP hw hK;obtain ⟨f0,f1,f2,f3,f4,f5⟩:=hf it (by simp);have hg:n≤i:=hg;exact wpAny_pyNext_range_end (I.ok.hd hc) st (by omega) λh' eb=>⟨rfl,I.turned (t':=s.toks) (λb o hb e=>eb b o hb e) f0 f1 f3 f4 f5⟩
 self:=λ_ _ _ _ _ st h=>wpAny_pyIter_rangeiter st h
end L2
namespace L2
open PySem PySem.Spec PyProof.Rows
end L2
namespace Pc
open PySem PySem.Spec L2 PyProof.Rows
noncomputable abbrev plV (q:Nat):V:=V.int ((q:Nat):Int)
end Pc
namespace L2
open PySem PySem.Spec PyProof.Rows
section
variable {X:Cx}
theorem gj:gd X (.builtin "isinstance") (λxs H Q=>∃x p n m t b,xs=[x,.ref p]∧H p=some (.tup [.ty n,.ty m])∧ny X.K H x t∧PySem.W.kitAny X.K t [.type n,.type m]=some b∧Q (.bl b) H):=by
 intro pins s σ H xs us Q I r h;obtain ⟨x,p,n,m,t,b,rfl,hp,ty,e,q⟩:=h;obtain ⟨u,u2,rfl,rx,r2⟩:=vals2 r;cases (show u2=Value.ref p from r2)
 obtain ⟨_,its,ri,o,h1,h2,k,h3,h4⟩:=(show bp X.prog X.w H s.heap p (.tup [.ty n,.ty m]) from I.hok p _ hp);obtain ⟨i1,i2,rfl,q1,q2⟩:=vals2 ri;cases (show i1=Value.type n from q1)
 cases (show i2=Value.type m from q2)
 obtain ⟨cls,dd,data,sl⟩:=o;cases (show cls=.type "tuple" from h2)
 cases (show data=.seq [Value.type n,Value.type m].toArray k from h3)
 have fin:∀tk:Nat,∃y H',Inv X pins σ H' { s with toks:=tk }∧RelV y (Value.bool b)∧Q y H':=λtk=>⟨.bl b,H,I.tok tk,rfl,q⟩;cases ty with
 | non=>cases (show u=Value.none from rx);exact PySem.W.kia_tup PySem.W.kitx_none I.kIn True.intro h1 e (λz=>nomatch z) fin
 | bl y=>cases (show u=Value.bool y from rx);exact PySem.W.kia_tup PySem.W.kitx_bool I.kIn True.intro h1 e (λz=>nomatch z) fin
 | int i=>obtain ⟨t,z⟩:=(show ∃t,u=Value.int i t from rx);cases z;exact PySem.W.kia_tup PySem.W.kitx_int I.kIn True.intro h1 e (λz=>nomatch z) fin
 | str y=>obtain ⟨t,z⟩:=(show ∃t,u=Value.str y t from rx);cases z;exact PySem.W.kia_tup PySem.W.kitx_str I.kIn True.intro h1 e (λz=>nomatch z) fin
 | flt y=>obtain ⟨t,z⟩:=(show ∃t,u=Value.float y t from rx);cases z;exact PySem.W.kia_tup PySem.W.kitx_float I.kIn True.intro h1 e (λz=>nomatch z) fin
 | @lst a xs ea=>
  cases (show u=Value.ref a from rx)
  obtain ⟨_,_,n',_,g1⟩:=(show bp X.prog X.w H s.heap a (.lst xs) from I.hok a _ ea);exact PySem.W.kia_tup PySem.W.kitx_list I.kIn ⟨_,g1,rfl⟩ h1 e (λz=>nomatch z) fin
 | @frz a ob xs ea=>
  cases (show u=Value.ref a from rx)
  obtain ⟨_,_,_,n',_,g1⟩:=(show bp X.prog X.w H s.heap a (.frz ob (.lst xs)) from I.hok a _ ea);exact PySem.W.kia_tup PySem.W.kitx_list I.kIn ⟨_,g1,rfl⟩ h1 e (λz=>nomatch z) fin
 | @tup a xs ea=>
  cases (show u=Value.ref a from rx)
  obtain ⟨_,_,_,pp⟩:=(show bp X.prog X.w H s.heap a (.tup xs) from I.hok a _ ea);obtain ⟨o',g1,g2,_⟩:=pp;exact PySem.W.kia_tup PySem.W.kitx_tuple I.kIn ⟨o',g1,g2⟩ h1 e (λz=>nomatch z) fin
 | @dK a kvs ea=>
  cases (show u=Value.ref a from rx)
  obtain ⟨_,_,vs,_,pp⟩:=(show bp X.prog X.w H s.heap a (.dK kvs) from I.hok a _ ea);obtain ⟨o',es,ep,g1,g2,_⟩:=pp;exact PySem.W.kia_tup PySem.W.kitx_dict I.kIn ⟨o',g1,g2.1⟩ h1 e (λz=>nomatch z) fin
 | @dT a kvs ea=>
  cases (show u=Value.ref a from rx)
  obtain ⟨_,_,vs,_,pp⟩:=(show bp X.prog X.w H s.heap a (.dT kvs) from I.hok a _ ea);obtain ⟨o',es,ep,g1,g2,_⟩:=pp;exact PySem.W.kia_tup PySem.W.kitx_dict I.kIn ⟨o',g1,g2.1⟩ h1 e (λz=>nomatch z) fin
 | @ins a C' dx fs ea cl ha hn htk hm=>
  cases (show u=Value.ref a from rx)
  obtain ⟨mA,O,_⟩:=Gk I.hok ea;obtain ⟨od,J,_⟩:=O.look;exact PySem.W.kia_tup (PySem.W.kitx_own (cl.get _) cl.hd ha hn htk hm) I.kIn J h1 e (λz=>nomatch z) fin
end
end L2
namespace Pc
open PySem PySem.Spec L2 PyProof.Rows
noncomputable def ia:V:=.str (Str.ofString "any")
noncomputable def gg:V:=.str (Str.ofString "var")
noncomputable def lN:Str:=Str.ofString "n"
noncomputable def lV:Str:=Str.ofString "v"
noncomputable def lH:Str:=Str.ofString "h"
noncomputable def lO:Str:=Str.ofString ""
noncomputable def bu (kinds:List Str) (v:V):Str:=if v=ia then lN else if v=gg then lV else if inV v (kinds.map V.str)=true then lH else lO
noncomputable def isStr:V→Bool
 | .str _=>true
 | _=>false
noncomputable def lies (l:Str) (v x:V):Bool:=if l=lH then true else if l=lN then !isStr x else if l=lV then isStr x&&decide (arV x=0) else decide (v=x)
def jk (K:PySem.W.Frag):Sp:=λvs H Q _=>∃(v:V) (kt:Addr) (kinds:List Str),vs=[v,.ref kt]∧isW v∧SqT K H kt (kinds.map V.str)∧Q (.str (bu kinds v)) H
def zw:Sp:=λvs H Q _=>∃(l:Str) (v x:V),vs=[.str l,v,x]∧isW v∧isW x∧Q (.bl (lies l v x)) H
theorem isW.sc {v:V} (h:isW v) (z:Str):scal v (.str z)=true:=by
 obtain ⟨k,rfl⟩:=h;cases k <;> rfl
theorem isW.sc2 {v x:V} (h:isW v) (g:isW x):scal v x=true:=by
 obtain ⟨k,rfl⟩:=h;obtain ⟨m,rfl⟩:=g;cases k <;> cases m <;> rfl
theorem isW.flat {v:V} (h:isW v):ik v=true:=by
 obtain ⟨k,rfl⟩:=h;exact Ov k
structure Und where
 hs:List Nat
 ns:List V
 vs:List V
noncomputable def Und.put (u:Und) (l:Str) (p:Nat) (x:V):Und:=if l=lH then ⟨u.hs++[p],u.ns,u.vs⟩ else if l=lN then ⟨u.hs,u.ns++[x],u.vs⟩ else if l=lV then ⟨u.hs,u.ns,u.vs++[x]⟩ else u
noncomputable def endAt (ws:List V) (p:Nat):Nat:=p+(eat 1 ((ws.drop p).map arV)).getD 0
noncomputable def bz (kinds:List Str) (ws:List V):List V→Nat→Und→Option Und
 | [],_,u=>some u
 | v::r,p,u=>if lies (bu kinds v) v (ws.getD p .non)=true then bz kinds ws r (if bu kinds v=lH then endAt ws p else p+1) (u.put (bu kinds v) p (ws.getD p .non)) else none
def uh (H:Hp) (t:Addr) (u:Und):Prop:=∃t1 t2 t3:Addr,H t=some (.tup [.ref t1,.ref t2,.ref t3])∧H t1=some (.tup (u.hs.map plV))∧H t2=some (.tup u.ns)∧H t3=some (.tup u.vs)
structure UndOk (u:Und):Prop where
 n:(∀v∈u.ns,isW v)∧u.ns.length≤1000
 v:(∀v∈u.vs,isW v)∧u.vs.length≤1000
 h:u.hs.length≤1000
theorem uh.same {H H':Hp} {t:Addr} {u:Und} (h:uh H t u) (s:ak H H'):uh H' t u:=by
 obtain ⟨t1,t2,t3,h1,h2,h3,h4⟩:=h;exact ⟨t1,t2,t3,s _ _ h1,s _ _ h2,s _ _ h3,s _ _ h4⟩
def E9 (u:Und):Prop:=(∀v∈u.ns,isW v)∧∀v∈u.vs,isW v
theorem E9.put {u:Und} (h:E9 u) {x:V} (hx:isW x) (l:Str) (p:Nat):E9 (u.put l p x):=by
 unfold Und.put;have ap:∀{L:List V},(∀v∈L,isW v)→∀v∈L++[x],isW v:=λ{L} hL v hv=>by
  rcases List.mem_append.mp hv with g | g
  ·exact hL v g
  ·rw[List.mem_singleton.mp g];exact hx
 by_cases c1:l=lH
 ·rw[if_pos c1];exact h
 rw[if_neg c1];by_cases c2:l=lN
 ·rw[if_pos c2];exact ⟨ap h.1,h.2⟩
 rw[if_neg c2];by_cases c3:l=lV
 ·rw[if_pos c3];exact ⟨h.1,ap h.2⟩
 rw[if_neg c3];exact h
def Kinds (kinds:List Str):Prop:=∀z∈kinds,arS z=0∧V.str z≠ia∧V.str z≠gg
def told (r:Option Und) (H':Hp) (Q:VK):Prop:=match r with
 | none=>Q .non H'
 | some u=>∀(t:Addr) (H2:Hp),ak H' H2→uh H2 t u→UndOk u→Q (.ref t) H2
theorem qi {H':Hp} {Q:VK} (h:Q .non H'):told none H' Q:=h
def wx (K:PySem.W.Frag):Sp:=λvs H Q _=>∃(st kt wt:Addr) (sh:List V) (kinds:List Str) (ws:List V) (p n:Nat),vs=[.ref st,.ref kt,.ref wt,.int (p:Int)]∧SqT K H st sh∧SqT K H kt (kinds.map V.str)∧SqT K H wt ws∧Kinds kinds∧(∀v∈sh,isW v)∧(∀v∈ws,isW v)∧isTerm sh∧eat 1 ((ws.drop p).map arV)=some n∧sh.length≤1000∧ws.length≤1000∧∀H',ak H H'→told (bz kinds ws sh p ⟨[],[],[]⟩) H' Q
theorem dk {kinds:List Str} {v:V} (hv:isW v):(v=ia∧bu kinds v=lN)∨(v=gg∧bu kinds v=lV)∨((∃z∈kinds,v=.str z)∧bu kinds v=lH)∨(bu kinds v=lO∧inV v (kinds.map V.str)=false):=by
 unfold bu;by_cases h1:v=ia
 ·exact .inl ⟨h1,if_pos h1⟩
 by_cases h2:v=gg
 ·exact .inr (.inl ⟨h2,by rw[if_neg h1,if_pos h2]⟩)
 cases h3:inV v (kinds.map V.str) with
 | true=>
  refine .inr (.inr (.inl ⟨?_,by rw[if_neg h1,if_neg h2,if_pos rfl]⟩));obtain ⟨k,rfl⟩:=hv;cases k with
  | inl i=>
   exfalso
   clear h1 h2;induction kinds with
   | nil=>cases h3
   | cons z r ih=>exact ih h3
  | inr z=>
   obtain ⟨y,hy,e⟩:=List.mem_map.mp (lh h3);exact ⟨y,hy,e.symm⟩
 | false=>exact .inr (.inr (.inr ⟨by rw[if_neg h1,if_neg h2,if_neg (by decide)],rfl⟩))
theorem qh:arV ia=0:=by decide+kernel
theorem qc:arV gg=0:=by decide+kernel
theorem lets:lN≠lH∧lV≠lH∧lO≠lH∧lV≠lN∧lO≠lN∧lO≠lV:=by decide+kernel
theorem gm {kinds:List Str} {ws r:List V} {v x:V} {q d m:Nat} (hk:Kinds kinds) (hv:isW v) (hx:ws[q]?=some x) (hxw:isW x) (hp:pend (d+1) (arV v::r.map arV)=some 0) (he:eat (d+1) ((ws.drop q).map arV)=some m)
  (hl:lies (bu kinds v) v x=true):∃d' m',pend d' (r.map arV)=some 0∧eat d' ((ws.drop (if bu kinds v=lH then endAt ws q else q+1)).map arV)=some m':=by
 have hq:q < ws.length:=(List.getElem?_eq_some_iff.mp hx).1;have ed:ws.drop q=x::ws.drop (q+1):=by
  rw[aaw hq];congr 1
  rw[aa1 hq] at hx;exact aa3 hx
 obtain ⟨e1,e2,e3,e4,e5,e6⟩:=lets;have hp:pend (d+arV v) (r.map arV)=some 0:=hp;have one:arV v=arV x→bu kinds v≠lH→∃d' m',pend d' (r.map arV)=some 0∧eat d' ((ws.drop (if bu kinds v=lH then endAt ws q else q+1)).map arV)=some m':=λh n=>by
  rw[if_neg n];rw[ed,aau,dj] at he;obtain ⟨k,hk',_⟩:=Option.map_eq_some_iff.mp he;exact ⟨d+arV v,k,hp,by rw[h];exact hk'⟩
 unfold lies at hl;rcases dk (kinds:=kinds) hv with ⟨rfl,h⟩ | ⟨rfl,h⟩ | ⟨⟨z,hz,rfl⟩,h⟩ | ⟨h,_⟩
 ·refine one ?_ (by rw[h];exact e1);rw[h,if_neg e1,if_pos rfl] at hl;rw[qh];obtain ⟨k,rfl⟩:=hxw;cases k with
  | inl i=>rfl
  | inr y=>cases hl
 ·refine one ?_ (by rw[h];exact e2);rw[h,if_neg e2,if_neg e4,if_pos rfl,ac9] at hl;rw[qc];exact (of_decide_eq_true hl.2).symm
 ·rw[if_pos h];have a0:arV (.str z)=0:=(hk z hz).1;rw[a0] at hp;rw[show d+1=1+d by omega,tq] at he;cases h1:eat 1 ((ws.drop q).map arV) with
  | none=>rw[h1] at he;cases he
  | some n=>
   rw[h1] at he;obtain ⟨k,hk',_⟩:=Option.map_eq_some_iff.mp (show (eat d (((ws.drop q).map arV).drop n)).map (n+·)=some m from he);refine ⟨d,k,hp,?_⟩;unfold endAt;rw[h1,show (some n).getD 0=n from rfl,←adl];rw[←ac4] at hk';exact hk'
 ·refine one ?_ (by rw[h];exact e3);rw[h,if_neg e3,if_neg e5,if_neg e6] at hl;rw[of_decide_eq_true hl]
theorem fw {kinds:List Str} {ws:List V} {v:V} {r:List V} {p:Nat} {u:Und}:bz kinds ws (v::r) p u=if lies (bu kinds v) v (ws.getD p .non)=true then bz kinds ws r (if bu kinds v=lH then endAt ws p else p+1) (u.put (bu kinds v) p (ws.getD p .non)) else none:=rfl
def UAt (H:Hp) (u0 l1 l2 l3:Addr) (u:Und):Prop:=H u0=some (.dK [(Sum.inr lH,.ref l1),(Sum.inr lN,.ref l2),(Sum.inr lV,.ref l3)])∧H l1=some (.lst (u.hs.map plV))∧H l2=some (.lst u.ns)∧H l3=some (.lst u.vs)
theorem UAt.same {H H':Hp} {u0 l1 l2 l3:Addr} {u:Und} (h:UAt H u0 l1 l2 l3 u) (s:ak H H'):UAt H' u0 l1 l2 l3 u:=⟨s _ _ h.1,s _ _ h.2.1,s _ _ h.2.2.1,s _ _ h.2.2.2⟩
theorem Und.Fi (u:Und) (l:Str) (p:Nat) (x:V) {i:Nat} (h:u.hs.length≤i∧u.ns.length≤i∧u.vs.length≤i):(u.put l p x).hs.length≤i+1∧(u.put l p x).ns.length≤i+1∧(u.put l p x).vs.length≤i+1:=by
 obtain ⟨h1,h2,h3⟩:=h;unfold Und.put;by_cases c1:l=lH
 ·rw[if_pos c1];refine ⟨?_,by show u.ns.length≤_;omega,by show u.vs.length≤_;omega⟩;show (u.hs++[p]).length≤_
  rw[aa2,aag];omega
 rw[if_neg c1];by_cases c2:l=lN
 ·rw[if_pos c2];refine ⟨by show u.hs.length≤_;omega,?_,by show u.vs.length≤_;omega⟩;show (u.ns++[x]).length≤_
  rw[aa2,aag];omega
 rw[if_neg c2];by_cases c3:l=lV
 ·rw[if_pos c3];refine ⟨by show u.hs.length≤_;omega,by show u.ns.length≤_;omega,?_⟩;show (u.vs++[x]).length≤_
  rw[aa2,aag];omega
 rw[if_neg c3];exact ⟨by omega,by omega,by omega⟩
theorem UAt.get1 {H:Hp} {u0 l1 l2 l3:Addr} {u:Und} (h:UAt H u0 l1 l2 l3 u):ib H u0 (.str lH) (some (.ref l1)):=.inl ⟨_,.inr lH,.inl h.1,rfl,rfl⟩
theorem UAt.get2 {H:Hp} {u0 l1 l2 l3:Addr} {u:Und} (h:UAt H u0 l1 l2 l3 u):ib H u0 (.str lN) (some (.ref l2)):=.inl ⟨_,.inr lN,.inl h.1,rfl,rfl⟩
theorem UAt.get3 {H:Hp} {u0 l1 l2 l3:Addr} {u:Und} (h:UAt H u0 l1 l2 l3 u):ib H u0 (.str lV) (some (.ref l3)):=.inl ⟨_,.inr lV,.inl h.1,rfl,rfl⟩
theorem UAt.put1 {H:Hp} {u0 l1 l2 l3:Addr} {u:Und} (h:UAt H u0 l1 l2 l3 u) (n10:l1≠u0) (n21:l2≠l1) (n31:l3≠l1) (p:Nat) (x:V):UAt (upd H l1 (.lst (u.hs.map plV++[plV p]))) u0 l1 l2 l3 (u.put lH p x):=by
 unfold Und.put;rw[if_pos rfl];refine ⟨by rw[af n10.symm];exact h.1,?_,by rw[af n21];exact h.2.2.1,by rw[af n31];exact h.2.2.2⟩;rw[ae,aa5];rfl
theorem UAt.put2 {H:Hp} {u0 l1 l2 l3:Addr} {u:Und} (h:UAt H u0 l1 l2 l3 u) (n20:l2≠u0) (n21:l2≠l1) (n32:l3≠l2) (p:Nat) (x:V):UAt (upd H l2 (.lst (u.ns++[x]))) u0 l1 l2 l3 (u.put lN p x):=by
 unfold Und.put;rw[if_neg lets.1,if_pos rfl];exact ⟨by rw[af n20.symm];exact h.1,by rw[af n21.symm];exact h.2.1,ae,by rw[af n32];exact h.2.2.2⟩
theorem UAt.put3 {H:Hp} {u0 l1 l2 l3:Addr} {u:Und} (h:UAt H u0 l1 l2 l3 u) (n30:l3≠u0) (n31:l3≠l1) (n32:l3≠l2) (p:Nat) (x:V):UAt (upd H l3 (.lst (u.vs++[x]))) u0 l1 l2 l3 (u.put lV p x):=by
 unfold Und.put;rw[if_neg lets.2.1,if_neg lets.2.2.2.1,if_pos rfl];exact ⟨by rw[af n30.symm];exact h.1,by rw[af n31.symm];exact h.2.1,by rw[af n32.symm];exact h.2.2.1,ae⟩
theorem Und.put0 (u:Und) (p:Nat) (x:V):u.put lO p x=u:=by
 unfold Und.put;rw[if_neg lets.2.2.1,if_neg lets.2.2.2.2.1,if_neg lets.2.2.2.2.2]
theorem Ga {r:List Nat} {d m:Nat} (h:eat (d+1) r=some m):∃n,eat 1 r=some n:=by
 rw[show d+1=1+d by omega,tq] at h;cases h1:eat 1 r with
 | none=>rw[h1] at h;cases h
 | some n=>exact ⟨n,rfl⟩
structure Rl where
 name:Str
 kind:Str
 price:Int
 shape:List V
def dv (H:Hp) (a:Addr) (r:Rl):Prop:=∃(sa da:Addr) (ds:List V),H a=some (.tup [.str r.name,.str r.kind,.int r.price,.ref sa,.ref da])∧H sa=some (.tup r.shape)∧H da=some (.tup ds)
theorem dv.same {H H':Hp} {a:Addr} {r:Rl} (h:dv H a r) (s:ak H H'):dv H' a r:=by
 obtain ⟨sa,da,ds,h1,h2,h3⟩:=h;exact ⟨sa,da,ds,s _ _ h1,s _ _ h2,s _ _ h3⟩
def df (H:Hp) (ra:List Addr) (rs:List Rl):Prop:=ra.length=rs.length∧∀(i:Nat) (r:Rl),rs[i]?=some r→∃a,ra[i]?=some a∧dv H a r
theorem df.same {H H':Hp} {ra:List Addr} {rs:List Rl} (h:df H ra rs) (s:ak H H'):df H' ra rs:=⟨h.1,λi r hr=>by
 obtain ⟨a,h1,h2⟩:=h.2 i r hr;exact ⟨a,h1,h2.same s⟩⟩
def br (H:Hp) (b:Addr) (kinds:List Str) (rs:List Rl):Prop:=∃(kt rt:Addr) (ra:List Addr),H b=some (.tup [.ref kt,.ref rt])∧H kt=some (.tup (kinds.map V.str))∧H rt=some (.tup (ra.map V.ref))∧df H ra rs
theorem br.same {H H':Hp} {b:Addr} {kinds:List Str} {rs:List Rl} (h:br H b kinds rs) (s:ak H H'):br H' b kinds rs:=by
 obtain ⟨kt,rt,ra,h1,h2,h3,h4⟩:=h;exact ⟨kt,rt,ra,s _ _ h1,s _ _ h2,s _ _ h3,h4.same s⟩
structure Bk (kinds:List Str) (rs:List Rl):Prop where
 kd:Kinds kinds
 nd:(rs.map (·.name)).Nodup
 sh:∀r∈rs,(∀v∈r.shape,isW v)∧isTerm r.shape∧r.shape.length≤100
 len:rs.length≤100
 kn:kinds.Nodup
 kl:kinds.length≤60
 pr:∀r∈rs,1≤r.price
 rk:∀r∈rs,r.kind∈kinds
structure Tw (ws:List V):Prop where
 w:∀v∈ws,isW v∧v≠ia∧v≠gg
 one:isTerm ws
 len:ws.length≤1000
theorem Tw.eat {ws:List V} (h:Tw ws) {p:Nat} (hp:p < ws.length):∃n,eat 1 ((ws.drop p).map arV)=some n:=by
 obtain ⟨m,hm⟩:=yd _ 1 h.one p;rw[←ac4] at hm;have hpos:=Lx hm (by intro e;have:=congrArg ac8 e;rw[aa0,aao] at this;simp at this;omega);obtain ⟨d,rfl⟩:∃d,m=d+1:=⟨m - 1,by omega⟩;exact Ga (rh _ _ hm)
theorem Bk.name {kinds:List Str} {rs:List Rl} (h:Bk kinds rs) {i j:Nat} {r r':Rl} (hi:rs[i]?=some r) (hj:rs[j]?=some r') (e:r'.name=r.name):i=j:=by
 have h1:(rs.map (·.name))[i]?=some r.name:=by rw[aa8,hi];rfl
 have h2:(rs.map (·.name))[j]?=some r.name:=by rw[aa8,hj,←e];rfl
 obtain ⟨a1,b1⟩:=List.getElem?_eq_some_iff.mp h1;obtain ⟨a2,b2⟩:=List.getElem?_eq_some_iff.mp h2;exact (ad8 h.nd).mp (b1.trans b2.symm)
def uo (K:PySem.W.Frag):Sp:=λvs H Q _=>∃(t:Addr) (ws:List V),vs=[.ref t]∧SqT K H t ws∧(∀v∈ws,isW v)∧isTerm ws∧ws.length≤1000∧∀(l:Addr) (H':Hp),ak H H'→H l=none→H' l=some (.lst ((aav ws.length).map λq=>plV (endAt ws q)))→Q (.ref l) H'
def o7 (K:PySem.W.Frag):Sp:=λvs H Q _=>∃(st kt wt et:Addr) (sh:List V) (kinds:List Str) (ws:List V) (p:Nat),vs=[.ref kt,.ref st,.ref wt,.ref et,.int (p:Int)]∧SqT K H st sh∧SqT K H kt (kinds.map V.str)∧SqT K H wt ws∧H et=some (.lst ((aav ws.length).map λq=>plV (endAt ws q)))∧Kinds kinds∧(∀v∈sh,isW v)∧isTerm sh∧sh.length≤1000∧Tw ws∧p < ws.length∧∀H',ak H H'→told (bz kinds ws sh p ⟨[],[],[]⟩) H' Q
noncomputable def ug (ws:List V) (p:Nat):List Nat:=starts p ((ws.map arV).drop p)++[ws.length]
theorem Mq (ws:List V):ug ws ws.length=[ws.length]:=by
 unfold ug;rw[abz (by rw[aa0];exact aa4 _)];rfl
theorem Qs {ws:List V} (h:isTerm ws) {p:Nat} {x:V} (hx:ws[p]?=some x):ug ws p=p::(ug ws (p+1)).drop (arV x)∧∃t,(ug ws (p+1)).drop (arV x)=endAt ws p::t:=by
 have hp:p < ws.length:=(List.getElem?_eq_some_iff.mp hx).1;obtain ⟨m,hm⟩:=El h hx;have Sl:=vf _ _ (p+1) hm;rw[ac4] at Sl hm;have ea:(ws.map arV).getD p 0=arV x:=by rw[aad,aa8,hx];rfl
 have hst:=Jg (ws.map arV) p (by rw[aa0];exact hp);rw[ea] at hst;obtain ⟨n,hn,_⟩:=vw _ (arV x) m (by rw[ady];exact hm);have hd:=rq _ _ _ (p+1) hn;have hle:=qd _ _ _ hn;have ed:(ws.drop p).map arV=arV x::(ws.map arV).drop (p+1):=by
  rw[aaw hp,aau,ac4];rw[aa1 hp] at hx;rw[aa3 hx]
 have en:endAt ws p=p+1+n:=by
  unfold endAt;rw[ed,dj,ad1,hn];show p+(n+1)=_
  omega
 unfold ug;rw[hst,List.drop_append_of_le_length (by omega),hd];refine ⟨rfl,?_⟩;rw[adl];rw[aao,aa0] at hle;by_cases c:p+1+n < ws.length
 ·obtain ⟨t,ht⟩:=q5 ((ws.map arV).drop (p+1+n)) (p+1+n) (by intro e;have:=congrArg ac8 e;rw[aao,aa0] at this;simp at this;omega);exact ⟨t++[ws.length],by rw[ht,en];rfl⟩
 ·refine ⟨[],?_⟩;rw[abz (by rw[aa0];omega),en,show p+1+n=ws.length by omega];rfl
theorem Ai {x:V} (hx:isW x):(inV x [V.str "add",V.str "sub",V.str "mul",V.str "neg"]=true)↔0 < arV x:=by
 obtain ⟨k,rfl⟩:=hx;cases k with
 | inl i=>
  constructor
  ·intro h;exact absurd h (by simp[inV,eqV,kV])
  ·intro h;exact absurd h (by show ¬(0 < 0);decide)
 | inr z=>
  show (inV (.str z) _=true)↔0 < arS z
  constructor
  ·intro h;have:=lh h;simp only[aaq,aah,or_false,V.str.injEq] at this;rcases this with rfl | rfl | rfl | rfl <;> decide+kernel
  ·intro h;rcases qw (z:=z) h with rfl | rfl | rfl | rfl <;> decide+kernel
theorem Hj (ws:List V) {p:Nat} (hp:p≤ws.length):∃t,ug ws p=p::t:=by
 unfold ug;by_cases c:p < ws.length
 ·obtain ⟨t,ht⟩:=q5 ((ws.map arV).drop p) p (by intro e;have:=congrArg ac8 e;rw[aao,aa0] at this;simp at this;omega);exact ⟨t++[ws.length],by rw[ht];rfl⟩
 ·refine ⟨[],?_⟩;rw[abz (by rw[aa0];omega),show p=ws.length by omega];rfl
theorem Qz {n p:Nat} (h:p < n):ixN n (p:Int)=some p:=by
 unfold ixN;rw[if_pos (by omega),if_pos (by omega),abw]
theorem Nk {p:Nat} {x:V} {L:List V}:(aaj (p+1) (V.int 0)++L).set p x=aaj p (V.int 0)++x::L:=by
 rw[aee,abi,List.set_append_right _ _ (by rw[abd];exact aa4 _),abd,ad0];rfl
theorem yx:∀(r:List Nat) (p:Nat),(starts p r).length≤r.length
 | [],_=>aa4 _
 | a::r,p=>by
  show (p::(starts (p+1) r).drop a).length≤_
  have:=yx r (p+1);rw[aap,aao,aap];omega
theorem Kl (ws:List V) (p:Nat):(ug ws p).length≤ws.length+1:=by
 unfold ug;have:=yx ((ws.map arV).drop p) p;rw[aao,aa0] at this;rw[aa2,aag];omega
def m5 (H:Hp) (u0 l1 l2 l3:Addr) (u:Und):Prop:=H u0=some (.lst [.ref l1,.ref l2,.ref l3])∧H l1=some (.lst (u.hs.map plV))∧H l2=some (.lst u.ns)∧H l3=some (.lst u.vs)
theorem m5.same {H H':Hp} {u0 l1 l2 l3:Addr} {u:Und} (h:m5 H u0 l1 l2 l3 u) (s:ak H H'):m5 H' u0 l1 l2 l3 u:=⟨s _ _ h.1,s _ _ h.2.1,s _ _ h.2.2.1,s _ _ h.2.2.2⟩
theorem m5.put1 {H:Hp} {u0 l1 l2 l3:Addr} {u:Und} (h:m5 H u0 l1 l2 l3 u) (n10:u0≠l1) (n21:l2≠l1) (n31:l3≠l1) (p:Nat) (x:V):m5 (upd H l1 (.lst (u.hs.map plV++[plV p]))) u0 l1 l2 l3 (u.put lH p x):=by
 unfold Und.put;rw[if_pos rfl];refine ⟨by rw[af n10];exact h.1,?_,by rw[af n21];exact h.2.2.1,by rw[af n31];exact h.2.2.2⟩;rw[ae,aa5];rfl
theorem m5.put2 {H:Hp} {u0 l1 l2 l3:Addr} {u:Und} (h:m5 H u0 l1 l2 l3 u) (n20:u0≠l2) (n21:l2≠l1) (n32:l3≠l2) (p:Nat) (x:V):m5 (upd H l2 (.lst (u.ns++[x]))) u0 l1 l2 l3 (u.put lN p x):=by
 unfold Und.put;rw[if_neg lets.1,if_pos rfl];exact ⟨by rw[af n20];exact h.1,by rw[af n21.symm];exact h.2.1,ae,by rw[af n32];exact h.2.2.2⟩
theorem m5.put3 {H:Hp} {u0 l1 l2 l3:Addr} {u:Und} (h:m5 H u0 l1 l2 l3 u) (n30:u0≠l3) (n31:l3≠l1) (n32:l3≠l2) (p:Nat) (x:V):m5 (upd H l3 (.lst (u.vs++[x]))) u0 l1 l2 l3 (u.put lV p x):=by
 unfold Und.put;rw[if_neg lets.2.1,if_neg lets.2.2.2.1,if_pos rfl];exact ⟨by rw[af n30];exact h.1,by rw[af n31.symm];exact h.2.1,by rw[af n32.symm];exact h.2.2.1,ae⟩
theorem Kinds.out {kinds:List Str} (h:Kinds kinds) {z:Str} (hz:V.str z=ia∨V.str z=gg):inV (.str z) (kinds.map V.str)=false:=by
 cases e:inV (.str z) (kinds.map V.str) with
 | false=>rfl
 | true=>
  obtain ⟨y,hy,e2⟩:=List.mem_map.mp (lh e);obtain ⟨_,h1,h2⟩:=h y hy;rcases hz with hz | hz
  ·exact absurd (e2.trans hz) h1
  ·exact absurd (e2.trans hz) h2
theorem letH {kinds:List Str} {v:V} (h:bu kinds v=lH):inV v (kinds.map V.str)=true:=by
 unfold bu at h;obtain ⟨b1,b2,b3,_,_,_⟩:=lets;by_cases h1:v=ia
 ·rw[if_pos h1] at h;exact absurd h b1
 by_cases h2:v=gg
 ·rw[if_neg h1,if_pos h2] at h;exact absurd h b2
 rw[if_neg h1,if_neg h2] at h;cases e:inV v (kinds.map V.str) with
 | true=>rfl
 | false=>rw[e,if_neg (by decide)] at h;exact absurd h b3
theorem letO {kinds:List Str} {v:V} (h:bu kinds v=lO):v≠ia∧v≠gg:=by
 obtain ⟨_,_,_,_,b5,b6⟩:=lets;unfold bu at h;refine ⟨λe=>?_,λe=>?_⟩
 ·rw[if_pos e] at h;exact b5 h.symm
 ·subst e;by_cases h1:gg=ia
  ·rw[if_pos h1] at h;exact b5 h.symm
  ·rw[if_neg h1,if_pos rfl] at h;exact b6 h.symm
def Gy:Sp:=λ_ _ _ _=>False
def t5:Sp:=λvs H Q _=>∃v:V,vs=[v,v]∧isW v∧∀H',ak H H'→Q (.bl true) H'
def nmOk (z:Str):Prop:=arS z=0∧V.str z≠ia∧V.str z≠gg
def cx (H:Hp) (l:Addr) (zs:List Str):Prop:=H l=some (.lst (zs.map V.str))∧zs.length=60∧zs.Nodup∧∀z∈zs,nmOk z
theorem cx.same {H H':Hp} {l:Addr} {zs:List Str} (h:cx H l zs) (s:ak H H'):cx H' l zs:=⟨s _ _ h.1,h.2⟩
theorem cx.j6 {H H':Hp} {d b l:Addr} {ns:List Int} {n:Nat} {zs:List Str} (h:cx H l zs) (hD:fm H d b ns n) (s:ay d H H'):cx H' l zs:=by
 refine ⟨s _ _ (eh h.1 hD.1 ?_) h.1,h.2⟩;intro e;have:=h.2.1;cases zs with
 | nil=>cases this
 | cons z r=>
  have e:HO.lst (V.str z::r.map V.str)=HO.lst _:=e;cases e
def twW (v:V):Prop:=isW v∧v≠ia∧v≠gg
theorem twW_int (i:Int):twW (.int i):=⟨⟨Sum.inl i,rfl⟩,(λe=>nomatch e),λe=>nomatch e⟩
theorem twW_name {z:Str} (h:nmOk z):twW (.str z):=⟨⟨Sum.inr z,rfl⟩,h.2⟩
theorem twW_op {z:Str} (h:0 < arS z):twW (.str z):=⟨⟨Sum.inr z,rfl⟩,λe=>by rw[V.str.inj (show V.str z=V.str (Str.ofString "any") from e)] at h;revert h;decide+kernel,λe=>by rw[V.str.inj (show V.str z=V.str (Str.ofString "var") from e)] at h;revert h;decide+kernel⟩
theorem su {z:Str} {xs:List V} (h:V.str z∈xs):inV (.str z) xs=true:=List.any_eq_true.mpr ⟨_,h,by simp[eqV]⟩
def t4:Sp:=λvs H Q _=>∃(d nl b:Addr) (ns:List Int) (zs:List Str) (m n:Nat),vs=[.ref d,.ref nl,.int (m:Int)]∧fm H d b ns n∧cx H nl zs∧1≤m∧m≤120∧n≤50000∧∀(t:Addr) (n':Nat) (H':Hp) (ws:List V),ay d H H'→H' d=some (.lst [.ref b,.int (n':Int)])→n'≤n+m→H t=none→H' t=some (.tup ws)→Tw ws→ws.length≤m→Q (.ref t) H'
structure j3 (kinds:List Str) (sh:List V):Prop where
 w:∀v∈sh,isW v
 one:isTerm sh
 len:sh.length≤11
 few:(sh.filter λv=>!inV v (kinds.map V.str)).length≤5
def tm:Sp:=λvs H Q _=>∃(d kt b:Addr) (ns:List Int) (kinds:List Str) (n:Nat),vs=[.ref d,.ref kt]∧fm H d b ns n∧H kt=some (.tup (kinds.map V.str))∧Kinds kinds∧1≤kinds.length∧kinds.length≤20∧n≤50000∧∀(t:Addr) (n':Nat) (H':Hp) (sh:List V),ay d H H'→H' d=some (.lst [.ref b,.int (n':Int)])→n'≤n+12→H t=none→H' t=some (.tup sh)→j3 kinds sh→Q (.ref t) H'
def ub (K:PySem.W.Frag):Sp:=λvs H Q _=>∃(kt st:Addr) (kinds:List Str) (sh:List V),vs=[.ref kt,.ref st]∧H kt=some (.tup (kinds.map V.str))∧H st=some (.tup sh)∧Kinds kinds∧j3 kinds sh∧∀(t:Addr) (ds:List V) (H':Hp),ak H H'→H' t=some (.tup ds)→Q (.ref t) H'
noncomputable def isT (z:Str):Bool:=decide (z.cps.toList.head?=some 116)
noncomputable def tc (zs:List Str):Nat:=(zs.filter isT).length
theorem qr (xs ys:List Str):tc (xs++ys)=tc xs+tc ys:=by
 unfold tc;rw[aba,aa2]
noncomputable def b0 (kinds:List Str) (vs:List V):Nat:=(vs.filter λv=>!inV v (kinds.map V.str)).length
theorem lb (kinds:List Str) (xs ys:List V):b0 kinds (xs++ys)=b0 kinds xs+b0 kinds ys:=by
 unfold b0;rw[aba,aa2]
theorem xk {kinds:List Str} (hk:Kinds kinds):∀(xs:List V) (l m:Nat),(∀v∈xs,isW v)→pend l (xs.map arV)=some m→m≤l+b0 kinds xs
 | [],l,m,_,h=>by
  have:l=m:=aa3 h;omega
 | v::r,0,m,_,h=>by cases h
 | v::r,l+1,m,hw,h=>by
  have h:pend (l+arV v) (r.map arV)=some m:=h;have ih:=xk hk r _ _ (λx hx=>hw x (aaa _ hx)) h;have e:b0 kinds (v::r)=b0 kinds [v]+b0 kinds r:=lb kinds [v] r;have a2:=xi v;rcases abn (arV v) with h0 | h0
  ·omega
  ·have:b0 kinds [v]=1:=by
    unfold b0;rcases dk (kinds:=kinds) (hw v aa9) with ⟨rfl,_⟩ | ⟨rfl,_⟩ | ⟨⟨z,hz,rfl⟩,_⟩ | ⟨_,hno⟩
    ·rw[qh] at h0;cases h0
    ·rw[qc] at h0;cases h0
    ·have:=(hk z hz).1;have h0:0 < arS z:=h0;omega
    ·rw[aan,hno];rfl
   omega
theorem Eh {n:Nat} (h:n≤11):(Ge (.int (n:Int))).length≤2∧wordV (.int (n:Int)):=by
 have a:∀n:Fin 12,(Ge (.int ((n.1:Nat):Int))).length≤2:=by decide+kernel
 have b:∀n:Fin 12,(((n.1:Nat):Int)).natAbs.log2 < 1920:=by decide+kernel
 exact ⟨a ⟨n,by omega⟩,b ⟨n,by omega⟩⟩
structure DI (kinds:List Str) (sh:List V) (p:Nat) (zs fs:List Str):Prop where
 pd:pend zs.length ((sh.drop p).map arV)=some 0
 bf:pend 1 ((sh.take p).map arV)=some zs.length
 three:fs.length+tc zs=3
 un:tc zs≤b0 kinds (sh.drop p)
 zl:∀z∈zs,1≤z.length∧z.length≤100
 fl:∀z∈fs,isT z=true∧1≤z.length∧z.length≤100
theorem DI.start {kinds:List Str} {sh:List V} (h:j3 kinds sh):DI kinds sh sh.length [] [Str.ofString "t3",Str.ofString "t2",Str.ofString "t1"]:=by
 refine ⟨by rw[aca];rfl,by rw[abm];exact h.one,rfl,aa7 _,(λ_ h=>nomatch h),λz hz=>?_⟩;simp only[aaq,aah,or_false] at hz;rcases hz with rfl | rfl | rfl <;> decide+kernel
theorem DI.less {kinds:List Str} {sh:List V} {p:Nat} {zs fs:List Str} (h:DI kinds sh (p+1) zs fs) {v:V} (hv:sh[p]?=some v):arV v≤zs.length∧pend (zs.length - arV v+1) ((sh.drop p).map arV)=some 0∧pend 1 ((sh.take p).map arV)=some (zs.length - arV v+1)∧sh.drop p=v::sh.drop (p+1):=by
 have hp:p < sh.length:=(List.getElem?_eq_some_iff.mp hv).1;have ed:sh.drop p=v::sh.drop (p+1):=by
  rw[aaw hp];congr 1
  rw[aa1 hp] at hv;exact aa3 hv
 have et:sh.take (p+1)=sh.take p++[v]:=by rw[ab7,hv];rfl
 have bf:=h.bf;rw[et,aa5,n8] at bf;cases hq:pend 1 ((sh.take p).map arV) with
 | none=>rw[hq] at bf;cases bf
 | some m=>
  rw[hq] at bf;have bf:pend m [arV v]=some zs.length:=bf;cases m with
  | zero=>cases bf
  | succ m=>
   rw[Cn _ _ (Nat.succ_pos _)] at bf;have e:=aa3 bf;have hm:m+1=zs.length - arV v+1:=by omega
   refine ⟨by omega,?_,by rw[hm],ed⟩;rw[ed,aau];show pend (zs.length - arV v+arV v) ((sh.drop (p+1)).map arV)=some 0
   rw[show zs.length - arV v+arV v=zs.length by omega];exact h.pd
theorem DI.hole {kinds:List Str} {sh:List V} {p:Nat} {zs fs:List Str} (h:DI kinds sh (p+1) zs fs) {v:V} (hv:sh[p]?=some v) (a0:arV v=0) {z:Str} (hz:isT z=false) (hl:1≤z.length∧z.length≤100):DI kinds sh p (zs++[z]) fs:=by
 obtain ⟨_,h2,h3,ed⟩:=h.less hv;rw[a0,acm] at h2 h3;have tz:tc (zs++[z])=tc zs:=by
  rw[qr];unfold tc;rw[aan,hz];rfl
 refine ⟨by rw[aa2];exact h2,by rw[aa2];exact h3,by rw[tz];exact h.three,?_,λy hy=>?_,h.fl⟩
 ·rw[tz,ed];have:=lb kinds [v] (sh.drop (p+1));have e:b0 kinds (v::sh.drop (p+1))=b0 kinds [v]+b0 kinds (sh.drop (p+1)):=this;have:=h.un;omega
 ·rcases List.mem_append.mp hy with g | g
  ·exact h.zl y g
  ·rw[List.mem_singleton.mp g];exact hl
theorem DI.put {kinds:List Str} {sh:List V} {p:Nat} {zs fs zs0 rd:List Str} (hk:Kinds kinds) (ok:j3 kinds sh) (h:DI kinds sh (p+1) zs fs) {v:V} (hv:sh[p]?=some v) (hn:inV v (kinds.map V.str)=false) (e:zs=zs0++rd) (hr:rd.length=arV v):
  (∀z fs2,fs2.length+1=fs.length+tc rd→isT z=true→1≤z.length→z.length≤100→(∀y∈fs2,isT y=true∧1≤y.length∧y.length≤100)→DI kinds sh p (zs0++[z]) fs2)∧
  (∀z fs2,fs2.length=fs.length+tc rd→isT z=false→1≤z.length→z.length≤100→(∀y∈fs2,isT y=true∧1≤y.length∧y.length≤100)→DI kinds sh p (zs0++[z]) fs2)∧(0 < p→1≤fs.length+tc rd):=by
 obtain ⟨h1,h2,h3,ed⟩:=h.less hv;subst e;rw[aa2,hr,acz] at h2 h3;have th:=h.three;have un:=h.un;rw[qr] at th un;have uv:b0 kinds (sh.drop p)=1+b0 kinds (sh.drop (p+1)):=by
  rw[ed];have:=lb kinds [v] (sh.drop (p+1));have e1:b0 kinds [v]=1:=by
   unfold b0;rw[aan,hn];rfl
  have e:b0 kinds (v::sh.drop (p+1))=b0 kinds [v]+b0 kinds (sh.drop (p+1)):=this;omega
 have zl0:∀y∈zs0,1≤y.length∧y.length≤100:=λy hy=>h.zl y (ac6 _ hy);refine ⟨λz fs2 hf hz l1 l2 hfl=>⟨by rw[aa2];exact h2,by rw[aa2];exact h3,?_,?_,λy hy=>?_,hfl⟩,λz fs2 hf hz l1 l2 hfl=>⟨by rw[aa2];exact h2,by rw[aa2];exact h3,?_,?_,λy hy=>?_,hfl⟩,λhp=>?_⟩
 ·rw[qr,show tc [z]=1 by unfold tc;rw[aan,hz];rfl];omega
 ·rw[qr,show tc [z]=1 by unfold tc;rw[aan,hz];rfl,uv];omega
 ·rcases List.mem_append.mp hy with g | g
  ·exact zl0 y g
  ·rw[List.mem_singleton.mp g];exact ⟨l1,l2⟩
 ·rw[qr,show tc [z]=0 by unfold tc;rw[aan,hz];rfl];omega
 ·rw[qr,show tc [z]=0 by unfold tc;rw[aan,hz];rfl,uv];omega
 ·rcases List.mem_append.mp hy with g | g
  ·exact zl0 y g
  ·rw[List.mem_singleton.mp g];exact ⟨l1,l2⟩
 ·have u5:=ok.few;have hs:b0 kinds sh≤5:=u5;have es:b0 kinds sh=b0 kinds (sh.take p)+b0 kinds (sh.drop p):=by
   rw[←lb,ac1]
  have pu:=xk hk (sh.take p) 1 _ (λx hx=>ok.w x (abv hx)) h3;have tl:tc zs0≤zs0.length:=ab8 _ _;omega
theorem P6 {kinds:List Str} (hk:Kinds kinds) {v:V} (hv:isW v) (h:inV v (kinds.map V.str)=true):arV v=0:=by
 obtain ⟨b1,b2,b3,_,_,_⟩:=lets;rcases dk (kinds:=kinds) hv with ⟨rfl,_⟩ | ⟨rfl,_⟩ | ⟨⟨z,hz,rfl⟩,_⟩ | ⟨_,hno⟩
 ·exact qh
 ·exact qc
 ·exact (hk z hz).1
 ·rw[hno] at h;cases h
theorem gh (a b:Str):(a++b).cps.toList=a.cps.toList++b.cps.toList:=by
 show (a.cps++b.cps).toList=_
 exact Array.toList_append
theorem isT_h (tx:Str):isT (Str.ofString "h"++tx)=false:=by
 unfold isT;rw[gh,show (Str.ofString "h").cps.toList=[104] by decide+kernel];rfl
theorem Q4:isT (Str.ofString "out")=false:=by decide+kernel
theorem K5 {z:Str} (h:1≤z.length):∃c,atI z.cps.toList 0=some c∧((V.str ⟨#[c]⟩=V.str (Str.ofString "t"))↔isT z=true):=by
 have hl:z.cps.toList.length=z.length:=rfl;cases e:z.cps.toList with
 | nil=>rw[e] at hl;simp at hl;omega
 | cons c r=>
  refine ⟨c,bb (j:=0) rfl,?_⟩;unfold isT;rw[e];have et:Str.ofString "t"=⟨#[116]⟩:=by decide+kernel
  rw[et];constructor
  ·intro h;have:(#[c]:Array Nat)=#[116]:=congrArg Str.cps (V.str.inj h);have:c=116:=by simpa using this
   subst this;rfl
  ·intro h;have:c=116:=by simpa using h
   subst this;rfl
theorem Hk {v:V} (hv:isW v):((if inV v [V.str "add",V.str "sub",V.str "mul",V.str "neg"]=true then (1:Int) else 0)+if inV v [V.str "add",V.str "sub",V.str "mul"]=true then 1 else 0)=(arV v:Int):=by
 have three:=B4 hv;have four:=Ai hv;have a2:=xi v;by_cases c:0 < arV v
 ·rw[if_pos (four.mpr c)];by_cases c2:arV v=2
  ·rw[if_pos (three.mpr c2)];omega
  ·rw[if_neg λe=>c2 (three.mp e)];omega
 ·rw[if_neg λe=>c (four.mp e),if_neg λe=>by have:=three.mp e;omega];omega
def Ak:Sp:=λvs H Q _=>∃(d nl b:Addr) (ns:List Int) (zs:List Str) (n:Nat),vs=[.ref d,.ref nl]∧fm H d b ns n∧cx H nl zs∧n≤1000∧∀(bt:Addr) (n':Nat) (H':Hp) (kinds:List Str) (rs:List Rl),ay d H H'→H' d=some (.lst [.ref b,.int (n':Int)])→n'≤n+1000→br H' bt kinds rs→Bk kinds rs→1≤rs.length→(∀r∈rs,r.name∈zs)→(∀z∈kinds,z∈zs)→Q (.ref bt) H'
def fk (H:Hp) (sa:List Addr) (kinds:List Str) (ps:List (Str×List V)):Prop:=sa.length=ps.length∧∀(i:Nat) (k:Str) (sh:List V),ps[i]?=some (k,sh)→(j3 kinds sh∧k∈kinds)∧∃a s:Addr,sa[i]?=some a∧H a=some (.tup [.str k,.ref s])∧H s=some (.tup sh)
theorem fk.nil (H:Hp) (kinds:List Str):fk H [] kinds []:=⟨rfl,λi k sh h=>by simp at h⟩
theorem fk.j6 {H H':Hp} {d b:Addr} {ns:List Int} {n:Nat} {sa:List Addr} {kinds:List Str} {ps:List (Str×List V)} (h:fk H sa kinds ps) (hD:fm H d b ns n) (s:ay d H H'):fk H' sa kinds ps:=⟨h.1,λi k sh hi=>by
 obtain ⟨ok,a,t,h1,h2,h3⟩:=h.2 i k sh hi;exact ⟨ok,a,t,h1,s _ _ (eh h2 hD.1 (by intro e;cases e)) h2,s _ _ (eh h3 hD.1 (by intro e;cases e)) h3⟩⟩
theorem fk.same {H H':Hp} {sa:List Addr} {kinds:List Str} {ps:List (Str×List V)} (h:fk H sa kinds ps) (s:ak H H'):fk H' sa kinds ps:=⟨h.1,λi k sh hi=>by
 obtain ⟨ok,a,t,h1,h2,h3⟩:=h.2 i k sh hi;exact ⟨ok,a,t,h1,s _ _ h2,s _ _ h3⟩⟩
theorem fk.snoc {H:Hp} {sa:List Addr} {kinds:List Str} {ps:List (Str×List V)} (h:fk H sa kinds ps) {a s:Addr} {k:Str} {sh:List V} (ok:j3 kinds sh∧k∈kinds) (h1:H a=some (.tup [.str k,.ref s])) (h2:H s=some (.tup sh)):fk H (sa++[a]) kinds (ps++[(k,sh)]):=by
 refine ⟨by rw[aa2,aa2,h.1];rfl,λi k' sh' hi=>?_⟩;by_cases c:i < ps.length
 ·rw[aaf c] at hi;obtain ⟨ok',a',t',g1,g2,g3⟩:=h.2 i k' sh' hi;exact ⟨ok',a',t',by rw[aaf (by rw[h.1];exact c)];exact g1,g2,g3⟩
 ·rw[aab (by omega)] at hi;have hz:i - ps.length=0:=by
   rcases abn (i - ps.length) with g | g
   ·exact g
   ·rw[abe (by rw[aag];omega)] at hi;cases hi
  rw[hz] at hi;cases hi
  exact ⟨ok,a,s,by rw[aab (by rw[h.1];omega),h.1,hz];rfl,h1,h2⟩
theorem Je {kinds:List Str} (hk:Kinds kinds) {z:Str} (hz:z∈kinds):j3 kinds [.str z]:=by
 refine ⟨λv hv=>by rw[List.mem_singleton.mp hv];exact ⟨Sum.inr z,rfl⟩,?_,by show (1:Nat)≤11;decide,aar (ab8 _ _) (by show (1:Nat)≤5;decide)⟩;show pend 1 [arS z]=some 0
 rw[(hk z hz).1];rfl
theorem Jr (kinds:List Str):j3 kinds [ia]:=⟨λv hv=>by rw[List.mem_singleton.mp hv];exact ⟨Sum.inr _,rfl⟩,by show pend 1 [arV ia]=some 0;rw[qh];rfl,by show (1:Nat)≤11;decide,aar (ab8 _ _) (by show (1:Nat)≤5;decide)⟩
theorem Kw (kinds:List Str):j3 kinds [gg]:=⟨λv hv=>by rw[List.mem_singleton.mp hv];exact ⟨Sum.inr _,rfl⟩,by show pend 1 [arV gg]=some 0;rw[qc];rfl,by show (1:Nat)≤11;decide,aar (ab8 _ _) (by show (1:Nat)≤5;decide)⟩
theorem Jw {kinds:List Str} (hk:Kinds kinds) {z:Str} (hz:z∈kinds):j3 kinds [.str (Str.ofString "add"),.str z,.str z]:=by
 refine ⟨λv hv=>?_,?_,by show (3:Nat)≤11;decide,aar (ab8 _ _) (by show (3:Nat)≤5;decide)⟩
 ·simp only[aaq,aah,or_false] at hv;rcases hv with rfl | rfl | rfl <;> exact ⟨Sum.inr _,rfl⟩
 ·show pend 1 [arS (Str.ofString "add"),arS z,arS z]=some 0
  rw[(hk z hz).1,show arS (Str.ofString "add")=2 by decide+kernel];rfl
theorem Lk {kinds:List Str} (hk:Kinds kinds) {z:Str} (hz:z∈kinds):j3 kinds [.str (Str.ofString "neg"),.str z]:=by
 refine ⟨λv hv=>?_,?_,by show (2:Nat)≤11;decide,aar (ab8 _ _) (by show (2:Nat)≤5;decide)⟩
 ·simp only[aaq,aah,or_false] at hv;rcases hv with rfl | rfl <;> exact ⟨Sum.inr _,rfl⟩
 ·show pend 1 [arS (Str.ofString "neg"),arS z]=some 0
  rw[(hk z hz).1,show arS (Str.ofString "neg")=1 from Aw];rfl
theorem dv.keep {H H':Hp} {a:Addr} {r:Rl} (h:dv H a r) (t:∀{a:Addr} {xs:List V},H a=some (.tup xs)→H' a=some (.tup xs)):dv H' a r:=by
 obtain ⟨sa,da,ds,h1,h2,h3⟩:=h;exact ⟨sa,da,ds,t h1,t h2,t h3⟩
theorem df.keep {H H':Hp} {ra:List Addr} {rs:List Rl} (h:df H ra rs) (t:∀{a:Addr} {xs:List V},H a=some (.tup xs)→H' a=some (.tup xs)):df H' ra rs:=⟨h.1,λi r hr=>by
 obtain ⟨a,h1,h2⟩:=h.2 i r hr;exact ⟨a,h1,h2.keep t⟩⟩
theorem fk.keep {H H':Hp} {sa:List Addr} {kinds:List Str} {ps:List (Str×List V)} (h:fk H sa kinds ps) (t:∀{a:Addr} {xs:List V},H a=some (.tup xs)→H' a=some (.tup xs)):fk H' sa kinds ps:=⟨h.1,λi k sh hi=>by
 obtain ⟨ok,a,s,h1,h2,h3⟩:=h.2 i k sh hi;exact ⟨ok,a,s,h1,t h2,t h3⟩⟩
theorem kr {H H':Hp} {d b:Addr} {ns:List Int} {n:Nat} (hD:fm H d b ns n) (s:ay d H H') {a:Addr} {xs:List V} (h:H a=some (.tup xs)):H' a=some (.tup xs):=s _ _ (eh h hD.1 (by intro e;cases e)) h
theorem df.snoc {H:Hp} {ra:List Addr} {rs:List Rl} (h:df H ra rs) {a:Addr} {r:Rl} (hr:dv H a r):df H (ra++[a]) (rs++[r]):=by
 refine ⟨by rw[aa2,aa2,h.1];rfl,λi r' hi=>?_⟩;by_cases c:i < rs.length
 ·rw[aaf c] at hi;obtain ⟨a',g1,g2⟩:=h.2 i r' hi;exact ⟨a',by rw[aaf (by rw[h.1];exact c)];exact g1,g2⟩
 ·rw[aab (by omega)] at hi;have hz:i - rs.length=0:=by
   rcases abn (i - rs.length) with g | g
   ·exact g
   ·rw[abe (by rw[aag];omega)] at hi;cases hi
  rw[hz] at hi;cases hi
  exact ⟨a,by rw[aab (by rw[h.1];omega),h.1,hz];rfl,hr⟩
theorem df.rot {H:Hp} {ra:List Addr} {rs:List Rl} (h:df H ra rs) (k:Nat):df H (ra.drop k++ra.take k) (rs.drop k++rs.take k):=by
 have h1:=h.1;refine ⟨by rw[aa2,aa2,aao,aao,ab0,ab0,h1],λi r hi=>?_⟩;by_cases c:i < rs.length - k
 ·rw[aaf (by rw[aao];exact c),ado] at hi;rw[aaf (by rw[aao,h1];exact c),ado];exact h.2 _ r hi
 ·rw[aab (by rw[aao];omega),aao] at hi;rw[aab (by rw[aao,h1];omega),aao,h1];by_cases c2:i - (rs.length - k) < k
  ·rw[acx c2] at hi;rw[acx c2];exact h.2 _ r hi
  ·rw[abe (by rw[ab0];omega)] at hi;cases hi
theorem bk_rot {kinds zs:List Str} {rs:List Rl} (hk:Kinds kinds) (kn:kinds.Nodup) (kl:kinds.length≤60) (nd:zs.Nodup) (e:rs.map (·.name)=(zs.drop 8).take rs.length) (so:∀r∈rs,j3 kinds r.shape∧1≤r.price∧r.kind∈kinds) (hl:rs.length≤40) (k:Nat):Bk kinds (rs.drop k++rs.take k):=by
 have hp:(rs.drop k++rs.take k).Perm rs:=List.perm_append_comm.trans (by rw[ac1]);refine ⟨hk,(hp.map (·.name)).nodup_iff.mpr ?_,λr hr=>?_,by rw[hp.length_eq];omega,kn,kl,λr hr=>(so r (hp.mem_iff.mp hr)).2.1,λr hr=>(so r (hp.mem_iff.mp hr)).2.2⟩
 ·rw[e];exact (nd.sublist (List.drop_sublist 8 zs)).sublist (ads _ _)
 ·have o:=(so r (hp.mem_iff.mp hr)).1;exact ⟨o.w,o.one,by have:=o.len;omega⟩
theorem Hi {zs:List Str} {rs:List Rl} {n:Nat} (e:rs.map (·.name)=(zs.drop 8).take n) (k:Nat):∀r∈rs.drop k++rs.take k,r.name∈zs:=λr hr=>by
 have hm:r∈rs:=(List.mem_append.mp hr).elim aef abv;have h:r.name∈rs.map (·.name):=List.mem_map.mpr ⟨r,hm,rfl⟩;rw[e] at h;exact aef (abv h)
theorem Ec {zs:List Str} {rs:List Rl} {r:Rl} {i:Nat} (e:rs.map (·.name)=(zs.drop 8).take i) (hz:zs[8+i]?=some r.name):(rs++[r]).map (·.name)=(zs.drop 8).take (i+1):=by
 rw[aa5,e,ab7,ado,hz];rfl
def gr (z:Str):Prop:=(∀c∈z.cps.toList,c < 128)∧z.length≤1000
def ow:Sp:=λvs H Q _=>∃(d b:Addr) (ns:List Int) (n:Nat),vs=[.ref d]∧fm H d b ns n∧n≤1000∧∀(l:Addr) (H':Hp) (zs:List Str),ay d H H'→H' d=some (.lst [.ref b,.int ((n+1:Nat):Int)])→cx H' l zs→(∀z∈zs,gr z)→Q (.ref l) H'
noncomputable abbrev Bo:Str:=Str.ofString "abcdefghijklmnopqrstuvwxyz"
noncomputable def ltr (i:Int):Str:=⟨#[97+(i % 26).toNat]⟩
theorem fu (i:Int):(ltr i).cps.toList=[97+(i % 26).toNat]:=rfl
theorem dq (i:Int):(ltr i).length=1:=rfl
theorem ltr_at (i:Int):atI Bo.cps.toList (i % 26)=some (97+(i % 26).toNat):=by
 have a:∀j:Fin 26,Bo.cps.toList[j.1]?=some (97+j.1):=by decide+kernel
 obtain ⟨j,hj,e⟩:∃j:Nat,j < 26∧i % 26=(j:Int):=⟨(i % 26).toNat,by omega,by omega⟩;rw[e,abw];exact bb (a ⟨j,hj⟩)
theorem gu {i:Int} {H:Hp} {Q:VK} (q:Q (.str (ltr i)) H):rIxS (.str Bo) (.int (i % 26)) H Q:=
 ⟨Bo,i % 26,_,rfl,rfl,by rw[sizeLine_eq];decide+kernel,ltr_at i,q⟩
noncomputable def dg:List Str:=["add","sub","mul","neg","any","var","put","load","out"]
noncomputable def ownC:List (List Nat):=dg.map λz=>z.cps.toList
theorem qk {a b:Str} (h:a.cps.toList=b.cps.toList):a=b:=by
 cases a;cases b
 congr 1
 exact Array.toList_inj.mp h
theorem qm {z:Str}:z∈dg↔z.cps.toList∈ownC:=by
 unfold ownC;constructor
 ·exact λh=>List.mem_map.mpr ⟨z,h,rfl⟩
 ·intro h;obtain ⟨y,hy,e⟩:=List.mem_map.mp h;rw[←qk e];exact hy
theorem own_ok {z:Str} (h:z∉dg):nmOk z:=by
 refine ⟨?_,λe=>h ?_,λe=>h ?_⟩
 ·rcases abn (arS z) with g | g
  ·exact g
  ·exfalso
   apply h
   rcases qw g with rfl | rfl | rfl | rfl
   ·exact aa9
   ·exact aaa _ aa9
   ·exact aaa _ (aaa _ aa9)
   ·exact aaa _ (aaa _ (aaa _ aa9))
 ·rw[V.str.inj (show V.str z=V.str (Str.ofString "any") from e)];decide+kernel
 ·rw[V.str.inj (show V.str z=V.str (Str.ofString "var") from e)];decide+kernel
noncomputable def nm0 (m:Int) (tail:Str) (k:Nat):Str:=ltr (m+(k:Int))++ltr (m / 7+(k:Int) / 26)++tail
noncomputable def nm1 (m:Int) (k:Nat):Str:=dg.getD (((k:Int)+m) % 9).toNat ""++ltr (m / 9+(k:Int) / 9)
noncomputable def nm2 (m:Int) (k:Nat):Str:=mh (ltr m) (1+(k:Int) % 3).toNat++mh (ltr (m+1)) ((k:Int) / 3 % 4).toNat++ltr (m+2+(k:Int) / 12)
noncomputable def rf (m:Int):Str:=mh (ltr (m / 26)) (m / 676 % 6).toNat
noncomputable def nmX (c:Int) (k:Nat):Str:=if c % 3=2 then nm2 (c / 3) k else if c % 3=1 then nm1 (c / 3) k else nm0 (c / 3) (rf (c / 3)) k
noncomputable def nmP (c:Int) (k:Nat):Str:=if nmX c k∈dg then nmX c k++"xq" else nmX c k
theorem i8 (i:Int) (n:Nat):(mh (ltr i) n).cps.toList=aaj n (97+(i % 26).toNat):=by
 rw[Dy,fu];induction n with
 | zero=>rfl
 | succ n ih=>rw[ab5,abx,ih,ab5];rfl
theorem Hz (m:Int) (t:Str) (k:Nat):(nm0 m t k).cps.toList=(97+((m+(k:Int)) % 26).toNat)::(97+((m / 7+(k:Int) / 26) % 26).toNat)::t.cps.toList:=by
 unfold nm0;rw[gh,gh,fu,fu];rfl
theorem add_mod {n a b c:Int} (h:(a+b) % n=(a+c) % n):(b - c) % n=0:=by
 have h:=Int.emod_eq_emod_iff_emod_sub_eq_zero.mp h;rw[show a+b - (a+c)=b - c by omega] at h;exact h
theorem ua {a b:Int} {n:Nat} (hn:0 < n) (h:97+(a % (n:Int)).toNat=97+(b % (n:Int)).toNat):a % (n:Int)=b % (n:Int):=by
 have h1:=aat a (show (n:Int)≠0 by omega);have h2:=aat b (show (n:Int)≠0 by omega);generalize a % (n:Int)=x at h h1;generalize b % (n:Int)=y at h h2;omega
theorem Qp {m:Int} {t:Str} {k k':Nat} (h:k < 60) (h':k' < 60) (e:nm0 m t k=nm0 m t k'):k=k':=by
 have e:=congrArg (λz:Str=>z.cps.toList) e;simp only[Hz,ace] at e;obtain ⟨e1,e2,_⟩:=e;have a1:=add_mod (ua (n:=26) (by decide) e1);have a2:=add_mod (ua (n:=26) (by decide) e2);clear e1 e2;omega
theorem Hv:dg.Nodup:=by decide+kernel
theorem Pf {m:Int} {k k':Nat} (h:k < 60) (h':k' < 60) (e:nm1 m k=nm1 m k'):k=k':=by
 unfold nm1 at e;have e:=congrArg (λz:Str=>z.cps.toList) e;simp only[gh,fu] at e;obtain ⟨e1,e2⟩:=af0 e rfl;have e1:=qk e1;have b1:(((k:Int)+m) % 9).toNat < dg.length:=by show _ < 9;omega
 have b2:(((k':Int)+m) % 9).toNat < dg.length:=by show _ < 9;omega
 rw[aad,aad,aa1 b1,aa1 b2] at e1;have e3:=(ad8 Hv).mp (show dg[(((k:Int)+m) % 9).toNat]=dg[(((k':Int)+m) % 9).toNat] from e1);simp only[ace,and_true] at e2;have a2:=add_mod (ua (n:=26) (by decide) e2);have h1:=aat ((k:Int)+m) (show (9:Int)≠0 by decide);have h2:=aat ((k':Int)+m) (show (9:Int)≠0 by decide);have e4:((k:Int)+m) % 9=((k':Int)+m) % 9:=by
  generalize ((k:Int)+m) % 9=x at e3 h1;generalize ((k':Int)+m) % 9=y at e3 h2;clear a2 h h';omega
 rw[Int.add_comm,Int.add_comm (k':Int)] at e4;have a1:=add_mod e4;clear e1 e2 e3 e4 b1 b2 h1 h2 e;omega
theorem yy (m:Int) (k:Nat):(nm2 m k).cps.toList=aaj (1+(k:Int) % 3).toNat (97+(m % 26).toNat)++(aaj ((k:Int) / 3 % 4).toNat (97+((m+1) % 26).toNat)++[97+((m+2+(k:Int) / 12) % 26).toNat]):=by
 unfold nm2;rw[gh,gh,i8,i8,fu,abi]
theorem Oe {m:Int} {k k':Nat} (h:k < 60) (h':k' < 60) (e:nm2 m k=nm2 m k'):k=k':=by
 have e:=congrArg (λz:Str=>z.cps.toList) e;simp only[yy] at e;have ab:97+((m+1) % 26).toNat≠97+(m % 26).toNat:=by omega
 have ac:∀k:Nat,k < 60→97+((m+2+(k:Int) / 12) % 26).toNat≠97+(m % 26).toNat:=λk h=>by omega
 have bc:∀k:Nat,k < 60→97+((m+2+(k:Int) / 12) % 26).toNat≠97+((m+1) % 26).toNat:=λk h=>by omega
 have c1:=congrArg (List.count (97+(m % 26).toNat)) e;have c2:=congrArg (List.count (97+((m+1) % 26).toNat)) e;have c3:=congrArg List.getLast? e;rw[abq,abq,abq,abq,ac7,ac7,acp,acp,acq,acq,if_neg (by simpa using ab),if_neg (by simpa using ac k h),if_neg (by simpa using ab),if_neg (by simpa using ac k' h')] at c1;rw[abq,abq,abq,abq,ac7,ac7,acp,acp,acq,acq,if_neg (by simpa using ab.symm),if_neg (by simpa using bc k h),if_neg (by simpa using ab.symm),if_neg (by simpa using bc k' h')] at c2;rw[←abi,←abi,aeg,aeg] at c3;have c3:=aa3 c3;rw[Int.add_assoc,Int.add_assoc m 2] at c3;have a3:=add_mod (ua (n:=26) (by decide) c3);clear c3 ab ac bc e;omega
theorem Nw (m:Int) (k:Nat):nm1 m k∉dg:=by
 intro h;have h:=qm.mp h;unfold nm1 at h;have b1:(((k:Int)+m) % 9).toNat < dg.length:=by show _ < 9;omega
 rw[gh,fu,aad,aa1 b1] at h;have a:∀x∈ownC,x.dropLast∉ownC:=by decide+kernel
 apply a _ h
 rw[aed];exact qm.mp (ab3 b1)
theorem P4 {m:Int} {k:Nat} (hk:k < 60):nm2 m k∉dg:=by
 intro h;have h:=qm.mp h;rw[yy] at h;have a:∀x∈ownC,3≤x.length∧x.getD 1 0≠x.getD 0 0∧x.getD 1 0≠x.getD 0 0+1∧(x.getD 0 0=122→False):=by decide+kernel
 obtain ⟨i,hi⟩:∃i,(1+(k:Int) % 3).toNat=i+1:=⟨((k:Int) % 3).toNat,by omega⟩;obtain ⟨a1,a2,a3,a4⟩:=a _ h;rw[hi,ab5] at a1 a2 a3 a4;cases i with
 | succ i=>
  rw[ab5] at a2;exact a2 rfl
 | zero=>
  cases hj:((k:Int) / 3 % 4).toNat with
  | zero=>
   rw[hj] at a1;simp at a1
  | succ j=>
   rw[hj,ab5] at a3;simp at a3 a4;omega
theorem zt {z:Str} (h:z∈dg):z.length≤4∧3≤z.length:=by
 have a:∀z∈dg,z.length≤4∧3≤z.length:=by decide+kernel
 exact a z h
theorem Ab:(Str.length "xq")=2:=by decide+kernel
theorem Fo {c:Int} {k k':Nat} (h:k < 60) (h':k' < 60) (e:nmX c k=nmX c k'):k=k':=by
 unfold nmX at e;by_cases c2:c % 3=2
 ·rw[if_pos c2,if_pos c2] at e;exact Oe h h' e
 rw[if_neg c2,if_neg c2] at e;by_cases c1:c % 3=1
 ·rw[if_pos c1,if_pos c1] at e;exact Pf h h' e
 rw[if_neg c1,if_neg c1] at e;exact Qp h h' e
theorem G8 {c:Int} {k:Nat} (h:k < 60) (e:nmX c k∈dg) (j:Nat):(nmX c j).length=(nmX c k).length:=by
 unfold nmX at e ⊢;by_cases c2:c % 3=2
 ·rw[if_pos c2] at e;exact absurd e (P4 h)
 rw[if_neg c2] at e;rw[if_neg c2,if_neg c2];by_cases c1:c % 3=1
 ·rw[if_pos c1] at e;exact absurd e (Nw _ _)
 rw[if_neg c1,if_neg c1];unfold nm0;rw[Str.length_append,Str.length_append,Str.length_append,Str.length_append,dq,dq,dq,dq]
theorem Oi {c:Int} {k k':Nat} (h:k < 60) (h':k' < 60) (e:nmP c k=nmP c k'):k=k':=by
 unfold nmP at e;have x2:=Ab;by_cases o:nmX c k∈dg
 ·rw[if_pos o] at e;have l1:=G8 h o k';have e2:=congrArg Str.length e;by_cases o':nmX c k'∈dg
  ·rw[if_pos o'] at e;have e:=congrArg (λz:Str=>z.cps.toList) e;simp only[gh] at e;exact Fo h h' (qk (af0 e rfl).1)
  ·rw[if_neg o',Str.length_append] at e2;omega
 ·rw[if_neg o] at e;by_cases o':nmX c k'∈dg
  ·have l1:=G8 h' o' k;rw[if_pos o'] at e;have e2:=congrArg Str.length e;rw[Str.length_append] at e2;omega
  ·rw[if_neg o'] at e;exact Fo h h' e
theorem nmP_ok (c:Int) (k:Nat):nmOk (nmP c k):=by
 apply own_ok
 unfold nmP;by_cases o:nmX c k∈dg
 ·rw[if_pos o];intro h;have a:=(zt h).1;have b:=(zt o).2;rw[Str.length_append,Ab] at a;omega
 ·rw[if_neg o];exact o
theorem Dw {H:Hp} {l:Addr} {c:Int} (h:H l=some (.lst ((aav 60).map λk=>V.str (nmP c k)))):cx H l ((aav 60).map (nmP c)):=by
 refine ⟨by rw[ack];exact h,by rw[aa0,ac5],?_,λz hz=>?_⟩
 ·refine List.pairwise_map.mpr (List.Pairwise.imp_of_mem ?_ List.nodup_range);intro a b ha hb n e;exact n (Oi (List.mem_range.mp ha) (List.mem_range.mp hb) e)
 ·obtain ⟨k,_,rfl⟩:=List.mem_map.mp hz;exact nmP_ok c k
theorem Fb (m m':Int) (k:Nat):(nm0 m (rf m') k).length≤100:=by
 unfold nm0 rf;rw[Str.length_append,Str.length_append,dq,dq];have e:(mh (ltr (m' / 26)) (m' / 676 % 6).toNat).length=(mh (ltr (m' / 26)) (m' / 676 % 6).toNat).cps.toList.length:=rfl;rw[e,i8,abd];omega
theorem ky (i:Int) (n:Nat):(mh (ltr i) n).length=n:=by
 have e:(mh (ltr i) n).length=(mh (ltr i) n).cps.toList.length:=rfl;rw[e,i8,abd]
theorem Gh (m:Int) (k:Nat):(nm1 m k).length≤100:=by
 unfold nm1;have b1:(((k:Int)+m) % 9).toNat < dg.length:=by show _ < 9;omega
 rw[Str.length_append,dq,aad,aa1 b1];have:=(zt (ab3 b1)).1;show (dg[(((k:Int)+m) % 9).toNat]).length+1≤100
 omega
theorem O9 (m:Int) (k:Nat):(nm2 m k).length≤100:=by
 unfold nm2;rw[Str.length_append,Str.length_append,dq,ky,ky];omega
theorem Gv (c:Int) (k:Nat):(nmX c k).length≤100:=by
 unfold nmX;by_cases c2:c % 3=2
 ·rw[if_pos c2];exact O9 _ _
 rw[if_neg c2];by_cases c1:c % 3=1
 ·rw[if_pos c1];exact Gh _ _
 rw[if_neg c1];exact Fb _ _ _
theorem Jo (z:Str):(inV (.str z) (dg.map V.str)=true)↔z∈dg:=by
 constructor
 ·intro h;obtain ⟨y,hy,e⟩:=List.mem_map.mp (lh h);rw[←V.str.inj e];exact hy
 ·intro h;exact su (List.mem_map.mpr ⟨z,h,rfl⟩)
theorem br.keep {H H':Hp} {b:Addr} {kinds:List Str} {rs:List Rl} (h:br H b kinds rs) (t:∀{a:Addr} {xs:List V},H a=some (.tup xs)→H' a=some (.tup xs)):br H' b kinds rs:=by
 obtain ⟨kt,rt,ra,h1,h2,h3,h4⟩:=h;exact ⟨kt,rt,ra,t h1,t h2,t h3,h4.keep t⟩
theorem Tw.pos {ws:List V} (h:Tw ws):0 < ws.length:=by
 cases ws with
 | nil=>cases h.one
 | cons x r=>exact Nat.succ_pos _
theorem Ah (i:Int):∀c∈(ltr i).cps.toList,c < 128:=λc h=>by
 rw[fu] at h;rw[List.mem_singleton.mp h];omega
theorem qp {a b:Str} (h:∀c∈a.cps.toList,c < 128) (g:∀c∈b.cps.toList,c < 128):∀c∈(a++b).cps.toList,c < 128:=λc hc=>by
 rw[gh] at hc;rcases List.mem_append.mp hc with hc | hc
 ·exact h c hc
 ·exact g c hc
theorem Er (i:Int) (n:Nat):∀c∈(mh (ltr i) n).cps.toList,c < 128:=λc h=>by
 rw[i8] at h;rw[(List.mem_replicate.mp h).2];omega
theorem own_tx {z:Str} (h:z∈dg):∀c∈z.cps.toList,c < 128:=by
 have a:∀z∈dg,∀c∈z.cps.toList,c < 128:=by decide+kernel
 exact a z h
theorem Kj (c:Int) (k:Nat):∀x∈(nmX c k).cps.toList,x < 128:=by
 unfold nmX;by_cases c2:c % 3=2
 ·rw[if_pos c2];exact qp (qp (Er _ _) (Er _ _)) (Ah _)
 rw[if_neg c2];by_cases c1:c % 3=1
 ·rw[if_pos c1];unfold nm1;have b1:(((k:Int)+c / 3) % 9).toNat < dg.length:=by show _ < 9;omega
  rw[aad,aa1 b1];exact qp (own_tx (ab3 b1)) (Ah _)
 rw[if_neg c1];exact qp (qp (Ah _) (Ah _)) (Er _ _)
theorem nmP_tx (c:Int) (k:Nat):gr (nmP c k):=by
 have l:=Gv c k;have x2:=Ab;unfold nmP;by_cases o:nmX c k∈dg
 ·rw[if_pos o];exact ⟨qp (Kj c k) (by decide+kernel),by rw[Str.length_append];omega⟩
 ·rw[if_neg o];exact ⟨Kj c k,by omega⟩
theorem M4 (c:Int):∀z∈(aav 60).map (nmP c),gr z:=λz hz=>by
 obtain ⟨k,_,rfl⟩:=List.mem_map.mp hz;exact nmP_tx c k
end Pc
namespace Fm
section
variable {N:Type} [DecidableEq N]
structure Lin (lt:N→N→Bool):Prop where
 irr:∀x,lt x x=false
 tr:∀{x y z},lt x y=true→lt y z=true→lt x z=true
 tri:∀x y,lt x y=true∨x=y∨lt y x=true
variable {lt:N→N→Bool}
variable (mon:N→Int)
end
end Fm
namespace L2.Itm
open PySem PySem.Spec PyProof.Rows
structure Raw (h:Heap) (d:Addr) (es:Array DictEntry) (ep:Nat) (o:Obj):Prop where
 there:h.get? d=some o
 exact':o.ExactDict
 data:o.data=.dict es ep
theorem Raw.typeIs {s:Shared} {d:Addr} {es:Array DictEntry} {ep:Nat} {o:Obj} (r:Raw s.heap d es ep o):s.TypeIs (.ref d) "dict":=⟨o,r.there,r.exact'.1⟩
end L2.Itm
namespace L2
open PySem PySem.Spec PyProof.Rows Itm
theorem Gx {P:Program} {w:World} {H:Hp} {h:Heap} {a:Addr} {o:Obj} {kvs:List (List Key×V)} (ok:HOk P w H h) (e:H a=some (.frz o (.dT kvs))):
  ∃es ep,o.data=.dict es ep∧Raw h a es ep o∧es.size=kvs.length∧∀(i:Nat) (k:List Key) (v:V),kvs[i]?=some (k,v)→∃t u j,es[i]?=some ⟨j,.ref t,u⟩∧H t=some (.tup (k.map kV))∧RelV v u:=by
 obtain ⟨h1,_,_,xs,r,o',es,ep,h2,h3,h4,h5,h6⟩:=(show bp P w H h a (.frz o (.dT kvs)) from ok a _ e);rw[h1] at h2;cases h2
 have hl:kvs.length=xs.length:=Paired.length r;refine ⟨es,ep,h4,⟨h1,h3,h4⟩,by rw[←abt,h5,aa0,hl],λi k v hi=>?_⟩;have get:∀{l:List (List Key×V)} {m:List (List Key×Addr×Value)},Paired (λ(p:List Key×V) (q:List Key×Addr×Value)=>p.1=q.1∧H q.2.1=some (.tup (p.1.map kV))∧RelV p.2 q.2.2) l m→∀(i:Nat) (p:List Key×V),l[i]?=some p→∃q,m[i]?=some q∧p.1=q.1∧H q.2.1=some (.tup (p.1.map kV))∧RelV p.2 q.2.2:=by
  intro l m r;induction r with
  | nil=>intro i p hp;simp at hp
  | cons h _ ih=>
   intro i p hp;cases i with
   | zero=>simp at hp;subst hp;exact ⟨_,rfl,h⟩
   | succ i=>exact ih i p (by simpa using hp)
 obtain ⟨q,hq,q1,q2,q3⟩:=get r i (k,v) hi;refine ⟨q.2.1,q.2.2,(tupleKind (bh P w)).hash q.1,?_,q2,q3⟩;rw[←aci,h5,aa8,hq];rfl
section
variable {X:Cx} {pins:List (Addr×Obj)} {σ σ':St} {H H0:Hp} {s s0:Shared} {a:Addr} {kvs kvs':List (List Key×V)} {o:Obj}
theorem Inv.Qw (I:Inv X pins σ H s) (e:H a=some (.dT kvs)):∃o es ep,o.data=.dict es ep∧Raw s.heap a es ep o∧Inv X pins σ (upd H a (.frz o (.dT kvs))) s:=by
 have ok:=(show bp X.prog X.w H s.heap a (.dT kvs) from I.hok a _ e);obtain ⟨z,y,xs,r,o,es,ep,h1,h2,h3,h4,h5⟩:=id ok;refine ⟨o,es,ep,h3,⟨h1,h2,h3⟩,?_⟩;have st:bp X.prog X.w (upd H a (.frz o (.dT kvs))) s.heap a (.dT kvs):=ok.se (λb u _ q=>q) (λb q=>by rw[af (λz=>by rw[z,e] at q;cases q)];exact q) λb ys q=>by rw[af (λz=>by rw[z,e] at q;cases q)];exact q
 exact I.write (t':=s.toks) (h':=s.heap) (e:=a) (by rw[e];exact True.intro) (.inl rfl) (λb u _ q=>q) ⟨o,h1⟩ ⟨h1,st⟩
theorem Inv.thawT (I0:Inv X pins σ' H0 s0) (e0:H0 a=some (.dT kvs')) (I:Inv X pins σ H s) (e:H a=some (.frz o (.dT kvs))):Inv X pins σ (upd H a (.dT kvs)) s:=by
 have nn:∀b,H b=none→b≠a:=λb hb z=>by rw[z,e] at hb;cases hb
 have nt:∀b xs,H b=some (.tup xs)→b≠a:=λb xs hb z=>by rw[z,e] at hb;cases hb
 have no:∀b y,H b=some (.own y)→b≠a:=λb y hb z=>by rw[z,e] at hb;cases hb
 refine ⟨I.ok,I.os,I.bare,⟨I.base.keep,I.base.slot,λb ob h1 h2 h3=>?_,I.base.there,λb xs h1=>?_,λb ob u h1=>?_,λb ps h1=>?_⟩,I.loc,I.cell,?_,λx c h1=>?_,λp hp=>?_,λb u q=>?_,I.len⟩
 ·have h4:=I.base.free b ob h1 h2 h3;rw[af (nn b h4)];exact h4
 ·have h4:=I.base.tups b xs h1;rw[af (nt b xs h4)];exact h4
 ·have h4:=I.base.frzs b ob u h1;have h5:=I0.base.frzs b ob u h1;rw[af (λz=>by rw[z,e0] at h5;cases h5)];exact h4
 ·obtain ⟨more,h4⟩:=I.base.tbls b ps h1;exact ⟨more,by rw[af (λz=>by rw[z,e] at h4;cases h4)];exact h4⟩
 ·rw[af (nn _ I.free)];exact I.free
 ·rw[af (nn _ (I.freeC x c h1))];exact I.freeC x c h1
 ·obtain ⟨p1,p2,p3,p4,p5⟩:=I.pin p hp;exact ⟨p1,by rw[af (nn _ p2)];exact p2,p3,p4,p5⟩
 ·by_cases hb:b=a
  ·subst hb;rw[ae] at q;cases q
   exact ((show bp X.prog X.w H s.heap b (.frz o (.dT kvs)) from I.hok b _ e).2).se (λc v _ r=>r) (λc r=>by rw[af (no c b r)];exact r) λc xs r=>by rw[af (nt c xs r)];exact r
  ·rw[af hb] at q;exact (I.hok b u q).se (λc v _ r=>r) (λc r=>by rw[af (no c b r)];exact r) λc xs r=>by rw[af (nt c xs r)];exact r
end
def Nf (t:TE):TE:=λσ H Q=>∃a kvs,H a=some (.dT kvs)∧t σ H λv H'=>∃o,H' a=some (.frz o (.dT kvs))∧Q v (upd H' a (.dT kvs))
section
variable {X:Cx}
theorem J9 {e:Expr} {t:TE} (h:PE X e t):PE X e (Nf t):=by
 intro pins s σ H Q I q;obtain ⟨a,kvs,e0,q⟩:=q;exact thn (h pins s σ H _ I q) λv s1 ⟨x,H1,I1,r1,o,e1,q1⟩=>⟨x,_,Inv.thawT I e0 I1 e1,r1,q1⟩
end
def TK (H H':Hp):Prop:=∀b xs,H b=some (.tup xs)→H' b=some (.tup xs)
theorem TK.trans {H H1 H2:Hp} (a:TK H H1) (b:TK H1 H2):TK H H2:=λc xs h=>b c xs (a c xs h)
theorem TK.of {H H':Hp} (s:ak H H'):TK H H':=λb xs h=>s b _ h
theorem TK.put {H:Hp} {a:Addr} {o o':HO} (h:H a=some o) (ho:∀xs,o≠.tup xs):TK H (upd H a o'):=λb xs hb=>by
 rw[af (λe=>by rw[e,h] at hb;exact ho xs (aa3 hb))];exact hb
end L2
namespace Fm
section
variable {α:Type}
noncomputable def ins (lt:α→α→Bool) (x:α):List α→List α
 | []=>[x]
 | y::r=>if lt y x=true then y::ins lt x r else x::y::r
noncomputable def Fd (lt:α→α→Bool) (l:List α):List α:=l.foldr (ins lt) []
variable {lt:α→α→Bool}
theorem vt (x:α):∀l:List α,(ins lt x l).Perm (x::l)
 | []=>ad3 _
 | y::r=>by
  show (if lt y x=true then y::ins lt x r else x::y::r).Perm _
  split
  ·exact ((vt x r).cons y).trans (List.Perm.swap x y r)
  ·exact ad3 _
theorem gv:∀l:List α,(Fd lt l).Perm l
 | []=>ad3 _
 | x::r=>(vt x (Fd lt r)).trans ((gv r).cons x)
def Srt (lt:α→α→Bool) (l:List α):Prop:=l.Pairwise λa b=>lt b a=false
structure Pre (lt:α→α→Bool):Prop where
 irr:∀x,lt x x=false
 tr:∀{x y z},lt x y=true→lt y z=true→lt x z=true
 neg:∀{x z} (y:α),lt x z=true→lt x y=true∨lt y z=true
theorem G4 (o:Pre lt) (x:α):∀{l:List α},Srt lt l→Srt lt (ins lt x l)
 | [],_=>List.pairwise_singleton _ _
 | y::r,h=>by
  obtain ⟨h1,h2⟩:=List.pairwise_cons.mp h;show Srt lt (if lt y x=true then y::ins lt x r else x::y::r)
  split
  ·rename_i c
   refine List.pairwise_cons.mpr ⟨λz hz=>?_,G4 o x h2⟩;rcases List.mem_cons.mp ((vt x r).mem_iff.mp hz) with e | e
   ·rw[e];cases q:lt x y with
    | false=>rfl
    | true=>exact absurd (o.tr c q) (by rw[o.irr];decide)
   ·exact h1 z e
  ·rename_i c
   have c:lt y x=false:=Bool.eq_false_iff.mpr c;refine List.pairwise_cons.mpr ⟨λz hz=>?_,h⟩;rcases List.mem_cons.mp hz with e | e
   ·rw[e];exact c
   ·cases q:lt z x with
    | false=>rfl
    | true=>
     rcases o.neg y q with k | k
     ·rw[h1 z e] at k;cases k
     ·rw[c] at k;cases k
theorem y6 (o:Pre lt):∀l:List α,Srt lt (Fd lt l)
 | []=>aeu
 | x::r=>G4 o x (y6 o r)
theorem vj [DecidableEq α] (o:Lin lt):∀{l m:List α},l.Perm m→Srt lt l→Srt lt m→l=m
 | [],m,h,_,_=>h.nil_eq
 | a::r,[],h,_,_=>absurd h.length_eq (by simp)
 | a::r,b::s,h,h1,h2=>by
  obtain ⟨p1,p2⟩:=List.pairwise_cons.mp h1;obtain ⟨q1,q2⟩:=List.pairwise_cons.mp h2;have e:a=b:=by
   rcases List.mem_cons.mp (h.mem_iff.mp aa9) with e | e
   ·exact e
   ·rcases List.mem_cons.mp (h.mem_iff.mpr aa9) with k | k
    ·exact k.symm
    ·rcases o.tri a b with z | z | z
     ·rw[q1 a e] at z;cases z
     ·exact z
     ·rw[p1 b k] at z;cases z
  subst e;rw[vj o (List.Perm.cons_inv h) p2 q2]
end
section
variable {N:Type} [DecidableEq N] {lt:N→N→Bool}
theorem Lin.pre (o:Lin lt) {β:Type} (f:β→N):Pre (λp q:β=>lt (f p) (f q)):=⟨λx=>o.irr _,λh k=>o.tr h k,λ{x z} y h=>by
 rcases o.tri (f x) (f y) with k | k | k
 ·exact .inl k
 ·rw[←k];exact .inr h
 ·exact .inr (o.tr k h)⟩
end
end Fm
namespace Pc
open PySem PySem.Spec L2 PyProof.Rows Fm
theorem linS:Lin ltS:=⟨zi,zj,Gd⟩
noncomputable def cy (l:List Str):List Str:=Fd ltS l
theorem Lj {l m:List Str} (hp:m.Perm l) (hs:Srt ltS m):m=cy l:=vj linS (hp.trans (gv l).symm) hs (y6 (linS.pre id) l)
theorem qo (l:List Str):(cy l).length=l.length:=(gv l).length_eq
theorem Ho {l:List Str} {z:Str}:z∈cy l↔z∈l:=(gv l).mem_iff
end Pc
namespace L2
open PySem PySem.Spec PyProof.Rows PySem.SeqAt Pc
end L2
namespace L2
open PySem
theorem hu8_of {k:Nat} {A:Around} (r:fj k A):A.units+8 < cLine:=by
 have:=r.units;omega
end L2
namespace Pc
open PySem PySem.Spec L2 PyProof.Rows Fm
end Pc
namespace L2
open PySem
end L2
namespace Pc
open PySem PySem.Spec L2 PyProof.Rows Fm
theorem getD_some {α:Type} {l:List α} {i:Nat} {d x:α} (h:l[i]?=some x):l.getD i d=x:=by rw[aad,h];rfl
theorem zh {zs:List Str} {is:List Nat} (hp:is.Perm (aav (zs.map V.str).length)) (hi:∀i j,i≤j→j < (zs.map V.str).length→rank zs.length (λi j=>ltS (zs.getD i "") (zs.getD j "")) (is.getD i 0)≤rank zs.length (λi j=>ltS (zs.getD i "") (zs.getD j "")) (is.getD j 0)):
  (is.map λi=>(zs.map V.str).getD i .non)=(cy zs).map V.str:=by
 rw[aa0] at hp hi;have hlen:is.length=zs.length:=by rw[hp.length_eq,ac5]
 have hmem:∀i∈is,i < zs.length:=λi h=>List.mem_range.mp (hp.mem_iff.mp h);have e1:(is.map λi=>(zs.map V.str).getD i .non)=(is.map λi=>zs.getD i "").map V.str:=by
  rw[ack];apply aej
  intro i h;have hi:=hmem i h;show (zs.map V.str).getD i .non=V.str (zs.getD i "")
  rw[getD_some (x:=V.str zs[i]) (by rw[aa8,aa1 hi];rfl),getD_some (aa1 hi)]
 rw[e1];congr 1
 refine Lj ?_ ?_
 ·have e:(aav zs.length).map (λi=>zs.getD i "")=zs:=by
   apply aev
   intro i;rw[aa8];by_cases h:i < zs.length
   ·rw[aek h,aa1 h];show some (zs.getD i "")=_
    rw[getD_some (aa1 h)]
   ·rw[List.getElem?_eq_none_iff.mpr (by rw[ac5];omega),List.getElem?_eq_none_iff.mpr (by omega)];rfl
  have:=hp.map λi=>zs.getD i "";rw[e] at this;exact this
 ·refine List.pairwise_map.mpr (List.pairwise_iff_getElem.mpr λi j h1 h2 hij=>?_);have o:Ord zs.length λi j=>ltS (zs.getD i "") (zs.getD j ""):=⟨λ_ _=>zi _,λ_ _ _ _ _ _ a b=>zj a b,λ_ j _ _ _ _ a=>Fz _ a⟩;have hr:=hi i j (abu hij) (by omega);rw[getD_some (aa1 h1),getD_some (aa1 h2)] at hr;have hrk:=o.rank (i:=is[j]) (j:=is[i]) (hmem _ (ab3 h2)) (hmem _ (ab3 h1));rw[decide_eq_false (by omega)] at hrk;exact hrk.symm
end Pc
namespace L2.Zd
open PySem
abbrev IsZ (h:Heap) (z TI TO:Addr) (f0 f1:Value):Prop:=
 h.get? z=some { cls:=.type "zip",dict:=none,data:=.fields #[f0,f1,.bool false,.ref TI,.ref TO],slots:=#[] }
section
variable {prog:Program} {w:World} {A:Around} {E:Value→Shared→Prop} {s:Shared}
theorem alive {M:Model} {a:Addr} {Q:Option Obj→Shared→Prop} (h:Q (s.heap.get? a) s):wpAny M A (loadIfAlive a) Q E s:=λΓ p hΓ=>by
 unfold loadIfAlive;rw[Sem.wp_loadIfAlive];exact wpAny_pure h Γ p hΓ
theorem M0 {z TI TO T:Addr} {b:Bool} {o:Obj} {Q:Bool→Shared→Prop} (hz:IsZ s.heap z TI TO (rawInt T) (.bool b)) (ho:s.heap.get? T=some o)
  (q:∀h',IsZ h' z TI TO (rawInt T) (.bool true)→Heap.SameBut z s.heap h'→Q false { s with heap:=h' }):wpAny (model prog w) A (Builtin.SmallTypes.ownedTupleIsFree (.ref z)) Q E s:=by
 unfold Builtin.SmallTypes.ownedTupleIsFree;refine wpAny_bind (wpAny_field hz rfl (x:=rawInt T) rfl ?_);show wpAny _ _ (loadIfAlive T >>=_) _ _ _
 refine wpAny_bind (alive ?_);rw[ho];show wpAny _ _ (field (.ref z) 1 >>=_) _ _ _
 refine wpAny_bind (wpAny_field hz rfl (x:=.bool b) rfl ?_);cases b with
 | true=>exact wpAny_pure (q s.heap hz (Heap.SameBut.refl _ _))
 | false=>exact wpAny_bind (wpAny_setField_rec hz (by simp) λh' hz' hs'=>wpAny_pure (q h' hz' hs'))
end
end L2.Zd
namespace L2.Zg
open PySem L2.Zd
def Hf:Bool→Addr→Addr→Array Value→Nat→Heap→Prop
 | false,it,l,xs,k,h=>h.IsListIter it l k∧h.IsList l xs
 | true,it,l,xs,k,h=>h.IsTupleIter it l k∧h.IsTuple l xs
theorem Hf.keep {b:Bool} {it l:Addr} {xs:Array Value} {k:Nat} {h h':Heap} (x:Hf b it l xs k h) (g1:∀o,h.get? it=some o→h'.get? it=some o) (g2:∀o,h.get? l=some o→h'.get? l=some o):Hf b it l xs k h':=by
 cases b
 ·obtain ⟨⟨o,e,r⟩,⟨o',e',r'⟩⟩:=x;exact ⟨⟨o,g1 _ e,r⟩,⟨o',g2 _ e',r'⟩⟩
 ·obtain ⟨⟨o,e,r⟩,⟨o',e',r'⟩⟩:=x;exact ⟨⟨o,g1 _ e,r⟩,⟨o',g2 _ e',r'⟩⟩
section
variable {prog:Program} {w:World} {A:Around} {E:Value→Shared→Prop} {s:Shared}
theorem Hf.next {b:Bool} {it l:Addr} {xs:Array Value} {k:Nat} {v:Value} {Q:Value→Shared→Prop} (x:Hf b it l xs k s.heap) (hne:l≠it) (hx:xs[k]?=some v)
  (hQ:∀h',Hf b it l xs (k+1) h'→Heap.SameBut it s.heap h'→Q v { s with heap:=h' }):wpAny (model prog w) A (Builtin.SmallTypes.nextOf (.ref it)) Q E s:=by
 cases b
 ·obtain ⟨x1,x2⟩:=x;exact wpAny_nextOf_list_item x1 x2 hx λh' a b=>hQ h' ⟨a,x2.extBut b.extBut hne⟩ b
 ·obtain ⟨x1,x2⟩:=x;have ty:=x1.typeIs;obtain ⟨oi,hoi,ci,di⟩:=id x1;obtain ⟨ot,hot,_,nt,dt⟩:=id x2;unfold Builtin.SmallTypes.nextOf;refine wpAny_bind (wpAny_callSpecial?_slot (name:=Str.ofString "__next__") ty F.slot_tuple_iterator_next (wpAny_call_entry F.slot_tuple_iterator_next ty F.entry_tuple_iterator_next ?_ (F.args_tuple_iterator_next_1 _)));show wpAny _ _ (field (.ref it) 0 >>=_) _ _ s
  refine wpAny_bind (wpAny_field hoi di (x:=.ref l) rfl ?_);show wpAny _ _ (if (Value.ref l==Value.none)=true then _ else _) _ _ s
  rw[if_neg (show ¬((Value.ref l==Value.none)=true) from aak)];show wpAny _ _ (field (.ref it) 1 >>=_) _ _ s
  refine wpAny_bind (wpAny_field hoi di (x:=.int k 0) rfl ?_);show wpAny _ _ (seqItems? (.ref l) >>=_) _ _ s
  refine wpAny_bind (wpAny_seqItems hot dt ?_);simp only[abw,hx];refine wpAny_bind (wpAny_setField hoi di (by simp) (wpAny_pure ⟨v,rfl,wpAny_pure (hQ _ ⟨⟨_,Heap.get?_update_self _ hoi (Obj.isFreed_of_fields (Obj.data_mapFields di _)),(Obj.cls_mapFields ..).trans ci,by rw[Obj.data_mapFields di];simp[rawInt]⟩,x2.extBut (Heap.SameBut.update ..).extBut hne⟩ (Heap.SameBut.update ..))⟩))
theorem Hf.stop {b:Bool} {it l:Addr} {xs:Array Value} {k:Nat} {Q:Value→Shared→Prop} (hh:A.handled=none) (x:Hf b it l xs k s.heap) (hx:xs[k]?=none)
  (hE:∀h' e,Heap.ExtBut it s.heap h'→(∃o,h'.get? e=some o∧o.cls=.type "StopIteration")→E (.ref e) { s with heap:=h' }):wpAny (model prog w) A (Builtin.SmallTypes.nextOf (.ref it)) Q E s:=by
 cases b
 ·obtain ⟨x1,x2⟩:=x;exact wpAny_nextOf_list_end hh x1 x2 hx hE
 ·obtain ⟨x1,x2⟩:=x;have ty:=x1.typeIs;obtain ⟨oi,hoi,ci,di⟩:=id x1;obtain ⟨ot,hot,_,nt,dt⟩:=id x2;unfold Builtin.SmallTypes.nextOf;refine wpAny_bind (wpAny_callSpecial?_slot (name:=Str.ofString "__next__") ty F.slot_tuple_iterator_next (wpAny_call_entry F.slot_tuple_iterator_next ty F.entry_tuple_iterator_next ?_ (F.args_tuple_iterator_next_1 _)));show wpAny _ _ (field (.ref it) 0 >>=_) _ _ s
  refine wpAny_bind (wpAny_field hoi di (x:=.ref l) rfl ?_);show wpAny _ _ (if (Value.ref l==Value.none)=true then _ else _) _ _ s
  rw[if_neg (show ¬((Value.ref l==Value.none)=true) from aak)];show wpAny _ _ (field (.ref it) 1 >>=_) _ _ s
  refine wpAny_bind (wpAny_field hoi di (x:=.int k 0) rfl ?_);show wpAny _ _ (seqItems? (.ref l) >>=_) _ _ s
  refine wpAny_bind (wpAny_seqItems hot dt ?_);simp only[abw,hx];refine wpAny_bind (wpAny_rule (wpAny_bind (wpAny_setField hoi di (by simp) ?_)));show wpAny _ _ (newExc (.type "StopIteration") [] >>=_) _ _ _
  refine wpAny_bind ?_;simp only[newExc,newTuple];refine wpAny_bind (wpAny_newObj_type ?_ (by size_fits));refine wpAny_bind (m:=firstArgMember _ _) (wpAny_of_eq (a:=Value.none) (by first | rfl | (simp only[firstArgMember];rfl)) ?_);refine wpAny_newObj_type ?_ (by size_fits);simp only[raiseNew];refine wpAny_bind (wpAny_handled ?_);first | rw[show A.in1.handled=none from hh] | rw[hh]
  refine wpAny_bind (wpAny_pure (wpAny_throw ?_));exact hE _ _ (((Heap.SameBut.update ..).extBut.push _).push _) ⟨_,Heap.get?_push_size _ rfl,rfl⟩
theorem free {z TI TO:Addr} {f0:Value} {b:Bool} {Q:Bool→Shared→Prop} (hz:IsZ s.heap z TI TO f0 (.bool b)) (hf:f0=.none∨∃T:Addr,f0=rawInt T)
  (q:∀r h' b',IsZ h' z TI TO f0 (.bool b')→Heap.SameBut z s.heap h'→Q r { s with heap:=h' }):wpAny (model prog w) A (Builtin.SmallTypes.ownedTupleIsFree (.ref z)) Q E s:=by
 rcases hf with rfl | ⟨T,rfl⟩
 ·unfold Builtin.SmallTypes.ownedTupleIsFree;refine wpAny_bind (wpAny_field hz rfl (x:=.none) rfl (wpAny_pure ?_));exact q true s.heap b hz (Heap.SameBut.refl _ _)
 ·cases ho:s.heap.get? T with
  | some o=>exact M0 hz ho λh' a c=>q false h' true a c
  | none=>
   unfold Builtin.SmallTypes.ownedTupleIsFree;refine wpAny_bind (wpAny_field hz rfl (x:=rawInt T) rfl ?_);show wpAny _ _ (loadIfAlive T >>=_) _ _ _
   refine wpAny_bind (alive ?_);rw[ho];exact wpAny_pure (q true s.heap b hz (Heap.SameBut.refl _ _))
end
def Zst (c1 c2:Bool) (z TI TO i1 i2 l1 l2:Addr) (xs ys:Array Value) (i:Nat) (h:Heap):Prop:=
 (∃f0 b,IsZ h z TI TO f0 (.bool b)∧(f0=.none∨∃T:Addr,f0=rawInt T))∧(∃a b,IsPair h TO a b)∧IsPair h TI (.ref i1) (.ref i2)∧Hf c1 i1 l1 xs i h∧Hf c2 i2 l2 ys i h
theorem Zst.keep {c1 c2:Bool} {z TI TO i1 i2 l1 l2:Addr} {xs ys:Array Value} {i:Nat} {h h':Heap} (x:Zst c1 c2 z TI TO i1 i2 l1 l2 xs ys i h) (k:∀c∈[z,TI,TO,i1,i2],∀o,h.get? c=some o→h'.get? c=some o) (k1:∀o,h.get? l1=some o→h'.get? l1=some o) (k2:∀o,h.get? l2=some o→h'.get? l2=some o):Zst c1 c2 z TI TO i1 i2 l1 l2 xs ys i h':=by
 obtain ⟨⟨f0,b,a1,a2⟩,⟨p,q,a3⟩,a4,a5,a6⟩:=x;exact ⟨⟨f0,b,k z (by simp) _ a1,a2⟩,⟨p,q,k TO (by simp) _ a3⟩,k TI (by simp) _ a4,a5.keep (k i1 (by simp)) k1,a6.keep (k i2 (by simp)) k2⟩
section
variable {prog:Program} {w:World} {A:Around} {E:Value→Shared→Prop} {s:Shared} {c1 c2:Bool} {z TI TO i1 i2 l1 l2:Addr} {xs ys:Array Value} {i:Nat}
theorem item {x y:Value} {Q:Value→Shared→Prop} (D:ZipApart z TI TO i1 i2 l1 l2) (hz:Zst c1 c2 z TI TO i1 i2 l1 l2 xs ys i s.heap) (hx:xs[i]?=some x) (hy:ys[i]?=some y)
  (hQ:∀h',Zst c1 c2 z TI TO i1 i2 l1 l2 xs ys (i+1) h'→IsPair h' s.heap.objs.size x y→h'.objs.size=s.heap.objs.size+1→(∀c o,c≠z→c≠TO→c≠i1→c≠i2→s.heap.get? c=some o→h'.get? c=some o)→Q (.ref s.heap.objs.size) { s with heap:=h' }):
  wpAny (model prog w) A (Builtin.«zip.__next__» ⟨[.ref z],[]⟩) (λfin s'=>∃v,fin=.done (.ret v)∧Q v s') E s:=by
 obtain ⟨⟨f0,b,z0,hf⟩,⟨p,q,hTO⟩,hTI,h1,h2⟩:=hz;show wpAny _ _ (field (.ref z) 2 >>=_) _ _ _
 refine wpAny_bind (wpAny_field z0 rfl (x:=.bool false) rfl ?_);show wpAny _ _ (field (.ref z) 3 >>=_) _ _ _
 refine wpAny_bind (wpAny_field z0 rfl (x:=.ref TI) rfl ?_);refine wpAny_bind (wpAny_seqItems hTI rfl ?_);show wpAny _ _ (Builtin.SmallTypes.ownedTupleIsFree (.ref z) >>=_) _ _ _
 refine wpAny_bind (free z0 hf λr h₁ b1 z1 s1=>?_);have k1:∀c o,c≠z→s.heap.get? c=some o→h₁.get? c=some o:=λc o n e=>s1.extBut _ _ n e;have H1:=h1.keep (λo e=>k1 _ o D.i1z e) λo e=>k1 _ o D.l1z e;have H2:=h2.keep (λo e=>k1 _ o D.i2z e) λo e=>k1 _ o D.l2z e;cases r with
 | false=>
  simp only[aaz,if_false];refine wpAny_bind ?_;rw[←aeo];simp only[adj,adm];refine wpAny_bind (wpAny_bind (wpAny_holding ?_));show wpAny _ _ (Builtin.SmallTypes.nextOf (.ref i1) >>=_) _ _ _
  refine wpAny_bind (H1.next (s:={ s with heap:=h₁ }) D.l1i1 hx λh₂ H1' s2=>wpAny_pure (wpAny_pure ?_));have s2:Heap.SameBut i1 h₁ h₂:=s2;have H2':=H2.keep (λo e=>s2.extBut _ _ D.i12.symm e) λo e=>s2.extBut _ _ D.l2i1 e;refine wpAny_bind (wpAny_bind (wpAny_holding ?_));show wpAny _ _ (Builtin.SmallTypes.nextOf (.ref i2) >>=_) _ _ _
  refine wpAny_bind (H2'.next (s:={ s with heap:=h₂ }) D.l2i2 hy λh₃ H2'' s3=>wpAny_pure (wpAny_pure (wpAny_pure ?_)));have s3:Heap.SameBut i2 h₂ h₃:=s3;refine wpAny_bind (wpAny_newTuple (hsz:=by show (2:Nat)≤sizeLine;decide) ?_);have sz:h₃.objs.size=s.heap.objs.size:=by rw[s3.1,s2.1,s1.1]
  have up:∀c o,c≠z→c≠i1→c≠i2→s.heap.get? c=some o→(h₃.push { cls:=.type "tuple",data:=.seq #[x,y] }).get? c=some o:=λc o n1 n2 n3 e=>Heap.get?_push_of_some _ (s3.extBut _ _ n3 (s2.extBut _ _ n2 (s1.extBut _ _ n1 e)));refine wpAny_pure ⟨_,rfl,?_⟩;rw[sz];refine hQ _ ⟨⟨f0,b1,Heap.get?_push_of_some _ (s3.extBut _ _ D.i2z.symm (s2.extBut _ _ D.i1z.symm z1)),hf⟩,⟨p,q,up _ _ D.TOz D.TOi1 D.TOi2 hTO⟩,up _ _ D.TIz D.TIi1 D.TIi2 hTI,?_,H2''.keep (λo e=>Heap.get?_push_of_some _ e) λo e=>Heap.get?_push_of_some _ e⟩ ?_ (by rw[Heap.size_push,sz]) λc o n1 _ n3 n4 e=>up c o n1 n3 n4 e
  ·exact H1'.keep (λo e=>Heap.get?_push_of_some _ (s3.extBut _ _ D.i12 e)) λo e=>Heap.get?_push_of_some _ (s3.extBut _ _ D.l1i2 e)
  ·rw[←sz];exact Heap.get?_push_size _ rfl
 | true=>
  simp only[if_true];refine wpAny_bind (wpAny_rule ?_);refine wpAny_bind (wpAny_field z1 rfl (x:=.ref TO) rfl ?_);refine wpAny_bind (wpAny_setField_rec z1 (by simp) λh₂ z2 s2=>?_);replace z2:IsZ h₂ z TI TO .ellipsis (.bool b1):=z2
  have s2:Heap.SameBut z h₁ h₂:=s2;refine wpAny_bind ?_;simp only[af1,af8,adj,adm];have H1a:=H1.keep (λo e=>s2.extBut _ _ D.i1z e) λo e=>s2.extBut _ _ D.l1z e;have H2a:=H2.keep (λo e=>s2.extBut _ _ D.i2z e) λo e=>s2.extBut _ _ D.l2z e;refine wpAny_bind (wpAny_bind (wpAny_onRaise ?_));show wpAny _ _ (Builtin.SmallTypes.nextOf (.ref i1) >>=_) _ _ _
  refine wpAny_bind (H1a.next (s:={ s with heap:=h₂ }) D.l1i1 hx λh₃ H1b s3=>wpAny_pure ?_);have s3:Heap.SameBut i1 h₂ h₃:=s3;have o3:IsPair h₃ TO p q:=s3.extBut _ _ D.TOi1 (s2.extBut _ _ D.TOz (k1 _ _ D.TOz hTO));refine wpAny_bind (wpAny_seqItems o3 rfl ?_);refine wpAny_bind (wpAny_updateSeq_pair o3 λh₄ o4 s4=>?_);replace o4:IsPair h₄ TO x q:=o4
  have s4:Heap.SameBut TO h₃ h₄:=s4;refine wpAny_bind (wpAny_letGo (wpAny_pure ?_));have H2b:=H2a.keep (λo e=>s4.extBut _ _ D.TOi2.symm (s3.extBut _ _ D.i12.symm e)) λo e=>s4.extBut _ _ D.l2TO (s3.extBut _ _ D.l2i1 e);refine wpAny_bind (wpAny_bind (wpAny_onRaise ?_));show wpAny _ _ (Builtin.SmallTypes.nextOf (.ref i2) >>=_) _ _ _
  refine wpAny_bind (H2b.next (s:={ s with heap:=h₄ }) D.l2i2 hy λh₅ H2c s5=>wpAny_pure ?_);have s5:Heap.SameBut i2 h₄ h₅:=s5;have o5:IsPair h₅ TO x q:=s5.extBut _ _ D.TOi2 o4;refine wpAny_bind (wpAny_seqItems o5 rfl ?_);refine wpAny_bind (wpAny_updateSeq_pair o5 λh₆ o6 s6=>?_);replace o6:IsPair h₆ TO x y:=o6
  have s6:Heap.SameBut TO h₅ h₆:=s6;refine wpAny_bind (wpAny_letGo (wpAny_pure (wpAny_pure ?_)));refine wpAny_bind (wpAny_seqItems o6 rfl ?_);refine wpAny_bind (wpAny_newTuple ?_);have sz:h₆.objs.size=s.heap.objs.size:=by rw[s6.1,s5.1,s4.1,s3.1,s2.1,s1.1]
  have z6:IsZ h₆ z TI TO .ellipsis (.bool b1):=s6.extBut _ _ D.TOz.symm (s5.extBut _ _ D.i2z.symm (s4.extBut _ _ D.TOz.symm (s3.extBut _ _ D.i1z.symm z2)));have up:∀c o,c≠z→c≠TO→c≠i1→c≠i2→s.heap.get? c=some o→h₆.get? c=some o:=λc o n1 n2 n3 n4 e=>s6.extBut _ _ n2 (s5.extBut _ _ n4 (s4.extBut _ _ n2 (s3.extBut _ _ n3 (s2.extBut _ _ n1 (k1 _ _ n1 e)))));have H1c:=H1b.keep (λo e=>s6.extBut _ _ D.TOi1.symm (s5.extBut _ _ D.i12 (s4.extBut _ _ D.TOi1.symm e))) λo e=>s6.extBut _ _ D.l1TO (s5.extBut _ _ D.l1i2 (s4.extBut _ _ D.l1TO e));have H2d:=H2c.keep (λo e=>s6.extBut _ _ D.TOi2.symm e) λo e=>s6.extBut _ _ D.l2TO e;have zl:z < h₆.objs.size:=Heap.lt_size z6;show wpAny _ _ (Builtin.SmallTypes.ownedTupleHandOut (.ref z) (.ref h₆.objs.size) >>=_) _ _ _
  refine wpAny_bind ?_;unfold Builtin.SmallTypes.ownedTupleHandOut;have z7:IsZ (h₆.push { cls:=.type "tuple",data:=.seq #[x,y] }) z TI TO .ellipsis (.bool b1):=Heap.get?_push_of_some _ z6;refine wpAny_bind (wpAny_setField_rec z7 (by simp) λh₈ z8 s8=>?_);replace z8:IsZ h₈ z TI TO (rawInt h₆.objs.size) (.bool b1):=z8
  refine wpAny_setField_rec z8 (by simp) λh₉ z9 s9=>?_;replace z9:IsZ h₉ z TI TO (rawInt h₆.objs.size) (.bool false):=z9
  have u9:∀c o,c≠z→h₆.get? c=some o→h₉.get? c=some o:=λc o n e=>s9.extBut _ _ n (s8.extBut _ _ n (Heap.get?_push_of_some _ e));have t9:IsPair h₉ h₆.objs.size x y:=s9.extBut _ _ (ab9 zl) (s8.extBut _ _ (ab9 zl) (Heap.get?_push_size _ rfl));have n9:h₉.objs.size=h₆.objs.size+1:=by rw[s9.1,s8.1,Heap.size_push]
  rw[sz] at z9 t9 n9;refine wpAny_pure ⟨_,rfl,?_⟩;show Q (.ref h₆.objs.size) _
  rw[sz];exact hQ h₉ ⟨⟨_,false,z9,.inr ⟨_,rfl⟩⟩,⟨x,y,u9 _ _ D.TOz o6⟩,u9 _ _ D.TIz (up _ _ D.TIz D.TITO D.TIi1 D.TIi2 hTI),H1c.keep (λo e=>u9 _ o D.i1z e) λo e=>u9 _ o D.l1z e,H2d.keep (λo e=>u9 _ o D.i2z e) λo e=>u9 _ o D.l2z e⟩ t9 n9 λc o n1 n2 n3 n4 e=>u9 c o n1 (up c o n1 n2 n3 n4 e)
theorem fin {Q:Fin→Shared→Prop} (hh:A.handled=none) (D:ZipApart z TI TO i1 i2 l1 l2) (hz:Zst c1 c2 z TI TO i1 i2 l1 l2 xs ys i s.heap) (hx:xs[i]?=none)
  (hE:∀h' e,(∀c o,c≠z→c≠TO→c≠i1→c≠i2→s.heap.get? c=some o→h'.get? c=some o)→(∃o,h'.get? e=some o∧o.cls=.type "StopIteration")→E (.ref e) { s with heap:=h' }):
  wpAny (model prog w) A (Builtin.«zip.__next__» ⟨[.ref z],[]⟩) Q E s:=by
 obtain ⟨⟨f0,b,z0,hf⟩,⟨p,q,hTO⟩,hTI,h1,h2⟩:=hz;show wpAny _ _ (field (.ref z) 2 >>=_) _ _ _
 refine wpAny_bind (wpAny_field z0 rfl (x:=.bool false) rfl ?_);show wpAny _ _ (field (.ref z) 3 >>=_) _ _ _
 refine wpAny_bind (wpAny_field z0 rfl (x:=.ref TI) rfl ?_);refine wpAny_bind (wpAny_seqItems hTI rfl ?_);show wpAny _ _ (Builtin.SmallTypes.ownedTupleIsFree (.ref z) >>=_) _ _ _
 refine wpAny_bind (free z0 hf λr h₁ b1 z1 s1=>?_);have k1:∀c o,c≠z→s.heap.get? c=some o→h₁.get? c=some o:=λc o n e=>s1.extBut _ _ n e;have H1:=h1.keep (λo e=>k1 _ o D.i1z e) λo e=>k1 _ o D.l1z e;cases r with
 | false=>
  simp only[aaz,if_false];refine wpAny_bind ?_;rw[←aeo];simp only[adj,adm];refine wpAny_bind (wpAny_bind (wpAny_holding ?_));show wpAny _ _ (Builtin.SmallTypes.nextOf (.ref i1) >>=_) _ _ _
  exact wpAny_bind (H1.stop (s:={ s with heap:=h₁ }) hh hx λh₂ e s2 he=>hE h₂ e (λc o n1 _ n3 _ g=>s2 _ _ n3 (k1 _ _ n1 g)) he)
 | true=>
  simp only[if_true];refine wpAny_bind (wpAny_rule ?_);refine wpAny_bind (wpAny_field z1 rfl (x:=.ref TO) rfl ?_);refine wpAny_bind (wpAny_setField_rec z1 (by simp) λh₂ z2 s2=>?_);replace z2:IsZ h₂ z TI TO .ellipsis (.bool b1):=z2
  have s2:Heap.SameBut z h₁ h₂:=s2;refine wpAny_bind ?_;simp only[af1,af8,adj,adm];have H1a:=H1.keep (λo e=>s2.extBut _ _ D.i1z e) λo e=>s2.extBut _ _ D.l1z e;refine wpAny_bind (wpAny_bind (wpAny_onRaise ?_));show wpAny _ _ (Builtin.SmallTypes.nextOf (.ref i1) >>=_) _ _ _
  refine wpAny_bind (H1a.stop (s:={ s with heap:=h₂ }) hh hx λh₃ e s3 he=>?_);obtain ⟨oe,hoe,hce⟩:=he;have z3:IsZ h₃ z TI TO .ellipsis (.bool b1):=s3 _ _ D.i1z.symm z2;have hez:e≠z:=λx=>by subst x;rw[z3] at hoe;cases hoe;simp at hce
  exact wpAny_setField_rec z3 (by simp) λh₄ _ s4=>hE h₄ e (λc o n1 _ n3 _ g=>s4.extBut _ _ n1 (s3 _ _ n3 (s2.extBut _ _ n1 (k1 _ _ n1 g)))) ⟨oe,s4.extBut _ _ hez hoe,hce⟩
theorem pyItem {x y:Value} {Q:Option Value→Shared→Prop} (D:ZipApart z TI TO i1 i2 l1 l2) (hz:Zst c1 c2 z TI TO i1 i2 l1 l2 xs ys i s.heap) (hx:xs[i]?=some x) (hy:ys[i]?=some y)
  (hQ:∀h',Zst c1 c2 z TI TO i1 i2 l1 l2 xs ys (i+1) h'→IsPair h' s.heap.objs.size x y→h'.objs.size=s.heap.objs.size+1→(∀c o,c≠z→c≠TO→c≠i1→c≠i2→s.heap.get? c=some o→h'.get? c=some o)→Q (some (.ref s.heap.objs.size)) { s with heap:=h' }):
  wpAny (model prog w) A (pyNext (.ref z)) Q E s:=by
 have hT:s.TypeIs (.ref z) "zip":=by obtain ⟨⟨f0,b,z0,_⟩,_⟩:=hz;exact ⟨_,z0,rfl⟩
 unfold pyNext;exact wpAny_bind (wpAny_attempt (wpAny_callSpecial?_slot (name:=Str.ofString "__next__") hT F.slot_zip_next (wpAny_call_entry F.slot_zip_next hT F.entry_zip_next (item D hz hx hy λh' a b c d=>wpAny_pure (hQ h' a b c d)) (F.args_zip_next_1 _))))
theorem pyFin {Q:Option Value→Shared→Prop} (hh:A.handled=none) (D:ZipApart z TI TO i1 i2 l1 l2) (hz:Zst c1 c2 z TI TO i1 i2 l1 l2 xs ys i s.heap) (hx:xs[i]?=none)
  (hQ:∀h',(∀c o,c≠z→c≠TO→c≠i1→c≠i2→s.heap.get? c=some o→h'.get? c=some o)→Q none { s with heap:=h' }):wpAny (model prog w) A (pyNext (.ref z)) Q E s:=by
 have hT:s.TypeIs (.ref z) "zip":=by obtain ⟨⟨f0,b,z0,_⟩,_⟩:=hz;exact ⟨_,z0,rfl⟩
 unfold pyNext;refine wpAny_bind (wpAny_attempt (wpAny_callSpecial?_slot (name:=Str.ofString "__next__") hT F.slot_zip_next (wpAny_call_entry F.slot_zip_next hT F.entry_zip_next (fin (by first | exact hh | simp[hh]) D hz hx λh' e hk he=>?_) (F.args_zip_next_1 _))));obtain ⟨o,ho,hc⟩:=he;refine wpAny_bind (wpAny_isInstance (T:="StopIteration") (b:=true) ⟨o,ho,hc⟩ isSubtype_stop ?_);exact wpAny_pure (hQ _ hk)
theorem pySelf {Q:Value→Shared→Prop} (hz:Zst c1 c2 z TI TO i1 i2 l1 l2 xs ys i s.heap) (h:Q (.ref z) s):wpAny (model prog w) A (pyIter (.ref z)) Q E s:=by
 have hT:s.TypeIs (.ref z) "zip":=by obtain ⟨⟨f0,b,z0,_⟩,_⟩:=hz;exact ⟨_,z0,rfl⟩
 refine wpAny_pyIter_slot hT F.slot_zip_iter (wpAny_call_entry F.slot_zip_iter hT F.entry_zip_iter ?_ (F.args_zip_iter_1 _));show wpAny _ _ (ret (.ref z)) _ _ s
 exact wpAny_pure ⟨_,rfl,"zip",_,hT,F.slot_zip_next.lookup,h⟩
end
theorem new_tl (l1 l2:Addr) (xs ys:Array Value):
  Meets (Builtin.«zip.__new__» ⟨[.type "zip",.ref l1,.ref l2],[]⟩) (λ_ R s=>s.heap.IsTuple l1 xs∧s.heap.IsList l2 ys∧
   R (.ok (.ret (.ref (s.heap.objs.size+4)))) { s with heap:=((((s.heap.push { cls:=.type "tuple_iterator",data:=.fields #[.ref l1,.int 0 0] }).push { cls:=.type "list_iterator",data:=.fields #[.ref l2,.int 0 0] }).push { cls:=.type "tuple",data:=.seq #[.ref s.heap.objs.size,.ref (s.heap.objs.size+1)] }).push { cls:=.type "tuple",data:=.seq #[.none,.none] }).push { cls:=.type "zip",data:=.fields #[.none,.bool false,.bool false,.ref (s.heap.objs.size+2),.ref (s.heap.objs.size+3)] } }):=
 .of_wp λprog w A R s h=>by
  obtain ⟨hp,g,d,tk,os⟩:=s;obtain ⟨hl1,hl2,h⟩:=h;have hsub:=sub_zip;have hL1:Heap.IsTuple (Shared.heap ⟨hp,g,d,tk,os⟩) l1 xs:=hl1;have hL2:Heap.IsList (Shared.heap ⟨hp.push { cls:=.type "tuple_iterator",data:=.fields #[.ref l1,.int 0 0] },g,d,tk,os⟩) l2 ys:=Heap.IsList.push hl2 _;simp only[←Heap.size_push] at h;wp_walk using wpAny_pyIter_tuple hL1,wpAny_pyIter_list hL2
  simp only[Heap.size_push] at h ⊢;exact ⟨_,rfl,h⟩
section
variable {prog:Program} {w:World} {A:Around} {E:Value→Shared→Prop} {s:Shared}
theorem Ny {l1 l2:Addr} {xs ys:Array Value} {Q:Value→Shared→Prop} (hl1:s.heap.IsTuple l1 xs) (hl2:s.heap.IsList l2 ys)
  (h:∀h',Zst true false (s.heap.objs.size+4) (s.heap.objs.size+2) (s.heap.objs.size+3) s.heap.objs.size (s.heap.objs.size+1) l1 l2 xs ys 0 h'→h'.objs.size=s.heap.objs.size+5→
   (∀c o,s.heap.get? c=some o→h'.get? c=some o)→Q (.ref (s.heap.objs.size+4)) { s with heap:=h' }):
  wpAny (model prog w) A (call (.type "zip") [.ref l1,.ref l2]) Q E s:=by
 refine callType_new F.called_zip (by decide) (F.typeCall_zip_2 _ _) (F.newCall_zip_2 _ _) (λobj=>F.args_object_init_3 obj _ _) F.entry_zip_new (new_tl l1 l2 xs ys) ⟨hl1,hl2,?_⟩;generalize hn:s.heap.objs.size=n at h ⊢;have e1:(s.heap.push { cls:=.type "tuple_iterator",data:=.fields #[.ref l1,.int 0 0] }).get? n=some { cls:=.type "tuple_iterator",data:=.fields #[.ref l1,.int 0 0] }:=by rw[←hn];exact Heap.get?_push_size _ rfl
 have n1:(s.heap.push { cls:=.type "tuple_iterator",data:=.fields #[.ref l1,.int 0 0] }).objs.size=n+1:=by rw[Heap.size_push,hn]
 have k1:∀c o,s.heap.get? c=some o→(s.heap.push { cls:=.type "tuple_iterator",data:=.fields #[.ref l1,.int 0 0] }).get? c=some o:=λc o e=>Heap.get?_push_of_some _ e;generalize s.heap.push { cls:=.type "tuple_iterator",data:=.fields #[.ref l1,.int 0 0] }=h1 at e1 n1 k1 ⊢;have e2:(h1.push { cls:=.type "list_iterator",data:=.fields #[.ref l2,.int 0 0] }).get? (n+1)=some { cls:=.type "list_iterator",data:=.fields #[.ref l2,.int 0 0] }:=by rw[←n1];exact Heap.get?_push_size _ rfl
 have n2:(h1.push { cls:=.type "list_iterator",data:=.fields #[.ref l2,.int 0 0] }).objs.size=n+2:=by rw[Heap.size_push,n1]
 have k2:∀c o,h1.get? c=some o→(h1.push { cls:=.type "list_iterator",data:=.fields #[.ref l2,.int 0 0] }).get? c=some o:=λc o e=>Heap.get?_push_of_some _ e;generalize h1.push { cls:=.type "list_iterator",data:=.fields #[.ref l2,.int 0 0] }=h2 at e2 n2 k2 ⊢;have e3:(h2.push { cls:=.type "tuple",data:=.seq #[.ref n,.ref (n+1)] }).get? (n+2)=some { cls:=.type "tuple",data:=.seq #[.ref n,.ref (n+1)] }:=by rw[←n2];exact Heap.get?_push_size _ rfl
 have n3:(h2.push { cls:=.type "tuple",data:=.seq #[.ref n,.ref (n+1)] }).objs.size=n+3:=by rw[Heap.size_push,n2]
 have k3:∀c o,h2.get? c=some o→(h2.push { cls:=.type "tuple",data:=.seq #[.ref n,.ref (n+1)] }).get? c=some o:=λc o e=>Heap.get?_push_of_some _ e;generalize h2.push { cls:=.type "tuple",data:=.seq #[.ref n,.ref (n+1)] }=h3 at e3 n3 k3 ⊢;have e4:(h3.push { cls:=.type "tuple",data:=.seq #[.none,.none] }).get? (n+3)=some { cls:=.type "tuple",data:=.seq #[.none,.none] }:=by rw[←n3];exact Heap.get?_push_size _ rfl
 have n4:(h3.push { cls:=.type "tuple",data:=.seq #[.none,.none] }).objs.size=n+4:=by rw[Heap.size_push,n3]
 have k4:∀c o,h3.get? c=some o→(h3.push { cls:=.type "tuple",data:=.seq #[.none,.none] }).get? c=some o:=λc o e=>Heap.get?_push_of_some _ e;generalize h3.push { cls:=.type "tuple",data:=.seq #[.none,.none] }=h4 at e4 n4 k4 ⊢;have e5:(h4.push { cls:=.type "zip",data:=.fields #[.none,.bool false,.bool false,.ref (n+2),.ref (n+3)] }).get? (n+4)=some { cls:=.type "zip",data:=.fields #[.none,.bool false,.bool false,.ref (n+2),.ref (n+3)] }:=by rw[←n4];exact Heap.get?_push_size _ rfl
 have n5:(h4.push { cls:=.type "zip",data:=.fields #[.none,.bool false,.bool false,.ref (n+2),.ref (n+3)] }).objs.size=n+5:=by rw[Heap.size_push,n4]
 have k5:∀c o,h4.get? c=some o→(h4.push { cls:=.type "zip",data:=.fields #[.none,.bool false,.bool false,.ref (n+2),.ref (n+3)] }).get? c=some o:=λc o e=>Heap.get?_push_of_some _ e;generalize h4.push { cls:=.type "zip",data:=.fields #[.none,.bool false,.bool false,.ref (n+2),.ref (n+3)] }=h5 at e5 n5 k5 ⊢;have up:∀c o,s.heap.get? c=some o→h5.get? c=some o:=λc o e=>k5 _ _ (k4 _ _ (k3 _ _ (k2 _ _ (k1 _ _ e))));obtain ⟨o1,g1,r1⟩:=hl1;obtain ⟨o2,g2,r2⟩:=hl2;exact ⟨⟨_,e5,rfl⟩,h _ ⟨⟨.none,false,e5,.inl rfl⟩,⟨_,_,k5 _ _ e4⟩,k5 _ _ (k4 _ _ e3),⟨⟨_,k5 _ _ (k4 _ _ (k3 _ _ (k2 _ _ e1))),rfl,rfl⟩,⟨o1,up _ _ g1,r1⟩⟩,⟨⟨_,k5 _ _ (k4 _ _ (k3 _ _ e2)),rfl,rfl⟩,⟨o2,up _ _ g2,r2⟩⟩⟩ n5 up⟩
theorem Pg {l1 l2:Addr} {xs ys:Array Value} {Q:Value→Shared→Prop} (hl1:s.heap.IsList l1 xs) (hl2:s.heap.IsList l2 ys)
  (h:∀h',Zst false false (s.heap.objs.size+4) (s.heap.objs.size+2) (s.heap.objs.size+3) s.heap.objs.size (s.heap.objs.size+1) l1 l2 xs ys 0 h'→h'.objs.size=s.heap.objs.size+5→
   (∀c o,s.heap.get? c=some o→h'.get? c=some o)→Q (.ref (s.heap.objs.size+4)) { s with heap:=h' }):
  wpAny (model prog w) A (call (.type "zip") [.ref l1,.ref l2]) Q E s:=
 call_zip_2 hl1 hl2 λh' a1 a2 a3 a4 a5 a6 keep=>h h' ⟨⟨.none,false,a1,.inl rfl⟩,⟨_,_,a3⟩,a2,⟨a4,hl1.at λo e=>keep _ o e⟩,⟨a5,hl2.at λo e=>keep _ o e⟩⟩ a6 keep
end
structure Mk (xs ys:Array Value) (lo:Addr) (h:Heap) (as:List Addr):Prop where
 nd:as.Nodup
 up:∀a∈as,lo < a
 at':∀(j:Nat) (a:Addr),as[j]?=some a→∃x y,xs[j]?=some x∧ys[j]?=some y∧IsPair h a x y
section
variable {prog:Program} {w:World} {A:Around} {s:Shared} {R:Result→Shared→Prop} {c1 c2:Bool} {z TI TO i1 i2 l1 l2 S:Addr} {xs ys:Array Value}
theorem loop (hh:A.handled=none) (D:ZipApart z TI TO i1 i2 l1 l2) (hS:S∉[z,TI,TO,i1,i2,l1,l2]) (lo:Addr) (hlo:z≤lo∧TO≤lo∧i1≤lo∧i2≤lo∧S≤lo) (hn:xs.size=ys.size) (hz:xs.size≤sizeLine) (res:Value) {h₁:Heap}
  (hR:∀h' tk acc c as,(∀b o,b∉[S,z,TO,i1,i2]→h₁.get? b=some o→h'.get? b=some o)→h'.get? S=some { cls:=.type "list",dict:=none,data:=.seq acc c,slots:=#[] }→as.length=xs.size→Mk xs ys lo h' as→
   acc.toList=as.map Value.ref→R (.ok (.ret res)) { s with heap:=h',toks:=tk }):
  ∀(k i:Nat) (h:Heap) (tk c:Nat) (acc:Array Value) (as:List Addr),xs.size - i=k→i≤xs.size→Zst c1 c2 z TI TO i1 i2 l1 l2 xs ys i h→(∀b o,b∉[S,z,TO,i1,i2]→h₁.get? b=some o→h.get? b=some o)→
   h.get? S=some { cls:=.type "list",dict:=none,data:=.seq acc c,slots:=#[] }→acc.toList=as.map Value.ref→as.length=i→Mk xs ys lo h as→lo < h.objs.size→
   codeAny (model prog w) A (.builtin "list.extend.loop" ⟨[.ref S,.ref z,res],[]⟩) R { s with heap:=h,toks:=tk }:=by
 simp only[aaq,aah,or_false,not_or] at hS;obtain ⟨Sz,STI,STO,S1,S2,Sl1,Sl2⟩:=hS;intro k;induction k with
 | zero=>
  intro i h tk c acc as hk hi hst hkeep hSl hacc hal hG hIs;refine codeAny_builtin PySem.F.entry_extend_loop ?_;rw[Around.under_plainId PySem.F.plain_extend_loop _];show wpAny _ A.in1 (pyNext (.ref z) >>=_) _ _ _
  refine wpAny_bind (pyFin (s:={ s with heap:=h,toks:=tk }) (A:=A.in1) hh D hst (ad6 (by omega)) λh' he=>?_);refine wpAny_pure (hR h' tk acc c as (λb o hb e=>?_) (he S _ Sz STO S1 S2 hSl) (by omega) ⟨hG.nd,hG.up,λj a hj=>?_⟩ hacc)
  ·have hb':=hb;simp only[aaq,aah,or_false,not_or] at hb';exact he b o hb'.2.1 hb'.2.2.1 hb'.2.2.2.1 hb'.2.2.2.2 (hkeep b o hb e)
  ·obtain ⟨x,y,g1,g2,g3⟩:=hG.at' j a hj;have u:=hG.up a (aac hj);have ne:∀{c:Addr},c≤lo→a≠c:=λq=>ab9 (acy q u);exact ⟨x,y,g1,g2,he a _ (ne hlo.1) (ne hlo.2.1) (ne hlo.2.2.1) (ne hlo.2.2.2.1) g3⟩
 | succ k ih=>
  intro i h tk c acc as hk hi hst hkeep hSl hacc hal hG hIs;have hlt:i < xs.size:=by omega
  have hsz:acc.size=i:=by rw[←abt,hacc,aa0,hal]
  refine codeAny_builtin PySem.F.entry_extend_loop ?_;rw[Around.under_plainId PySem.F.plain_extend_loop _];show wpAny _ A.in1 (pyNext (.ref z) >>=_) _ _ _
  refine wpAny_bind (pyItem (s:={ s with heap:=h,toks:=tk }) D hst (abl hlt) (abl (by omega)) λh' hst' ht hz' hkp=>?_);dsimp only at ht hz' hkp ⊢;have hS':=hkp S _ Sz STO S1 S2 hSl;have up:∀b o,b≠S→h'.get? b=some o→(h'.update S (Obj.mapSeq (·.push (Value.ref h.objs.size)))).get? b=some o:=λb o hb e=>(Heap.get?_update_other _ _ (Ne.symm hb)).trans e;have hSs:S < h.objs.size:=Heap.lt_size hSl;show wpAny _ A.in1 (updateSeq S (·.push (Value.ref h.objs.size)) >>=_) _ _ _
  refine wpAny_bind ?_;refine wpAny_updateSeq hS' rfl (wpAny_pure ⟨plainId_quiet PySem.F.plain_extend_loop _,ih (i+1) _ tk _ (acc.push (Value.ref h.objs.size)) (as++[h.objs.size]) (by omega) hlt
   (hst'.keep (λb hb o e=>up b o (λx=>by subst x;simp only[aaq,aah,or_false] at hb;rcases hb with q | q | q | q | q <;> exact absurd q (by assumption)) e) (λo e=>up _ o (Ne.symm Sl1) e) λo e=>up _ o (Ne.symm Sl2) e)
   (λb o hb e=>?_) (Heap.get?_update_self _ hS' rfl) (by rw[Array.toList_push,hacc,aa5];rfl) (by rw[aa2,hal];rfl) ⟨?_,?_,?_⟩ ?_⟩) (by rw[hsz];omega) (by show (acc.push (Value.ref h.objs.size)).size≤sizeLine+1;rw[Array.size_push,hsz];omega)
  ·have hb':=hb;simp only[aaq,aah,or_false,not_or] at hb';exact up b o hb'.1 (hkp b o hb'.2.1 hb'.2.2.1 hb'.2.2.2.1 hb'.2.2.2.2 (hkeep b o hb e))
  ·refine List.nodup_append.mpr ⟨hG.nd,(by simp),λa ha b hb=>?_⟩;rw[List.mem_singleton.mp hb];obtain ⟨j,hj⟩:=List.mem_iff_getElem?.mp ha;obtain ⟨_,_,_,_,e3⟩:=hG.at' j a hj;exact aam (Heap.lt_size e3)
  ·intro a ha;rcases List.mem_append.mp ha with ha | ha
   ·exact hG.up a ha
   ·rw[List.mem_singleton.mp ha];exact hIs
  ·intro j b hj;rcases Nat.lt_trichotomy j as.length with g | g | g
   ·rw[aaf g] at hj;obtain ⟨x,y,e1,e2,e3⟩:=hG.at' j b hj;have u:=hG.up b (aac hj);have ne:∀{c:Addr},c≤lo→b≠c:=λq=>ab9 (acy q u);exact ⟨x,y,e1,e2,up b _ (ne hlo.2.2.2.2) (hkp b _ (ne hlo.1) (ne hlo.2.1) (ne hlo.2.2.1) (ne hlo.2.2.2.1) e3)⟩
   ·subst g;have hb:h.objs.size=b:=by simpa using hj
    subst hb;exact ⟨_,_,by rw[hal];exact abl hlt,by rw[hal];exact abl (by omega),up _ _ (ab9 hSs) ht⟩
   ·have hnone:(as++[h.objs.size])[j]?=none:=abe (by rw[aa2,aag];omega);rw[hnone] at hj;cases hj
  ·rw[Heap.size_update,hz'];exact ach hIs
end
theorem E6:typeLookup (.type "zip") "__len__"=pure none:=by rw[typeLookup_type,builtinLookup_eq_fast];kernel_rfl
theorem Qc:typeLookup (.type "zip") "__length_hint__"=pure none:=by rw[typeLookup_type,builtinLookup_eq_fast];kernel_rfl
section
variable {prog:Program} {w:World} {A:Around} {E:Value→Shared→Prop} {s:Shared} {c1 c2:Bool} {z TI TO i1 i2 l1 l2:Addr} {xs ys:Array Value}
theorem extend {R:Result→Shared→Prop} (hh:A.handled=none) (D:ZipApart z TI TO i1 i2 l1 l2) (hz:Zst c1 c2 z TI TO i1 i2 l1 l2 xs ys 0 s.heap) (S:Addr) (hS:S∉[z,TI,TO,i1,i2,l1,l2]) (lo:Addr) (hlo:z≤lo∧TO≤lo∧i1≤lo∧i2≤lo∧S≤lo) (hls:lo < s.heap.objs.size) (hn:xs.size=ys.size) (hsz:xs.size≤sizeLine) (res:Value) (c₀:Nat) (hSl:s.heap.get? S=some { cls:=.type "list",data:=.seq #[] c₀ })
  (hR:∀h' tk acc c as,(∀b o,b∉[S,z,TO,i1,i2]→s.heap.get? b=some o→h'.get? b=some o)→h'.get? S=some { cls:=.type "list",dict:=none,data:=.seq acc c,slots:=#[] }→as.length=xs.size→Mk xs ys lo h' as→
   acc.toList=as.map Value.ref→R (.ok (.ret res)) { s with heap:=h',toks:=tk }):
  wpAny (model prog w) A.in1 (Builtin.List.listExtendWith (.ref S) (.ref z) res)
   (λfin s'=>match fin with | .done f=>R (.ok f) s' | .again c'=>c'.quiet=true∧codeAny (model prog w) A c' R s') (λe s'=>R (.error e) s') s:=by
 have hT:s.TypeIs (.ref z) "zip":=by obtain ⟨⟨f0,b,z0,_⟩,_⟩:=hz;exact ⟨_,z0,rfl⟩
 have hSz:S≠z:=λe=>hS (by simp[e]);unfold Builtin.List.listExtendWith;refine wpAny_bind (wpAny_typeOf hT ?_);have h1:Builtin.List.listSameRef (.ref S) (.ref z)=false:=by simp[Builtin.List.listSameRef,hSz]
 have h2:(Value.type "zip"==Value.type "list")=false:=by decide
 have h3:(Value.type "zip"==Value.type "tuple")=false:=by decide
 simp only[h1,h2,h3,adq,aaz,if_false];refine wpAny_bind (pySelf hz ?_);refine wpAny_bind (wpAny_holding ?_);unfold Builtin.List.listLengthHint;refine wpAny_bind (wpAny_specialOf hT E6 ?_);show wpAny _ A.in1 (specialOf (Value.ref z) (Str.ofString "__length_hint__") >>=_) _ _ _
 refine wpAny_bind (wpAny_specialOf hT Qc ?_);refine wpAny_pure ?_;show wpAny _ A.in1 (rule "list.extend.makes-room" >>=λ_=>Builtin.List.listTouch (.ref S) >>=λ_=>again (.builtin "list.extend.loop" ⟨[.ref S,.ref z,res],[]⟩)) _ _ _
 refine wpAny_bind (wpAny_rule ?_);refine wpAny_bind ?_;show wpAny _ A.in1 (updateSeq S (·.push .none) >>=λ_=>updateSeq S (·.pop)) _ _ _
 refine wpAny_bind (wpAny_updateSeq hSl rfl ?_);have hS₂:=Heap.get?_update_self (Obj.mapSeq (·.push Value.none)) hSl rfl;refine wpAny_updateSeq (hz:=by seq_fits) hS₂ rfl ?_;have hS₃:=Heap.get?_update_self (Obj.mapSeq (·.pop)) hS₂ rfl;have oth:∀b o,b≠S→s.heap.get? b=some o→((s.heap.update S (Obj.mapSeq (·.push Value.none))).update S (Obj.mapSeq (·.pop))).get? b=some o:=λb o hb e=>(Heap.get?_update_other _ _ (Ne.symm hb)).trans ((Heap.get?_update_other _ _ (Ne.symm hb)).trans e);have hS':=hS;simp only[aaq,aah,or_false,not_or] at hS';refine wpAny_pure ⟨plainId_quiet PySem.F.plain_extend_loop _,loop (s:=s) (h₁:=s.heap) hh D hS lo hlo hn hsz res hR xs.size 0 _ _ _ #[] [] (acm _) (aa7 _) (hz.keep (λb hb o e=>oth b o (λx=>?_) e) (λo e=>oth _ o (Ne.symm hS'.2.2.2.2.2.1) e) λo e=>oth _ o (Ne.symm hS'.2.2.2.2.2.2) e) (λb o hb e=>oth b o (λx=>hb (by simp[x])) e) hS₃ rfl rfl ⟨acj,(λ_ ha=>nomatch ha),(λj a hj=>by simp at hj)⟩ ?_⟩
 ·subst x;simp only[aaq,aah,or_false] at hb;rcases hb with q | q | q | q | q
  ·exact hS'.1 q
  ·exact hS'.2.1 q
  ·exact hS'.2.2.1 q
  ·exact hS'.2.2.2.1 q
  ·exact hS'.2.2.2.2.1 q
 ·rw[Heap.size_update,Heap.size_update];exact hls
theorem Ob {Q:Value→Shared→Prop} (hh:A.handled=none) (D:ZipApart z TI TO i1 i2 l1 l2) (hz:Zst c1 c2 z TI TO i1 i2 l1 l2 xs ys 0 s.heap) (hlt:∀b∈[z,TI,TO,i1,i2,l1,l2],b < s.heap.objs.size) (hn:xs.size=ys.size) (hsz:xs.size≤sizeLine)
  (hQ:∀h' tk acc c as,(∀b o,b∉[z,TO,i1,i2]→s.heap.get? b=some o→h'.get? b=some o)→h'.get? s.heap.objs.size=some { cls:=.type "list",dict:=none,data:=.seq acc c,slots:=#[] }→as.length=xs.size→Mk xs ys s.heap.objs.size h' as→
   acc.toList=as.map Value.ref→Q (.ref s.heap.objs.size) { s with heap:=h',toks:=tk }):
  wpAny (model prog w) A (call (.type "list") [.ref z]) Q E s:=by
 refine callType_codes (Q₁:=λobj s₁=>obj=.ref s.heap.objs.size∧s₁={ s with heap:=s.heap.push { cls:=.type "list",data:=.seq #[] } }) PySem.F.called_list (PySem.F.typeCall_list_1 _) PySem.F.entry_list_init
  (code_list_new _ ⟨rfl,rfl⟩) λobj s₁ h₁=>?_
 obtain ⟨rfl,rfl⟩:=h₁;have hS:(s.heap.push { cls:=.type "list",data:=.seq #[] }).get? s.heap.objs.size=some { cls:=.type "list",data:=.seq #[] }:=Heap.get?_push_size _ rfl;have hSf:s.heap.objs.size∉[z,TI,TO,i1,i2,l1,l2]:=λe=>abc _ (hlt _ e);have hz1:=hz.keep (h':=s.heap.push { cls:=.type "list",data:=.seq #[] }) (λb _ o e=>Heap.get?_push_of_some _ e) (λo e=>Heap.get?_push_of_some _ e) λo e=>Heap.get?_push_of_some _ e;refine ⟨⟨_,hS,rfl⟩,PySem.F.args_list_init_2 _ _,?_⟩;have z1:=hlt z (by simp);have z2:=hlt TO (by simp);have z3:=hlt i1 (by simp);have z4:=hlt i2 (by simp);show wpAny _ _ (do let old ←Builtin.List.listItems (.ref s.heap.objs.size);Builtin.List.listUpdate (.ref s.heap.objs.size) (λ_=>#[]);letGo old.toList.reverse;Builtin.List.listExtendWith (.ref s.heap.objs.size) (.ref z) .none) _ _ _
 refine wpAny_bind ?_;unfold Builtin.List.listItems;refine wpAny_bind (wpAny_seqItems hS rfl (wpAny_pure ?_));show wpAny _ _ (updateSeq s.heap.objs.size (λ_=>#[]) >>=λ_=>letGo (#[]:Array Value).toList.reverse >>=λ_=>Builtin.List.listExtendWith (.ref s.heap.objs.size) (.ref z) .none) _ _ _
 refine wpAny_bind (wpAny_updateSeq hS rfl ?_);have hS₂:=Heap.get?_update_self (Obj.mapSeq (λ_=>(#[]:Array Value))) hS rfl;have oth:∀b o,b≠s.heap.objs.size→(s.heap.push { cls:=.type "list",data:=.seq #[] }).get? b=some o→((s.heap.push { cls:=.type "list",data:=.seq #[] }).update s.heap.objs.size (Obj.mapSeq (λ_=>(#[]:Array Value)))).get? b=some o:=λb o hb e=>(Heap.get?_update_other _ _ (Ne.symm hb)).trans e;refine wpAny_bind (wpAny_letGo ?_);refine extend (A:=A.in1) hh D (hz1.keep (λb hb o e=>oth b o (aam (hlt b (by simp only[aaq,aah,or_false] at hb ⊢;rcases hb with q | q | q | q | q <;> simp[q]))) e) (λo e=>oth _ o (aam (hlt l1 (by simp))) e) λo e=>oth _ o (aam (hlt l2 (by simp))) e) _ hSf s.heap.objs.size ⟨abu z1,abu z2,abu z3,abu z4,aa4 _⟩ (by show _ < (Heap.update _ _ _).objs.size;rw[Heap.size_update,Heap.size_push];exact ae2 _) hn hsz .none _ hS₂ λh' tk acc c as hk hS' hl hG hacc=>?_;exact ⟨rfl,hQ h' tk acc c as (λb o hb e=>hk b o (λx=>by
  rcases List.mem_cons.mp x with q | q
  ·exact abc _ (q ▸ Heap.lt_size e)
  ·exact hb q) (oth b o (aam (Heap.lt_size e)) (Heap.get?_push_of_some _ e))) hS' hl hG hacc⟩
end
end L2.Zg
namespace L2
open PySem PySem.Spec PyProof.Rows Zd Zg
theorem b_zip0:bootBuiltins "zip"=some (.type "zip"):=by decide+kernel
def SqB (K:PySem.W.Frag):Bool→Hp→Addr→List V→Prop
 | true,H,a,xs=>SqT K H a xs
 | false,H,a,xs=>SqL K H a xs
def itB:Bool→Heap→Addr→Addr→Nat→Prop
 | true,h,it,l,i=>h.IsTupleIter it l i
 | false,h,it,l,i=>h.IsListIter it l i
section
variable {X:Cx} {pins:List (Addr×Obj)} {σ:St} {H:Hp} {s:Shared}
theorem Inv.sqB (I:Inv X pins σ H s) {b:Bool} {a:Addr} {xs:List V} (h:SqB X.K b H a xs):∃its:List Value,Vals xs its∧xs.length≤sizeLine∧a < s.heap.objs.size∧(∀it i,itB b s.heap it a i→Hf b it a its.toArray i s.heap)∧(b=true→s.heap.IsTuple a its.toArray)∧(b=false→s.heap.IsList a its.toArray):=by
 cases b
 ·obtain ⟨its,r,p,z⟩:=I.list h;refine ⟨its,r,z,?_,λit i q=>⟨q,p.isList⟩,(λe=>nomatch e),λ_=>p.isList⟩;obtain ⟨o,e,_⟩:=p.isList;exact Heap.lt_size e
 ·obtain ⟨its,r,p,z⟩:=I.tuple h;refine ⟨its,r,z,?_,λit i q=>⟨q,p⟩,(λ_=>p),(λe=>nomatch e)⟩;obtain ⟨o,e,_⟩:=p;exact Heap.lt_size e
end
section
variable {X:Cx}
theorem Dx {pins:List (Addr×Obj)} {σ:St} {H:Hp} {s:Shared} {c:Bool} {l1 l2:Addr} {xs ys:List V} {A:Around} {E:Value→Shared→Prop} {Q:Value→Shared→Prop} (I:Inv X pins σ H s) (h1:SqB X.K c H l1 xs) (h2:SqL X.K H l2 ys)
  (q:∀(u v:List Value) (h':Heap),Vals xs u→Vals ys v→Zst c false (s.heap.objs.size+4) (s.heap.objs.size+2) (s.heap.objs.size+3) s.heap.objs.size (s.heap.objs.size+1) l1 l2 u.toArray v.toArray 0 h'→h'.objs.size=s.heap.objs.size+5→(∀c o,s.heap.get? c=some o→h'.get? c=some o)→l1 < s.heap.objs.size→l2 < s.heap.objs.size→Q (.ref (s.heap.objs.size+4)) { s with heap:=h' }):
  wpAny (model X.prog X.w) A (call (.type "zip") [.ref l1,.ref l2]) Q E s:=by
 obtain ⟨u,ru,_,lt1,_,t1,g1⟩:=I.sqB h1;obtain ⟨v,rv,_,lt2,_,t2,g2⟩:=I.sqB (b:=false) h2;cases c with
 | true=>exact Ny (t1 rfl) (g2 rfl) λh' a b d=>q u v h' ru rv a b d lt1 lt2
 | false=>exact Pg (g1 rfl) (g2 rfl) λh' a b d=>q u v h' ru rv a b d lt1 lt2
end
noncomputable def ip (H:Hp) (N:Addr→Option HO):Hp:=λb=>match N b with | some o=>some o | none=>H b
theorem Inv.many {X:Cx} {pins:List (Addr×Obj)} {σ:St} {H:Hp} {s:Shared} {h':Heap} {t':Nat} {N:Addr→Option HO} (I:Inv X pins σ H s) (k:∀b u,s.heap.get? b=some u→h'.get? b=some u) (hp:∀a o,N a=some o→s.heap.objs.size≤a) (new:∀a o,N a=some o→bp X.prog X.w (ip H N) h' a o):
  Inv X pins σ (ip H N) { s with heap:=h',toks:=t' }:=by
 have old:∀b,b < s.heap.objs.size→ip H N b=H b:=λb hb=>by
  unfold ip;cases e:N b with
  | none=>rfl
  | some o=>exact absurd (aai hb (hp b o e)) (abc _)
 have tr:∀b u,H b=some u→ip H N b=some u:=λb u e=>by rw[old b (I.hok.lt e)];exact e
 refine I.step (g':=s.gens) (d':=s.drawn) (ch:=[]) (λb hb=>nomatch hb) (λb o _ _ _ e _=>k b o e) (λb o _ _ _ e _=>⟨o.slots,k b o e⟩) (λb o _ e n=>by rw[old b (Heap.lt_size e)];exact n)
  (λb o _ e=>⟨o,k b o e⟩) (λb xs e=>tr b _ e) (λb o u e=>tr b _ e) (λb ps e=>⟨#[],by rw[tr b _ e];simp⟩) (λm hm=>hm.at λo e=>k _ o e) (λb u e=>?_) I.bare
 cases en:N b with
 | some o=>
  have:ip H N b=some o:=by unfold ip;rw[en]
  rw[this] at e;cases e
  exact new b _ en
 | none=>
  have:ip H N b=H b:=by unfold ip;rw[en]
  rw[this] at e;exact (I.hok b u e).se (λc v _ q=>k c v q) (λc q=>tr c _ q) λc xs q=>tr c _ q
theorem wg {β:Type}:∀{as:List Addr} {ps:List β},as.Nodup→∀{j:Nat} {a:Addr} {p:β},as[j]?=some a→ps[j]?=some p→(as.zip ps).lookup a=some p
 | [],_,_,j,a,p,h,_=>by simp at h
 | _::_,[],_,j,a,p,_,h=>by simp at h
 | b::as,q::ps,nd,0,a,p,h1,h2=>by
  simp at h1 h2;subst h1 h2;simp[List.lookup]
 | b::as,q::ps,nd,j+1,a,p,h1,h2=>by
  simp only[ae5] at h1 h2;have hn:=List.nodup_cons.mp nd;have ne:a≠b:=λe=>hn.1 (e ▸ aac h1);rw[adp,ae0];simp only[show (a==b)=false from beq_eq_false_iff_ne.mpr ne];exact wg hn.2 h1 h2
theorem vg {β:Type}:∀{as:List Addr} {ps:List β} {a:Addr} {p:β},(as.zip ps).lookup a=some p→∃j:Nat,as[j]?=some a∧ps[j]?=some p
 | [],_,a,p,h=>by simp at h
 | _::_,[],a,p,h=>by simp at h
 | b::as,q::ps,a,p,h=>by
  rw[adp,ae0] at h;by_cases e:a=b
  ·simp only[show (a==b)=true from beq_iff_eq.mpr e] at h;cases h
   exact ⟨0,by rw[e];rfl,rfl⟩
  ·simp only[show (a==b)=false from beq_eq_false_iff_ne.mpr e] at h;obtain ⟨j,h1,h2⟩:=vg h;exact ⟨j+1,h1,h2⟩
theorem yv:∀as:List Addr,Vals (as.map V.ref) (as.map Value.ref)
 | []=>.nil
 | _::as=>.cons rfl (yv as)
def tLZ (K:PySem.W.Frag) (ta:TA):TE:=λσ H Q=>ta σ H λvs H1=>∃(l1 l2:Addr) (xs ys:List V),vs=[.ref l1,.ref l2]∧SqT K H1 l1 xs∧SqL K H1 l2 ys∧xs.length=ys.length∧
 ∀(l:Addr) (as:List Addr) (H2:Hp),ak H1 H2→H1 l=none→as.length=xs.length→H2 l=some (.lst (as.map V.ref))→(∀(j:Nat) (x y:V),xs[j]?=some x→ys[j]?=some y→∃a,as[j]?=some a∧H2 a=some (.tup [x,y]))→Q (.ref l) H2
section
variable {X:Cx}
theorem Ek {a b:Expr} {ta:TA} {p p2 pos pos2:Pos} (hc:X.calm=true) (hg:Gl X "list") (hm:X.mg "list"=none) (hg2:Gl X "zip") (hm2:X.mg "zip"=none) (ha:PA X [a,b] ta)
  (hs:starEach [.Call (.Name "zip" p2) [a,b] [] pos2] X.env=[(false,eval (.Call (.Name "zip" p2) [a,b] [] pos2) X.env)]:=by rfl) (hs2:starEach [a,b] X.env=(false,eval a X.env)::starEach [b] X.env:=by rfl) (hpl:(backTo pos2 (starEach [b] X.env)).any (·.1)=false:=by rfl):
  PE X (.Call (.Name "list" p) [.Call (.Name "zip" p2) [a,b] [] pos2] [] pos) (tLZ X.K ta):=by
 intro pins s σ H Q I h;refine wpAny_Call_Name_kw (ir I hg hm pw ?_);refine PyProof.Rows.callWith_type1 ?_ hs rfl;rw[hs];show wpAny _ _ (spliced ((false,eval _ X.env)::backTo pos [])) _ _ s
 refine Calls.spliced_cons ?_;refine wpAny_Call_Name_kw (ir I hg2 hm2 b_zip0 ?_);refine PyProof.Rows.callWith_type1 (thn (ha pos2 pins s σ H _ I h) λus s1 ⟨vs,H1,I1,r1,q1⟩=>?_) hs2 hpl;obtain ⟨l1,l2,xs,ys,rfl,e1,e2,hl,q⟩:=q1;obtain ⟨u1,u2,rfl,ru1,ru2⟩:=vals2 r1;cases ru1
 cases ru2
 have zl:xs.length≤sizeLine:=by obtain ⟨_,_,_,z⟩:=I1.tuple e1;exact z
 refine Dx (c:=true) I1 e1 e2 λu v h' ru rv zs hz keep lt1 lt2=>Calls.spliced_nil ?_;have n1:=ru.length;have n2:=rv.length;refine Ob (s:={ s1 with heap:=h' }) (I1.ok.hd hc) (zipApart_new lt1 lt2) zs (λb hb=>?_) (by rw[aa6,aa6];omega) (by rw[aa6];omega) λh2 tk acc c as kp hL hal hM hacc=>?_
 ·have hz':(Shared.heap { s1 with heap:=h' }).objs.size=s1.heap.objs.size+5:=hz;rw[hz'];simp only[aaq,aah,or_false] at hb;rcases hb with rfl | rfl | rfl | rfl | rfl | rfl | rfl
  ·exact acu (by decide) _
  ·exact acu (by decide) _
  ·exact acu (by decide) _
  ·exact Nat.lt_add_of_pos_right (by decide)
  ·exact acu (by decide) _
  ·exact aai lt1 (abj _ _)
  ·exact aai lt2 (abj _ _)
 have hM:Zg.Mk u.toArray v.toArray h'.objs.size h2 as:=hM;have kp:∀b o,b∉[s1.heap.objs.size+4,s1.heap.objs.size+3,s1.heap.objs.size,s1.heap.objs.size+1]→h'.get? b=some o→h2.get? b=some o:=kp;have hL:h2.get? h'.objs.size=some { cls:=.type "list",dict:=none,data:=.seq acc c,slots:=#[] }:=hL;rw[aa6] at hal;have le:s1.heap.objs.size≤h'.objs.size:=by rw[hz];exact abj _ _
 have k2:∀b o,s1.heap.get? b=some o→h2.get? b=some o:=λb o e=>kp b o (λz=>by
  have lt:=Heap.lt_size e;simp only[aaq,aah,or_false] at z;rcases z with rfl | rfl | rfl | rfl
  ·exact absurd lt (Nat.not_lt.mpr (abj _ _))
  ·exact absurd lt (Nat.not_lt.mpr (abj _ _))
  ·exact absurd lt (abc _)
  ·exact absurd lt (Nat.not_lt.mpr (abj _ _))) (keep b o e)
 let N:Addr→Option HO:=λb=>if b=h'.objs.size then some (.lst (as.map V.ref)) else ((as.zip (xs.zip ys)).lookup b).map λp=>.tup [p.1,p.2]
 have Nl:N h'.objs.size=some (.lst (as.map V.ref)):=if_pos rfl;have Na:∀(j:Nat) (a:Addr) (x y:V),as[j]?=some a→xs[j]?=some x→ys[j]?=some y→N a=some (.tup [x,y]):=λj a x y h1 h3 h4=>by
  show (if a=h'.objs.size then _ else _)=_
  rw[if_neg (ab9 (hM.up a (aac h1)))];have:(xs.zip ys)[j]?=some (x,y):=List.getElem?_zip_eq_some.mpr ⟨h3,h4⟩;rw[wg hM.nd h1 this];rfl
 have inv:∀a o,N a=some o→(a=h'.objs.size∧o=.lst (as.map V.ref))∨∃(j:Nat) (x y:V),as[j]?=some a∧xs[j]?=some x∧ys[j]?=some y∧o=.tup [x,y]:=λa o e=>by
  by_cases h:a=h'.objs.size
  ·subst h;rw[Nl] at e;exact .inl ⟨rfl,(aa3 e).symm⟩
  ·have e:(if a=h'.objs.size then _ else ((as.zip (xs.zip ys)).lookup a).map λp=>HO.tup [p.1,p.2])=some o:=e;rw[if_neg h] at e;obtain ⟨⟨x,y⟩,h1,h2⟩:=Option.map_eq_some_iff.mp e;obtain ⟨j,g1,g2⟩:=vg h1;obtain ⟨g3,g4⟩:=List.getElem?_zip_eq_some.mp g2;exact .inr ⟨j,x,y,g1,g3,g4,h2.symm⟩
 have lo:∀a o,N a=some o→s1.heap.objs.size≤a:=λa o e=>by
  rcases inv a o e with ⟨rfl,_⟩ | ⟨j,x,y,h1,_⟩
  ·exact le
  ·exact aar le (abu (hM.up a (aac h1)))
 have I2:Inv X pins σ (ip H1 N) { s1 with heap:=h2,toks:=tk }:=I1.many k2 lo λa o e=>by
  rcases inv a o e with ⟨rfl,rfl⟩ | ⟨j,x,y,h1,h3,h4,rfl⟩
  ·refine ⟨by rw[aa0];omega,acc.toList,c,?_,by rw[aeh];exact hL⟩;rw[hacc];exact yv as
  ·obtain ⟨x',y',g1,g2,g3⟩:=hM.at' j a h1;obtain ⟨xu,hxu,rxu⟩:=ru.get h3;obtain ⟨yu,hyu,ryu⟩:=rv.get h4;rw[ad9] at g1 g2;rw[hxu] at g1;rw[hyu] at g2;cases g1
   cases g2
   exact ⟨by show (2:Nat)≤sizeLine;decide,[x',y'],.cons rxu (.cons ryu .nil),⟨_,g3,rfl,_,rfl,rfl⟩⟩
 have same:ak H1 (ip H1 N):=λb o e=>by
  have lt:=I1.hok.lt e;unfold ip;cases en:N b with
  | none=>exact e
  | some o'=>exact absurd (aai lt (lo b o' en)) (abc _)
 refine ⟨.ref h'.objs.size,_,I2,rfl,q _ as _ same (I1.hok.fresh le) (by omega) (by unfold ip;rw[Nl]) λj x y h3 h4=>?_⟩;have hj:j < as.length:=by rw[hal,←n1];exact (List.getElem?_eq_some_iff.mp h3).1
 refine ⟨as[j],aa1 hj,?_⟩;unfold ip;rw[Na j as[j] x y (aa1 hj) h3 h4]
end
end L2
namespace L2.Zd
open PySem
theorem xf:entryFor table "dict.update.loop"=some Builtin.«dict.update.loop»:=entryFor_of_tree (by kernel_rfl)
theorem jw:plainId "dict.update.loop"=true:=by decide+kernel
end L2.Zd
namespace L2.Zd
open PySem PyProof.Rows
theorem ze:typeLookup (.type "list") "keys"=pure none:=by rw[typeLookup_type,builtinLookup_eq_fast];kernel_rfl
section
variable {prog:Program} {w:World} {A:Around} {E:Value→Shared→Prop} {s:Shared}
theorem Cc (a:Addr) (vs:Array Value) (n:Nat) (u:Tok):
  Meets (Builtin.«object.__getattribute__» ⟨[.ref a,.str "keys" u],[]⟩) (λA R s=>s.heap.get? a=some { cls:=.type "list",dict:=none,data:=.seq vs n,slots:=#[] }∧raisesAttr (.ref a) "keys" A R s):=
 meets_getattribute_miss_list a vs n #[] "keys" u ze (by decide+kernel) (by decide+kernel)
theorem Jy {a:Addr} {vs:Array Value} {n:Nat} {Q:Option Value→Shared→Prop} (hx:s.heap.get? a=some { cls:=.type "list",dict:=none,data:=.seq vs n,slots:=#[] }) (hA:A.handled=none)
  (h:∀h' tk,(∀b o,s.heap.get? b=some o→h'.get? b=some o)→Q none { s with heap:=h',toks:=tk }):wpAny (model prog w) A (getAttr? (.ref a) "keys") Q E s:=by
 obtain ⟨hp,g,d,tk,os⟩:=s;have hT:∀tk',(⟨hp,g,d,tk',os⟩:Shared).TypeIs (.ref a) "list":=λ_=>⟨_,hx,rfl⟩;have f1:=sub_AttributeError;have f3:=F.slot_list_getattribute.lookup;have f4:=F.slot_list_getattribute.bind (.ref a);have f5:=am_list_getattr_none;unfold getAttr? getAttrBy? getAttrBy;repeat (any_goals (first | assumption | exact hT _ | ((with_reducible show wpAny _ _ (call (Value.builtin "list.__getattribute__") _ _) _ _ _);refine call_meets F.slot_list_getattribute (hT _) am_entry_list_getattribute (F.args_list_getattribute_2 _ _) (Cc a vs n _) ⟨hx,hA,λh' tk' e hx'=>?_⟩) | wp_step))
 obtain ⟨t',u',he⟩:=hx'.there;show wpAny _ _ (getattributeRaised _ _ _ _ _ _ _) _ _ _
 unfold getattributeRaised;repeat (any_goals (first | assumption | wp_step))
 exact h h' tk' hx'.keeps
end
end L2.Zd
namespace L2
open PySem PySem.Spec PyProof.Rows
section
variable {X:Cx} {pos:Pos} {tg:Expr}
theorem G9 (K:PySem.W.Frag) (hK:X.K=K) {es:List Expr} {k:Nat} {t:TGs} {n:Nat} (hc:X.calm=true) (h:PGs X es t) (hn:(assignEach es X.env).length=n:=by rfl) (hst:(assignEach es X.env).findIdx? (·.1)=none:=by rfl):PG X (.Tuple es k pos) (Eu K n t):=by
 subst hK;exact Js hc h hn hst
theorem yf (n:Nat):Builtin.Range.rangeSize ((n:Int) - 1) (-1) (-1)=n:=by
 unfold Builtin.Range.rangeSize;cases n with
 | zero=>decide
 | succ n=>
  simp;omega
theorem J6 {n:Nat} (h:n < 2 ^ 62):Builtin.Range.small ((n:Int) - 1) (-1) (-1)=true:=by
 unfold Builtin.Range.small;rw[yf];have e1:Builtin.Range.rangeFitsLong ((n:Int) - 1)=true:=by
  unfold Builtin.Range.rangeFitsLong;rw[decide_eq_true (show -(2:Int) ^ 63≤(n:Int) - 1 by omega),decide_eq_true (show (n:Int) - 1 < (2:Int) ^ 63 by omega)];rfl
 have e2:Builtin.Range.rangeFitsLong (n:Int)=true:=by
  unfold Builtin.Range.rangeFitsLong;rw[decide_eq_true (show -(2:Int) ^ 63≤(n:Int) by omega),decide_eq_true (show (n:Int) < (2:Int) ^ 63 by omega)];rfl
 rw[e1,e2,show Builtin.Range.rangeFitsLong (-1)=true by decide,if_neg (by decide),show Builtin.Range.rangeFitsLong (-1+(-1+1))=true by decide];simp
def iDn (ta:TA):TI:=λσ H R=>ta σ H λvs H1=>∃n:Nat,vs=[.int ((n:Int) - 1),.int (-1),.int (-1)]∧n < 2 ^ 62∧R (Itd n) H1
theorem Hs {a b c:Expr} {ta:TA} {p pos:Pos} (hg:Gl X "range") (hm:X.mg "range"=none) (ha:PA X [a,b,c] ta) (hs:starEach [a,b,c] X.env=(false,eval a X.env)::starEach [b,c] X.env:=by rfl) (hpl:(backTo pos (starEach [b,c] X.env)).any (·.1)=false:=by rfl):
  PI X tg (.Call (.Name "range" p) [a,b,c] [] pos) (iDn ta):=by
 intro pins s σ H R I h;refine Call_ (ir I hg hm boot_range (PyProof.Rows.callWith_type1 (thn (ha pos pins s σ H _ I h) λus s1 ⟨vs,H1,I1,r1,q1⟩=>?_) hs hpl));obtain ⟨n,rfl,hn,q⟩:=q1;cases r1 with
 | cons r rr=>
  cases rr with
  | cons r' rr=>
   cases rr with
   | cons r'' rr=>
    cases rr
    obtain ⟨t,rfl⟩:=r;obtain ⟨t',rfl⟩:=r';obtain ⟨t'',rfl⟩:=r'';refine call_range_3 (by decide) ?_ (.inl (PyProof.noPylong_small (by omega)));refine wpAny_pyIter_range (IsRange.new ..) (J6 hn) ?_;rw[yf];have I2:Inv X pins σ H1 { s1 with heap:=s1.heap.push { cls:=.type "range",data:=.fields #[.int ((n:Int) - 1) t,.int (-1) t',.int (-1) t''] },toks:=s1.toks }:=I1.kept λb o e=>Heap.get?_push_of_some _ e;refine ⟨(s1.heap.push { cls:=.type "range",data:=.fields #[.int ((n:Int) - 1) t,.int (-1) t',.int (-1) t''] }).objs.size,[(s1.heap.push { cls:=.type "range",data:=.fields #[.int ((n:Int) - 1) t,.int (-1) t',.int (-1) t''] }).objs.size],_,_,H1,rfl,I2.kept (t':=s1.toks) λb o e=>Heap.get?_push_of_some _ e,Ht _ n,?_,λb hb=>?_,q⟩
    ·have e1:(n:Int) - 1+((0:Nat):Int)*(-1)=(n:Int) - 1:=by omega
     have e2:(n:Int) - ((0:Nat):Int)=(n:Int):=by omega
     show IsRangeIter _ _ ((n:Int) - 1+((0:Nat):Int)*(-1)) ((n:Int) - ((0:Nat):Int)) (-1)
     rw[e1,e2];exact Heap.get?_push_size _ rfl
    ·have e:b=(s1.heap.push { cls:=.type "range",data:=.fields #[.int ((n:Int) - 1) t,.int (-1) t',.int (-1) t''] }).objs.size:=by simpa using hb
     subst e;exact I2.Ey (aa4 _) (I2.hok.fresh (aa4 _))
end
theorem Nz {n:Nat} {g:TG} {tb:TS} {D:Ends} {σ:St} {H:Hp} (Pv:Nat→St→Hp→Prop) (h0:Pv n σ H)
  (hs:∀i σ H,i < n→Pv (i+1) σ H→g (.int (i:Int)) σ H λσ2 H2=>tb { D with nx:=Pv i,ct:=Pv i,bk:=D.nx } σ2 H2) (hd:∀σ H,Pv 0 σ H→D.nx σ H):ForW g tb D (Itd n) σ H:=by
 refine ⟨λi m σ H=>m=n - i∧i≤n∧Pv (n - i) σ H,⟨n,by simp,aa7 _,by simpa using h0⟩,?_⟩;rintro i m σ H ⟨rfl,hi,p⟩;by_cases hlt:i < n
 ·refine .inr ⟨hlt,Pv (n - (i+1)),λσ' H' p'=>⟨n - (i+1),by omega,rfl,hlt,p'⟩,λx H' y=>?_⟩;obtain ⟨rfl,rfl⟩:=y;have e:(n:Int) - 1 - (i:Int)=((n - (i+1):Nat):Int):=by omega
  rw[e];exact hs (n - (i+1)) σ _ (by omega) (by rw[show n - (i+1)+1=n - i by omega];exact p)
 ·have e:i=n:=by omega
  subst e;exact .inl ⟨aa4 _,hd σ H (by simpa using p)⟩
theorem Cw {K:PySem.W.Frag} {c:Nat} {a:Addr} {as:List Addr} {fr:St} {tc:TT} {te:TE} {D:Addr} {H1:Hp} {Q:Hp→Prop} (P:Nat→List V→Hp→Prop) (mono:∀i ys H H',TK H H'→P i ys H→P i ys H') (hc:c=4) (hS:SqL K H1 a (as.map V.ref)) (hq:∀(i:Nat) (t:Addr),as[i]?=some t→∃x0 x1 x2 x3,H1 t=some (.tup [x0,x1,x2,x3])) (hn:as.length < sizeLine) (hD:H1 D=none) (h0:P 0 [] H1)
  (step:∀i t x0 x1 x2 x3 ys H (G:Hp→Prop) (K':V→Hp→Prop),as[i]?=some t→H1 t=some (.tup [x0,x1,x2,x3])→P i ys H→ys.length≤i→ak H1 H→(∀H3,ak H H3→P (i+1) ys H3→G H3)→(∀y H4,ak H H4→P (i+1) (ys++[y]) H4→K' y H4)→tc ([some x0,some x1,some x2,some x3]++fr) H λb H3=>if b=true then te ([some x0,some x1,some x2,some x3]++fr) H3 K' else G H3)
  (done:∀ys H,P as.length ys H→ys.length≤as.length→ak H1 H→H D=some (.lst ys)→Q H):LC 4 fr (Eu K c (eu (cv 0) (eu (cv 1) (eu (cv 2) (eu (cv 3) gNil))))) tc te (Itl K a) D H1 Q:=by
 refine ⟨λi m H=>m=as.length - i∧i≤as.length∧∃ys,H D=some (.lst ys)∧P i ys H∧ys.length≤i∧ak H1 H,⟨as.length,by simp,aa7 _,[],ae,mono _ _ _ _ (TK.of (aa hD _)) h0,aa4 _,aa hD _⟩,?_⟩;rintro i m H ⟨rfl,hi,ys,hys,hP,hl,hS'⟩;by_cases hlt:i < as.length
 ·have ht:as[i]?=some as[i]:=aa1 hlt;have hti:(as.map V.ref)[i]?=some (.ref as[i]):=by rw[aa8,ht];rfl
  obtain ⟨x0,x1,x2,x3,hx⟩:=hq i _ ht;refine .inr ⟨⟨_,_,hS'.seq hS,hti⟩,λτ v H' hτ hy=>?_⟩;obtain ⟨rfl,hy⟩:=hy;have hv:v=.ref as[i]:=aa3 ((hy _ (hS'.seq hS)).symm.trans hti);subst hv;obtain ⟨a0,a1,a2,a3,rfl⟩:∃a b c d,τ=[a,b,c,d]:=us4 (P:=λτ=>∃a b c d,τ=[a,b,c,d]) hτ λa b c d=>⟨a,b,c,d,rfl⟩;refine ⟨as[i],_,rfl,SqT.of (hS' _ _ hx),by rw[hc];rfl,_,_,rfl,_,_,rfl,_,_,rfl,_,_,rfl,rfl,⟨[some x0,some x1,some x2,some x3],rfl,rfl⟩,step i as[i] x0 x1 x2 x3 ys _ _ _ ht hx hP hl hS' (λH3 q1 q2=>?_) (λy H4 q1 q2=>?_)⟩
  ·exact ⟨as.length - (i+1),by omega,rfl,hlt,ys,q1 _ _ hys,q2,adu hl,hS'.trans q1⟩
  ·refine ⟨ys,q1 _ _ hys,by omega,as.length - (i+1),by omega,rfl,hlt,ys++[y],ae,mono _ _ _ _ (TK.put (q1 _ _ hys) λxs e=>by cases e) q2,?_,(hS'.trans q1).upd hD _⟩;rw[aa2,aag];omega
 ·have e:i=as.length:=by omega
  subst e;exact .inl ⟨⟨_,hS'.seq hS,by rw[aa0];exact aa4 _⟩,done ys H hP hl hS' hys⟩
namespace Zd
section
variable {prog:Program} {w:World} {A:Around} {E:Value→Shared→Prop} {s:Shared}
def PrT (prog:Program) (w:World) (ps:List (List Key×Addr×Value)) (items:Array Value) (no:List Addr) (h:Heap):Prop:=
 ∀(i:Nat) (k:List Key) (b:Addr) (y:Value),ps[i]?=some (k,b,y)→∃T o n,items[i]?=some (.ref T)∧T∉no∧b∉no∧(tupleKind (bh prog w)).is h k b∧h.get? T=some o∧o.cls=.type "tuple"∧o.data=.seq #[.ref b,y] n
theorem PrT.keep {ps:List (List Key×Addr×Value)} {items:Array Value} {no:List Addr} {h h':Heap} (x:PrT prog w ps items no h) (k:∀b o,b∉no→h.get? b=some o→h'.get? b=some o):PrT prog w ps items no h':=λi a b y e=>by
 obtain ⟨T,o,n,h1,h2,h3,h4,h5,h6⟩:=x i a b y e;obtain ⟨ob,its,m,g1,g2⟩:=h4;exact ⟨T,o,n,h1,h2,h3,⟨ob,its,m,k _ _ h3 g1,g2⟩,k _ _ h2 h5,h6⟩
noncomputable def Em (ps:List (List Key×Addr×Value)) (acc:List (List Key×Addr×Value)):List (List Key×Addr×Value):=ps.foldl (λacc p=>storedH acc p.1 p.2.1 p.2.2) acc
theorem loopT {R:Result→Shared→Prop} {I l d:Addr} {items:Array Value} (hI:I≠l) (hu:A.units+1 < cLine) (hh:A.in1.handled=none) (hdI:d≠I) (hdl:d≠l) (ps:List (List Key×Addr×Value)) (hn:ps.length=items.size):
  ∀(m i:Nat) (j:Int) (s:Shared) (kvs:List (List Key×Addr×Value)),ps.length - i=m→i≤ps.length→s.heap.IsListIter I l i→s.heap.IsList l items→PrT prog w ps items [d,I] s.heap→s.heap.DictOfH (tupleKind (bh prog w)) d kvs→kvs.length+m≤sizeLine→
   (∀h' tk,h'.DictOfH (tupleKind (bh prog w)) d (Em (ps.drop i) kvs)→(∀c o,c≠d→c≠I→s.heap.get? c=some o→h'.get? c=some o)→R (.ok (.ret .none)) { s with heap:=h',toks:=tk })→
   codeAny (model prog w) A (.builtin "dict.update.loop" ⟨[.ref d,.ref I,rawInt j,.none],[]⟩) R s:=by
 intro m;induction m with
 | zero=>
  intro i j s kvs hm hi h1 hl hp hd hsz hR;have e:i=items.size:=by omega
  refine codeAny_builtin xf ?_;rw[Around.under_plainId jw _];show wpAny _ A.in1 (pyNext (.ref I) >>=_) _ _ s
  refine wpAny_bind (wpAny_pyNext_list_end hh h1 hl (by rw[e];exact ad6 (aa4 _)) λh' hk=>?_);show wpAny _ A.in1 (Builtin.Dict.addKeywords d [] >>=_) _ _ _
  refine wpAny_bind (wpAny_pure ?_);refine wpAny_pure (hR h' s.toks ?_ λc o c1 c2 x=>hk c o c2 x);rw[List.drop_eq_nil_of_le (by omega)];obtain ⟨o,es,ep,ho,r1,r2,r3,r4,r5⟩:=hd;refine ⟨o,es,ep,hk d o hdI ho,r1,r2,r3,λx hx=>?_,r5⟩;obtain ⟨ob,its,m,g1,g2⟩:=r4 x hx;by_cases eb:x.2.1=I
  ·obtain ⟨oi,hoi,ci,_⟩:=h1;rw[eb,hoi] at g1;cases g1
   have:=g2.1;rw[ci] at this;simp at this
  ·exact ⟨ob,its,m,hk _ _ eb g1,g2⟩
 | succ m ih=>
  intro i j s kvs hm hi h1 hl hp hd hsz hR;have hlt:i < ps.length:=by omega
  obtain ⟨T,o,n,hx,hT,hb,hk,ho,hc,hdat⟩:=hp i ps[i].1 ps[i].2.1 ps[i].2.2 (aa1 hlt);have hTd:T≠d:=λe=>hT (by rw[e];exact aa9);have hTI:T≠I:=λe=>hT (by rw[e];exact aaa _ aa9);have hbI:ps[i].2.1≠I:=λe=>hb (by rw[e];exact aaa _ aa9);refine codeAny_builtin xf ?_;rw[Around.under_plainId jw _];show wpAny _ A.in1 (pyNext (.ref I) >>=_) _ _ s
  have h1':=h1;refine wpAny_bind (wpAny_pyNext_list_item h1 hl hx λh₁ h1₁ hs₁=>?_);have hs₁:Heap.SameBut I s.heap h₁:=hs₁;have hP:h₁.get? T=some o:=hs₁.extBut _ _ hTI ho;refine wpAny_bind (wpAny_holding (wpAny_bind (wpAny_tryCatch ?_)));unfold Builtin.Dict.pairItems;have hTy:Shared.TypeIs { s with heap:=h₁ } (.ref T) "tuple":=⟨_,hP,hc⟩;refine wpAny_bind (wpAny_typeOf hTy ?_);rw[if_pos (by decide)];refine wpAny_bind (wpAny_seqItems hP hdat (wpAny_pure ?_));show wpAny _ _ (holding [.ref ps[i].2.1,ps[i].2.2] (dictSet d (.ref ps[i].2.1) ps[i].2.2)) _ _ _
  refine wpAny_holding ?_;have hk₁:(tupleKind (bh prog w)).is h₁ ps[i].1 ps[i].2.1:=by
   obtain ⟨ob,its,m,g1,g2⟩:=hk;exact ⟨ob,its,m,hs₁.extBut _ _ hbI g1,g2⟩
  have hd₁:h₁.DictOfH (tupleKind (bh prog w)) d kvs:=by
   obtain ⟨o,es,ep,ho,r1,r2,r3,r4,r5⟩:=hd;refine ⟨o,es,ep,hs₁.extBut _ _ hdI ho,r1,r2,r3,λx hx=>?_,r5⟩;obtain ⟨ob,its,m,g1,g2⟩:=r4 x hx;by_cases eb:x.2.1=I
   ·obtain ⟨oi,hoi,ci,_⟩:=h1';rw[eb,hoi] at g1;cases g1
    have:=g2.1;rw[ci] at this;simp at this
   ·exact ⟨ob,its,m,hs₁.extBut _ _ eb g1,g2⟩
  refine wpAny_dictSet_heap (s:={ s with heap:=h₁ }) (knd:=tupleKind (bh prog w)) (tupleKind_room_in1 hu) hk₁ hd₁ (λh₂ hd₂ hs₂=>?_) (by omega);have hs₂:Heap.SameBut d h₁ h₂:=hs₂;have kp:∀c o,c≠d→c≠I→s.heap.get? c=some o→h₂.get? c=some o:=λc o c1 c2 e=>hs₂.extBut _ _ c1 (hs₁.extBut _ _ c2 e);refine wpAny_pure ⟨plainId_quiet jw _,ih (i+1) (j+1) _ _ (by omega) hlt (h1₁.extBut hs₂.extBut hdI.symm) ((hl.extBut hs₁.extBut hI.symm).extBut hs₂.extBut hdl.symm) (hp.keep λb o hb e=>kp b o (λz=>hb (by rw[z];exact aa9)) (λz=>hb (by rw[z];exact aaa _ aa9)) e) hd₂ ?_ λh' tk hd' k'=>?_⟩
  ·have:(storedH kvs ps[i].1 ps[i].2.1 ps[i].2.2).length≤kvs.length+1:=by
    unfold storedH;split
    ·rw[aa0];omega
    ·rw[aa2];exact aa4 _
   omega
  ·refine hR h' tk ?_ λc o c1 c2 x=>k' c o c1 c2 (kp c o c1 c2 x);rw[aaw hlt];exact hd'
theorem mn {l:Addr} {items:Array Value} {n:Nat} {Q:Value→Shared→Prop} (hu:A.units+4 < cLine) (hh:A.handled=none) (ho:s.heap.get? l=some { cls:=.type "list",dict:=none,data:=.seq items n,slots:=#[] })
  (ps:List (List Key×Addr×Value)) (hn:ps.length=items.size) (hps:PrT prog w ps items [] s.heap) (hsz:ps.length≤sizeLine)
  (h:∀h' tk,h'.DictOfH (tupleKind (bh prog w)) s.heap.objs.size (Em ps [])→(∀c o,s.heap.get? c=some o→h'.get? c=some o)→Q (.ref s.heap.objs.size) { s with heap:=h',toks:=tk }):
  wpAny (model prog w) A (call (.type "dict") [.ref l]) Q E s:=by
 refine callType_codes (Q₁:=λobj s₁=>obj=.ref s.heap.objs.size∧s₁={ s with heap:=s.heap.push { cls:=.type "dict",data:=.dict #[] } }) F.kt_called_dict (F.kt_typeCall_dict_1 _) F.entry_dict_init (kt_code_dict_new _ ⟨rfl,rfl⟩) ?_;rintro obj s₁ ⟨rfl,rfl⟩;have hnew:(s.heap.push { cls:=.type "dict",data:=.dict #[] }).DictOfH (tupleKind (bh prog w)) s.heap.objs.size []:=Heap.DictOfH.new s.heap;have gt:∀{c o},s.heap.get? c=some o→s.heap.objs.size≠c:=λe=>ab9 (Heap.lt_size e);have up:∀{c o},s.heap.get? c=some o→(s.heap.push { cls:=.type "dict",data:=.dict #[] }).get? c=some o:=λe=>Heap.get?_push_of_some _ e;have hty:Shared.TypeIs { s with heap:=s.heap.push { cls:=.type "dict",data:=.dict #[] } } (.ref s.heap.objs.size) "dict":=⟨_,Heap.get?_push_size _ rfl,rfl⟩;refine ⟨hty,F.args_dict_init_2 _ _,?_⟩;unfold Builtin.«dict.__init__»;refine wpAny_bind ?_;unfold Builtin.Dict.selfAndRest;refine wpAny_bind (wpAny_notOrdered_dict hty ?_);show wpAny _ _ (pure (s.heap.objs.size,[Value.ref l])) _ _ _
 refine wpAny_pure ?_;show wpAny _ _ (Builtin.Dict.updateFrom "dict.__init__" s.heap.objs.size (.ref l) [] .none) _ _ _
 unfold Builtin.Dict.updateFrom;have hT:Shared.TypeIs { s with heap:=s.heap.push { cls:=.type "dict",data:=.dict #[] } } (.ref l) "list":=⟨_,up ho,rfl⟩;refine wpAny_bind (wpAny_typeOf hT ?_);rw[if_pos (by decide)];refine wpAny_bind (Jy (up ho) (by simp[hh]) λh₁ tk₁ kp₁=>?_);rw[if_pos (show (none:Option Value).isNone=true from rfl)];have kp:∀{c o},s.heap.get? c=some o→h₁.get? c=some o:=λe=>kp₁ _ _ (up e);have hl₁:h₁.IsList l items:=⟨_,kp ho,rfl,n,rfl⟩;refine wpAny_bind (wpAny_rule (wpAny_bind (wpAny_pyIter_list hl₁ ?_)));have dl:s.heap.objs.size < h₁.objs.size:=Heap.lt_size (kp₁ _ _ (Heap.get?_push_size _ rfl));have hd₁:(h₁.push { cls:=.type "list_iterator",data:=.fields #[.ref l,.int 0 0] }).DictOfH (tupleKind (bh prog w)) s.heap.objs.size []:=by
  obtain ⟨o,es,ep,ho,r1,r2,r3,r4,r5⟩:=hnew;exact ⟨o,es,ep,Heap.get?_push_of_some _ (kp₁ _ _ ho),r1,r2,r3,(λx hx=>nomatch hx),r5⟩
 refine wpAny_pure ⟨plainId_quiet jw _,loopT (items:=items) (ab9 (Heap.lt_size (kp ho))) (by simp only[units_in1];omega) (by simp[hh]) (aam dl) (gt ho) ps hn ps.length 0 0 _ [] rfl (aa7 _) ⟨_,Heap.get?_push_size _ rfl,rfl,rfl⟩ (hl₁.push _) (λi k b y e=>?_) hd₁ (by show 0+_≤_;omega) λh' tk hd' k'=>⟨rfl,?_⟩⟩
 ·obtain ⟨T,o,n,a1,a2,a3,a4,a5,a6⟩:=hps i k b y e;have nt:∀{c o},s.heap.get? c=some o→c∉[s.heap.objs.size,h₁.objs.size]:=λ{c o} q z=>by
   rcases List.mem_cons.mp z with z | z
   ·exact gt q z.symm
   ·rw[List.mem_singleton.mp z] at q;exact absurd (Heap.lt_size (kp q)) (abc _)
  obtain ⟨ob,its,m,g1,g2⟩:=a4;exact ⟨T,o,n,a1,nt a5,nt g1,⟨ob,its,m,Heap.get?_push_of_some _ (kp g1),g2⟩,Heap.get?_push_of_some _ (kp a5),a6⟩
 ·exact h h' tk hd' λc o e=>k' c o (gt e).symm (aam (Heap.lt_size (kp e))) (Heap.get?_push_of_some _ (kp e))
end
end Zd
noncomputable def j4 (ps acc:List (List Key×V)):List (List Key×V):=ps.foldl (λacc p=>putK acc p.1 p.2) acc
theorem xh:∀(ps acc:List (List Key×V)),(j4 ps acc).length≤acc.length+ps.length
 | [],acc=>aa4 _
 | p::ps,acc=>by
  have h1:=xh ps (putK acc p.1 p.2);have h2:=gf acc p.1 p.2;show (j4 ps (putK acc p.1 p.2)).length≤_
  rw[aap];omega
theorem KT.merge {H:Hp}:∀{ps:List (List Key×V)} {qs:List (List Key×Addr×Value)},KT H ps qs→∀{acc:List (List Key×V)} {acc':List (List Key×Addr×Value)},KT H acc acc'→KT H (j4 ps acc) (Zd.Em qs acc')
 | _,_,.nil,_,_,r=>r
 | (k,v)::ps,(k',b,u)::qs,.cons h t,acc,acc',r=>by
  obtain ⟨h1,h2,h3⟩:=h;have h1:k=k':=h1;subst h1;exact KT.merge t (r.put k h2 h3)
section
variable {X:Cx}
theorem mn (hu:X.A.units+8 < cLine):gd X (.type "dict") (λxs H Q=>X.calm=true∧∃(a:Addr) (rs:List V) (ps:List (List Key×V)),xs=[.ref a]∧H a=some (.lst rs)∧rs.length=ps.length∧(∀(i:Nat) (p:List Key×V),ps[i]?=some p→∃t b,rs[i]?=some (.ref t)∧H t=some (.tup [.ref b,p.2])∧H b=some (.tup (p.1.map kV)))∧∀d,H d=none→Q (.ref d) (upd H d (.dT (j4 ps [])))):=by
 intro pins s σ H xs us Q I r h;obtain ⟨hc,a,rs,ps,rfl,ha,hl,hp,q⟩:=h;obtain ⟨u,rfl,rx⟩:=vals1 r;cases rx
 obtain ⟨z,its,n,rv,e⟩:=I.hok a _ ha;have hl2:=rv.length;obtain ⟨qs,kt,hq⟩:∃qs:List (List Key×Addr×Value),KT H ps qs∧∀(i:Nat) (k:List Key) (b:Addr) (y:Value),qs[i]?=some (k,b,y)→∃(T:Addr) (o:Obj) (m:Nat),its[i]?=some (.ref T)∧H b=some (.tup (k.map kV))∧s.heap.get? T=some o∧o.cls=.type "tuple"∧o.data=.seq #[.ref b,y] m:=by
  have one:∀(i:Nat) (p:List Key×V),ps[i]?=some p→∃(b:Addr) (y:Value) (T:Addr) (o:Obj) (m:Nat),RelV p.2 y∧its[i]?=some (.ref T)∧H b=some (.tup (p.1.map kV))∧s.heap.get? T=some o∧o.cls=.type "tuple"∧o.data=.seq #[.ref b,y] m:=λi p hi=>by
   obtain ⟨t,b,h1,h2,h3⟩:=hp i p hi;obtain ⟨u,hu,ru⟩:=rv.get h1;cases (show u=Value.ref t from ru)
   obtain ⟨_,js,rj,o,g1,g2,m,g3⟩:=tup_rd I.hok h2;obtain ⟨x,y,rfl,rx,ry⟩:=vals2 rj;cases (show x=Value.ref b from rx)
   exact ⟨b,y,t,o,m,ry,hu,h3,g1,g2,g3⟩
  clear hp q hl ha rv hl2 e z;clear hc;suffices go:∀(ps:List (List Key×V)) (its:List Value),(∀(i:Nat) (p:List Key×V),ps[i]?=some p→∃(b:Addr) (y:Value) (T:Addr) (o:Obj) (m:Nat),RelV p.2 y∧its[i]?=some (.ref T)∧H b=some (.tup (p.1.map kV))∧s.heap.get? T=some o∧o.cls=.type "tuple"∧o.data=.seq #[.ref b,y] m)→∃qs:List (List Key×Addr×Value),KT H ps qs∧∀(i:Nat) (k:List Key) (b:Addr) (y:Value),qs[i]?=some (k,b,y)→∃(T:Addr) (o:Obj) (m:Nat),its[i]?=some (.ref T)∧H b=some (.tup (k.map kV))∧s.heap.get? T=some o∧o.cls=.type "tuple"∧o.data=.seq #[.ref b,y] m from go ps its one
  intro ps;induction ps with
  | nil=>exact λits _=>⟨[],.nil,λi k b y h=>by simp at h⟩
  | cons p ps ih=>
   intro its one;obtain ⟨qs,k1,k2⟩:=ih its.tail λi p' hi=>by
    obtain ⟨b,y,T,o,m,h1,h2,h3⟩:=one (i+1) p' hi;exact ⟨b,y,T,o,m,h1,by rw[aep];exact h2,h3⟩
   obtain ⟨b,y,T,o,m,h1,h2,h3,h4⟩:=one 0 p rfl;refine ⟨(p.1,b,y)::qs,.cons ⟨rfl,h3,h1⟩ k1,λi k b' y' hi=>?_⟩;cases i with
   | zero=>
    cases hi
    exact ⟨T,o,m,h2,h3,h4⟩
   | succ i=>
    obtain ⟨T,o,m,g1,g2⟩:=k2 i k b' y' hi;exact ⟨T,o,m,by rw[aep] at g1;exact g1,g2⟩
 have lq:=Paired.length kt;refine Zd.mn (by omega) (I.ok.hd hc) e qs (by rw[aa6];omega) (λi k b y hi=>?_) (by omega) λh' tk hd keep=>?_
 ·obtain ⟨T,o,m,g1,g2,g3,g4,g5⟩:=hq i k b y hi;exact ⟨T,o,m,by rw[ad9];exact g1,(λz=>nomatch z),(λz=>nomatch z),mr I.hok g2,g3,g4,g5⟩
 ·have zl:(j4 ps []).length≤sizeLine:=by
   have:=xh ps [];rw[acb] at this;omega
  have fr:=I.hok.fresh (aa4 s.heap.objs.size);obtain ⟨o,es,ep,r1,r2,r3,r4,_,r6⟩:=hd;refine ⟨.ref s.heap.objs.size,_,I.laid (t':=tk) (λb u e=>keep b u e) (aa4 _) (show bp X.prog X.w _ _ _ (.dT (j4 ps [])) from ⟨zl,?_,_,(KT.merge kt .nil).keeps λc ys ec=>?_,o,es,ep,r1,r2,r3,r4,r6⟩),rfl,q _ fr⟩
  ·exact beq_eq_false_iff_ne.mpr (Ne.symm (aam I.big))
  ·rw[af (ah ec fr)];exact ec
end
namespace Zd
end Zd
end L2
namespace Pc
open PySem PySem.Spec L2 PyProof.Rows Fm
abbrev Ky:=Nat×Str
noncomputable def kyK (k:Ky):List Key:=[Sum.inl (k.1:Int),Sum.inr k.2]
theorem il {a b:Ky} (h:kyK a=kyK b):a=b:=by
 obtain ⟨a1,a2⟩:=a;obtain ⟨b1,b2⟩:=b;unfold kyK at h;simp only[ace,Sum.inl.injEq,Sum.inr.injEq,and_true] at h;rw[h.2,show a1=b1 by omega]
noncomputable def kyT (k:Ky):HO:=.tup [.int (k.1:Int),.str k.2]
def cu (H:Hp) (d:Addr) (g:Ky→Option Int) (n:Nat):Prop:=∃kvs:List (List Key×V),H d=some (.dT kvs)∧kvs.length≤n∧∀k,cj kvs (kyK k)=(g k).map V.int
theorem cu.get {H:Hp} {d b:Addr} {g:Ky→Option Int} {n:Nat} {k:Ky} (h:cu H d g n) (hb:H b=some (kyT k)):ib H d (.ref b) ((g k).map V.int):=by
 obtain ⟨kvs,h1,_,h3⟩:=h;rw[←h3 k];exact ib.t h1 hb
theorem cu.val {H:Hp} {d b:Addr} {g:Ky→Option Int} {n:Nat} {k:Ky} {v:Int} (h:cu H d g n) (hb:H b=some (kyT k)) (e:g k=some v):ib H d (.ref b) (some (.int v)):=by
 have:=h.get hb;rw[e] at this;exact this
theorem cu.mono {H:Hp} {d:Addr} {g:Ky→Option Int} {n m:Nat} (h:cu H d g n) (e:n≤m):cu H d g m:=by
 obtain ⟨kvs,h1,h2,h3⟩:=h;exact ⟨kvs,h1,by omega,h3⟩
theorem cu.at {H H':Hp} {d:Addr} {g:Ky→Option Int} {n:Nat} (h:cu H d g n) (e:∀o,H d=some o→H' d=some o):cu H' d g n:=by
 obtain ⟨kvs,h1,h2⟩:=h;exact ⟨kvs,e _ h1,h2⟩
theorem cu.same {H H':Hp} {d:Addr} {g:Ky→Option Int} {n:Nat} (h:cu H d g n) (s:ak H H'):cu H' d g n:=h.at λo e=>s _ _ e
theorem cu.nil {H:Hp} {d:Addr}:cu (upd H d (.dT [])) d (λ_=>none) 0:=⟨[],ae,aa4 _,λ_=>rfl⟩
theorem cu.put {H:Hp} {d b:Addr} {g:Ky→Option Int} {n:Nat} {k:Ky} {v:Int} (h:cu H d g n) (hb:H b=some (kyT k)) (hn:n≤1000000):
  ∃o,sj H d (.ref b) (.int v) (upd H d o)∧cu (upd H d o) d (fb g k v) (if (g k).isSome then n else n+1):=by
 obtain ⟨kvs,h1,h2,h3⟩:=h;have sz:=sizeLine_eq;refine ⟨.dT (putK kvs (kyK k) (.int v)),sj.t h1 hb (by omega),_,ae,?_,λj=>?_⟩
 ·have hk:=h3 k;cases e:g k with
  | none=>
   have:=gf kvs (kyK k) (.int v);simp only[acd,aaz,if_false];omega
  | some w=>
   rw[e] at hk;have ha:(kvs.any λkv=>decide (kv.1=kyK k))=true:=by rw[d4,hk];rfl
   simp only[ac0,if_true];unfold putK;rw[if_pos ha,aa0];exact h2
 ·rw[Ci];by_cases e:j=k
  ·subst e;rw[if_pos rfl,cg];rfl
  ·rw[if_neg (λz=>e (il z)),dn e];exact h3 j
theorem cu.bound {H:Hp} {d:Addr} {g:Ky→Option Int} {n:Nat} (h:cu H d g n):∃D:Nat,∀k v,g k=some v→v≤(D:Int):=by
 obtain ⟨kvs,h1,_,h3⟩:=h;obtain ⟨B,hB⟩:=og (λp:List Key×V=>match p.2 with | .int i=>i.toNat | _=>0) kvs;refine ⟨B,λk v e=>?_⟩;have hk:=h3 k;rw[e] at hk;unfold cj at hk;obtain ⟨p,hp,e2⟩:=Option.map_eq_some_iff.mp hk;have:=hB p (adw hp);rw[show p.2=V.int v from e2] at this;have:v.toNat≤B:=this;omega
structure Kx (no:Addr→Prop) (H H':Hp):Prop where
 t:∀{a:Addr} {xs:List V},H a=some (.tup xs)→H' a=some (.tup xs)
 l:∀{a:Addr} {xs:List V},¬no a→H a=some (.lst xs)→H' a=some (.lst xs)
theorem Kx.same {no:Addr→Prop} {H H':Hp} (s:ak H H'):Kx no H H':=⟨λh=>s _ _ h,λ_ h=>s _ _ h⟩
theorem Kx.trans {no:Addr→Prop} {H H1 H2:Hp} (a:Kx no H H1) (b:Kx no H1 H2):Kx no H H2:=⟨λh=>b.t (a.t h),λn h=>b.l n (a.l n h)⟩
theorem Kx.weak {no no':Addr→Prop} {H H':Hp} (a:Kx no H H') (h:∀x,no x→no' x):Kx no' H H':=⟨a.t,λn e=>a.l (λz=>n (h _ z)) e⟩
theorem Kx.upd {x:Addr} {H:Hp} {ys:List V} {o:HO} (h:H x=some (.lst ys)):Kx (·=x) H (L2.upd H x o):=⟨λe=>by rw[af (eh e h (by intro z;cases z))];exact e,λn e=>by rw[af n];exact e⟩
theorem Kx.dict {no:Addr→Prop} {d:Addr} {H H':Hp} {kvs:List (List Key×V)} (h:H d=some (.dT kvs)) (s:ay d H H'):Kx no H H':=⟨λe=>s _ _ (eh e h (by intro z;cases z)) e,λ_ e=>s _ _ (eh e h (by intro z;cases z)) e⟩
theorem Kx.tb {no:Addr→Prop} {d:Addr} {H H':Hp} {g:Ky→Option Int} {n:Nat} (h:cu H d g n) (s:ay d H H'):Kx no H H':=by
 obtain ⟨kvs,h1,_⟩:=h;exact Kx.dict h1 s
def mf (H:Hp) (l:Addr) (hs:List Ky):Prop:=∃as:List Addr,H l=some (.lst (as.map V.ref))∧as.length=hs.length∧∀(j:Nat) (k:Ky),hs[j]?=some k→∃a,as[j]?=some a∧H a=some (kyT k)
theorem mf.kx {no:Addr→Prop} {H H':Hp} {l:Addr} {hs:List Ky} (h:mf H l hs) (x:Kx no H H') (n:¬no l):mf H' l hs:=by
 obtain ⟨as,h1,h2,h3⟩:=h;exact ⟨as,x.l n h1,h2,λj k e=>by
  obtain ⟨a,g1,g2⟩:=h3 j k e;exact ⟨a,g1,x.t g2⟩⟩
theorem mf.same {H H':Hp} {l:Addr} {hs:List Ky} (h:mf H l hs) (s:ak H H'):mf H' l hs:=h.kx (no:=λ_=>False) (Kx.same s) id
structure Fr where
 name:Str
 kind:Str
 own:Int
 hs:List Ky
def FrAt (H:Hp) (no:Addr→Prop) (a:Addr) (f:Fr):Prop:=∃hl,¬no hl∧H a=some (.tup [.str f.name,.str f.kind,.int f.own,.ref hl])∧mf H hl f.hs
def de (H:Hp) (no:Addr→Prop) (as:List Addr) (fs:List Fr):Prop:=as.length=fs.length∧∀(j:Nat) (f:Fr),fs[j]?=some f→∃a,as[j]?=some a∧FrAt H no a f
theorem de.kx {no:Addr→Prop} {H H':Hp} {as:List Addr} {fs:List Fr} (h:de H no as fs) (x:Kx no H H'):de H' no as fs:=⟨h.1,λj f e=>by
 obtain ⟨a,g1,hl,g2,g3,g4⟩:=h.2 j f e;exact ⟨a,g1,hl,g2,x.t g3,g4.kx x g2⟩⟩
theorem de.weak {no no':Addr→Prop} {H:Hp} {as:List Addr} {fs:List Fr} (h:de H no as fs) (w:∀x,no' x→no x):de H no' as fs:=⟨h.1,λj f e=>by
 obtain ⟨a,g1,hl,g2,g3⟩:=h.2 j f e;exact ⟨a,g1,hl,λz=>g2 (w _ z),g3⟩⟩
theorem de.snoc {no:Addr→Prop} {H:Hp} {as:List Addr} {fs:List Fr} {a:Addr} {f:Fr} (h:de H no as fs) (hf:FrAt H no a f):de H no (as++[a]) (fs++[f]):=by
 refine ⟨by rw[aa2,aa2,h.1];rfl,λi f' hi=>?_⟩;by_cases c:i < fs.length
 ·rw[aaf c] at hi;obtain ⟨a',g1,g2⟩:=h.2 i f' hi;exact ⟨a',by rw[aaf (by rw[h.1];exact c)];exact g1,g2⟩
 ·rw[aab (by omega)] at hi;have hz:i - fs.length=0:=by
   rcases abn (i - fs.length) with g | g
   ·exact g
   ·rw[abe (by rw[aag];omega)] at hi;cases hi
  rw[hz] at hi;cases hi
  exact ⟨a,by rw[aab (by rw[h.1];omega),h.1,hz];rfl,hf⟩
theorem de.nil (H:Hp) (no:Addr→Prop):de H no [] []:=⟨rfl,λj f h=>by simp at h⟩
noncomputable def aq (kinds:List Str) (sh:List V):List Str:=sh.filterMap λv=>match v with
 | .str z=>if z∈kinds then some z else none
 | _=>none
noncomputable def eo (p:Nat) (f:Fr):Ft Ky:=⟨(p,f.kind),f.own,f.hs⟩
noncomputable def kh (kinds:List Str) (ws:List V) (p:Nat) (r:Rl):Option Fr:=(bz kinds ws r.shape p ⟨[],[],[]⟩).map λu=>⟨r.name,r.kind,r.price,u.hs.zip (aq kinds r.shape)⟩
noncomputable def bj (kinds:List Str) (rs:List Rl) (ws:List V) (p:Nat):List Fr:=rs.filterMap (kh kinds ws p)
structure Rw where
 place:Nat
 kind:Str
 price:Int
 names:List Str
def RwAt (H:Hp) (no:Addr→Prop) (a:Addr) (r:Rw):Prop:=∃nl,¬no nl∧H a=some (.tup [.int (r.place:Int),.str r.kind,.int r.price,.ref nl])∧H nl=some (.lst (r.names.map V.str))
def cm (H:Hp) (no:Addr→Prop) (as:List Addr) (rs:List Rw):Prop:=as.length=rs.length∧∀(j:Nat) (r:Rw),rs[j]?=some r→∃a,as[j]?=some a∧RwAt H no a r
theorem cm.kx {no:Addr→Prop} {H H':Hp} {as:List Addr} {rs:List Rw} (h:cm H no as rs) (x:Kx no H H'):cm H' no as rs:=⟨h.1,λj f e=>by
 obtain ⟨a,g1,hl,g2,g3,g4⟩:=h.2 j f e;exact ⟨a,g1,hl,g2,x.t g3,x.l g2 g4⟩⟩
theorem cm.weak {no no':Addr→Prop} {H:Hp} {as:List Addr} {rs:List Rw} (h:cm H no as rs) (w:∀x,no' x→no x):cm H no' as rs:=⟨h.1,λj f e=>by
 obtain ⟨a,g1,hl,g2,g3⟩:=h.2 j f e;exact ⟨a,g1,hl,λz=>g2 (w _ z),g3⟩⟩
theorem cm.nil (H:Hp) (no:Addr→Prop):cm H no [] []:=⟨rfl,λj f h=>by simp at h⟩
theorem cm.append {no:Addr→Prop} {H:Hp} {as bs:List Addr} {rs qs:List Rw} (h:cm H no as rs) (h':cm H no bs qs):cm H no (as++bs) (rs++qs):=by
 refine ⟨by rw[aa2,aa2,h.1,h'.1],λi r hi=>?_⟩;by_cases c:i < rs.length
 ·rw[aaf c] at hi;obtain ⟨a',g1,g2⟩:=h.2 i r hi;exact ⟨a',by rw[aaf (by rw[h.1];exact c)];exact g1,g2⟩
 ·rw[aab (by omega)] at hi;obtain ⟨a',g1,g2⟩:=h'.2 _ r hi;exact ⟨a',by rw[aab (by rw[h.1];omega),h.1];exact g1,g2⟩
theorem cm.one {no:Addr→Prop} {H:Hp} {a:Addr} {r:Rw} (h:RwAt H no a r):cm H no [a] [r]:=⟨rfl,λj r' e=>by
 cases j with
 | zero=>cases e;exact ⟨a,rfl,h⟩
 | succ j=>simp at e⟩
noncomputable def namesW (fs:List Fr) (g:Ky→Option Int) (k:Str) (v:Int):List Str:=(fs.filter λf=>decide (f.kind=k∧cost g f.own f.hs=some v)).map (·.name)
noncomputable def dm (ks:List Str) (fs:List Fr) (p:Nat) (g:Ky→Option Int):List Rw:=ks.filterMap λk=>(g (p,k)).map λv=>⟨p,k,v,namesW fs g k v⟩
noncomputable def rowsOf (kinds:List Str) (rs:List Rl) (ws:List V) (g:Ky→Option Int):List Rw:=(aav ws.length).flatMap λp=>dm (cy kinds) (bj kinds rs ws p) p g
noncomputable def dw (kinds:List Str) (rs:List Rl) (ws:List V):List (Ft Ky):=(aav ws.length).flatMap λp=>(bj kinds rs ws p).map (eo p)
def kg (K:PySem.W.Frag):Sp:=λvs H Q _=>∃(st kt ut:Addr) (sh:List V) (kinds:List Str) (u:Und),vs=[.ref st,.ref kt,.ref ut]∧SqT K H st sh∧SqT K H kt (kinds.map V.str)∧uh H ut u∧Kinds kinds∧(∀v∈sh,isW v)∧sh.length≤1000∧u.hs.length=(aq kinds sh).length∧∀(l:Addr) (H':Hp),ak H H'→H l=none→mf H' l (u.hs.zip (aq kinds sh))→Q (.ref l) H'
def lg:Sp:=λvs H Q _=>∃(b wt:Addr) (kinds:List Str) (rs:List Rl) (ws:List V) (p:Nat),vs=[.ref b,.ref wt,.int (p:Int)]∧br H b kinds rs∧H wt=some (.tup ws)∧Bk kinds rs∧Tw ws∧p < ws.length∧∀(l:Addr) (as:List Addr) (H':Hp),ak H H'→H l=none→H' l=some (.lst (as.map V.ref))→de H' (λx=>H x≠none) as (bj kinds rs ws p)→Q (.ref l) H'
def jt:Sp:=λvs H Q _=>∃(own:Int) (hl d:Addr) (hs:List Ky) (g:Ky→Option Int) (n:Nat),vs=[.int own,.ref hl,.ref d]∧mf H hl hs∧cu H d g n∧Q (match cost g own hs with | none=>.non | some c=>.int c) H
def pq:Sp:=λvs H Q _=>∃(p:Nat) (fl d:Addr) (as:List Addr) (fs:List Fr) (g:Ky→Option Int) (n:Nat),vs=[.int (p:Int),.ref fl,.ref d]∧H fl=some (.lst (as.map V.ref))∧de H (λ_=>False) as fs∧cu H d g n∧n+fs.length≤1000000∧(∀f∈fs,1≤f.own)∧(∀k v,g k=some v→1≤v)∧(∀k,k.1=p→g k=none)∧
 ∀(H':Hp) (g':Ky→Option Int),ay d H H'→cu H' d g' (n+fs.length)→ji (fs.map (eo p)) g'→(∀k,k.1≠p→g' k=g k)→(∀k v,k.1=p→g' k=some v→∃f∈fs.map (eo p),f.key=k∧∃c,cost g' f.own f.hs=some c∧c≤v)→(∀k v,g' k=some v→1≤v)→Q .non H'
def Bb:Sp:=λvs H Q _=>∃(k:Str) (v:Int) (fl d:Addr) (as:List Addr) (fs:List Fr) (g:Ky→Option Int) (n:Nat),vs=[.str k,.int v,.ref fl,.ref d]∧H fl=some (.lst (as.map V.ref))∧de H (λ_=>False) as fs∧fs.length≤1000∧cu H d g n∧∀(l:Addr) (H':Hp),ak H H'→H l=none→H' l=some (.lst ((namesW fs g k v).map V.str))→Q (.ref l) H'
def ud:Sp:=λvs H Q _=>∃(b fl d:Addr) (p:Nat) (kinds:List Str) (rs:List Rl) (as:List Addr) (fs:List Fr) (g:Ky→Option Int) (n:Nat),vs=[.ref b,.int (p:Int),.ref fl,.ref d]∧br H b kinds rs∧kinds.length≤60∧H fl=some (.lst (as.map V.ref))∧de H (λ_=>False) as fs∧fs.length≤1000∧cu H d g n∧∀(l:Addr) (bs:List Addr) (H':Hp),ak H H'→H l=none→H' l=some (.lst (bs.map V.ref))→cm H' (λx=>H x≠none) bs (dm (cy kinds) fs p g)→Q (.ref l) H'
def zr:Sp:=λvs H Q _=>∃(b wt:Addr) (kinds:List Str) (rs:List Rl) (ws:List V),vs=[.ref b,.ref wt]∧br H b kinds rs∧H wt=some (.tup ws)∧Bk kinds rs∧Tw ws∧∀(l:Addr) (bs:List Addr) (H':Hp) (g:Ky→Option Int),ak H H'→H l=none→H' l=some (.lst (bs.map V.ref))→Tbl (dw kinds rs ws) g→cm H' (λx=>H x≠none) bs (rowsOf kinds rs ws g)→Q (.ref l) H'
noncomputable def isH (kinds:List Str):V→Bool
 | .str z=>decide (z∈kinds)
 | _=>false
theorem Ad {kinds:List Str} {v:V} (hv:isW v):inV v (kinds.map V.str)=isH kinds v:=by
 obtain ⟨k,rfl⟩:=hv;cases k with
 | inl i=>
  show inV (.int i) (kinds.map V.str)=false
  induction kinds with
  | nil=>rfl
  | cons z r ih=>exact ih
 | inr z=>
  show inV (.str z) (kinds.map V.str)=decide (z∈kinds)
  by_cases h:z∈kinds
  ·rw[decide_eq_true h];exact su (List.mem_map.mpr ⟨z,h,rfl⟩)
  ·rw[decide_eq_false h];cases e:inV (.str z) (kinds.map V.str) with
   | false=>rfl
   | true=>
    obtain ⟨y,hy,e'⟩:=List.mem_map.mp (lh e);cases e'
    exact absurd hy h
theorem pf {kinds:List Str} (hk:Kinds kinds) {v:V} (hv:isW v):bu kinds v=lH↔isH kinds v=true:=by
 obtain ⟨b1,b2,b3,_,_,_⟩:=lets;rcases dk (kinds:=kinds) hv with ⟨rfl,h⟩ | ⟨rfl,h⟩ | ⟨⟨z,hz,rfl⟩,h⟩ | ⟨h,hno⟩
 ·rw[h];refine ⟨λe=>absurd e b1,λe=>?_⟩;exact absurd rfl (hk _ (of_decide_eq_true (show decide (Str.ofString "any"∈kinds)=true from e))).2.1
 ·rw[h];refine ⟨λe=>absurd e b2,λe=>?_⟩;exact absurd rfl (hk _ (of_decide_eq_true (show decide (Str.ofString "var"∈kinds)=true from e))).2.2
 ·exact ⟨λ_=>decide_eq_true hz,λ_=>h⟩
 ·rw[h];refine ⟨λe=>absurd e b3,λe=>?_⟩;rw[Ad hv,e] at hno;cases hno
theorem Et (kinds:List Str) (v:V) (r:List V):aq kinds (v::r)=(match v with | .str z=>if z∈kinds then [z] else [] | _=>[])++aq kinds r:=by
 unfold aq;rw[abh];cases v with
 | str z=>
  by_cases h:z∈kinds
  ·simp[h]
  ·simp[h]
 | _=>rfl
theorem iz (kinds:List Str):∀(sh:List V),(aq kinds sh).map V.str=sh.filter (isH kinds)
 | []=>rfl
 | v::r=>by
  rw[Et,aa5,iz kinds r,aan];cases v with
  | str z=>
   by_cases h:z∈kinds
   ·simp[h,isH]
   ·simp[h,isH]
  | _=>simp[isH]
theorem Ie (kinds:List Str) (v:V) (r:List V):(aq kinds (v::r)).length=(if isH kinds v=true then 1 else 0)+(aq kinds r).length:=by
 have e:=congrArg ac8 (iz kinds (v::r));have e':=congrArg ac8 (iz kinds r);rw[aa0] at e e';rw[e,e',aan];by_cases h:isH kinds v=true
 ·rw[if_pos h,if_pos h,aap];omega
 ·rw[if_neg h,if_neg h];omega
theorem ku {kinds:List Str} {ws:List V} (hk:Kinds kinds):∀(sh:List V) (p:Nat) (u u':Und),(∀v∈sh,isW v)→bz kinds ws sh p u=some u'→u'.hs.length=u.hs.length+(aq kinds sh).length∧∀h∈u'.hs,h∈u.hs∨p≤h
 | [],p,u,u',_,h=>by
  have h:some u=some u':=h;cases h
  exact ⟨rfl,λ_ m=>.inl m⟩
 | v::r,p,u,u',hw,h=>by
  rw[fw] at h;by_cases c:lies (bu kinds v) v (ws.getD p .non)=true
  ·rw[if_pos c] at h;obtain ⟨i1,i2⟩:=ku hk r _ _ u' (λx m=>hw x (aaa _ m)) h;have hv:=hw v aa9;rw[Ie];by_cases e:isH kinds v=true
   ·have e':=(pf hk hv).mpr e;have ep:u.put (bu kinds v) p (ws.getD p .non)=⟨u.hs++[p],u.ns,u.vs⟩:=by
     unfold Und.put;rw[if_pos e']
    rw[ep] at i1 i2;rw[if_pos e'] at i2;rw[if_pos e];have i1:u'.hs.length=(u.hs++[p]).length+(aq kinds r).length:=i1;rw[aa2,aag] at i1;refine ⟨by omega,λh m=>?_⟩;have le:p≤endAt ws p:=abj _ _;rcases i2 h m with g | g
    ·rcases List.mem_append.mp (show h∈u.hs++[p] from g) with g | g
     ·exact .inl g
     ·rw[List.mem_singleton.mp g];exact .inr (aa4 _)
    ·exact .inr (by omega)
   ·have e':¬bu kinds v=lH:=λz=>e ((pf hk hv).mp z);have ep:(u.put (bu kinds v) p (ws.getD p .non)).hs=u.hs:=by
     unfold Und.put;rw[if_neg e'];split
     ·rfl
     split
     ·rfl
     ·rfl
    rw[ep] at i1 i2;rw[if_neg e'] at i2;rw[if_neg e];refine ⟨by omega,λh m=>?_⟩;rcases i2 h m with g | g
    ·exact .inl g
    ·exact .inr (by omega)
  ·rw[if_neg c] at h;cases h
theorem jd {kinds:List Str} {rs:List Rl} {ws:List V} (bk:Bk kinds rs) {p:Nat} {f:Fr} (h:f∈bj kinds rs ws p):1≤f.own∧f.kind∈kinds∧(∀k∈f.hs,p≤k.1)∧∃r∈rs,r.name=f.name∧r.kind=f.kind∧r.price=f.own∧∃u,bz kinds ws r.shape p ⟨[],[],[]⟩=some u∧f.hs=u.hs.zip (aq kinds r.shape):=by
 obtain ⟨r,hr,e⟩:=List.mem_filterMap.mp h;obtain ⟨u,hu,rfl⟩:=Option.map_eq_some_iff.mp e;refine ⟨bk.pr r hr,bk.rk r hr,λk hk=>?_,r,hr,rfl,rfl,rfl,u,hu,rfl⟩;have:=(ku bk.kd r.shape p _ u (bk.sh r hr).1 hu).2 k.1 (acv (show (k.1,k.2)∈u.hs.zip (aq kinds r.shape) from hk)).1;rcases this with g | g
 ·cases g
 ·exact g
theorem Kk (kinds:List Str) (rs:List Rl) (ws:List V) (p:Nat):(bj kinds rs ws p).length≤rs.length:=abo _ _
noncomputable def gOf (H:Hp) (d:Addr):Ky→Option Int:=λk=>match H d with
 | some (.dT kvs)=>match cj kvs (kyK k) with
  | some (.int i)=>some i
  | _=>none
 | _=>none
theorem Ap {H:Hp} {d:Addr} {g:Ky→Option Int} {n:Nat} (h:cu H d g n):gOf H d=g:=by
 obtain ⟨kvs,h1,_,h3⟩:=h;funext k
 unfold gOf;rw[h1];show (match cj kvs (kyK k) with | some (.int i)=>some i | _=>none)=g k
 rw[h3 k];cases g k <;> rfl
structure SetI (p:Nat) (fs:List Fr) (g0:Ky→Option Int) (Ok:(Ky→Option Int)→Prop) (g:Ky→Option Int):Prop where
 ok:Ok g
 far:∀k,k.1≠p→g k=g0 k
 due:∀k v,k.1=p→g k=some v→∃f∈fs.map (eo p),f.key=k∧∃c,cost g f.own f.hs=some c∧c≤v
theorem SetI.put {p:Nat} {fs:List Fr} {g0:Ky→Option Int} {Ok:(Ky→Option Int)→Prop} {g:Ky→Option Int} (h:SetI p fs g0 Ok g) {f:Fr} (hf:f∈fs) {c:Int} (hc:cost g f.own f.hs=some c) (im:Imp g (p,f.kind) c) (ok':Ok (fb g (p,f.kind) c)):SetI p fs g0 Ok (fb g (p,f.kind) c):=by
 refine ⟨ok',λk hk=>?_,λk v hk hv=>?_⟩
 ·rw[dn λe=>hk (by rw[e])];exact h.far k hk
 ·have up:∀{f':Ft Ky} {c':Int},cost g f'.own f'.hs=some c'→∃x,cost (fb g (p,f.kind) c) f'.own f'.hs=some x∧x≤c':=λh=>sq (λk _ v hv=>im.le hv) (abp _) h;by_cases e:k=(p,f.kind)
  ·subst e;rw[cg] at hv;cases hv
   obtain ⟨x,hx,le⟩:=up (f':=eo p f) hc;exact ⟨eo p f,List.mem_map.mpr ⟨f,hf,rfl⟩,rfl,x,hx,le⟩
  ·rw[dn e] at hv;obtain ⟨f',hf',e',c',hc',le⟩:=h.due k v hk hv;obtain ⟨x,hx,le'⟩:=up hc';exact ⟨f',hf',e',x,hx,by omega⟩
def Kn (p:Nat) (g:Ky→Option Int) (f:Fr):Prop:=∀c,cost g f.own f.hs=some c→∃v,g (p,f.kind)=some v∧v≤c
theorem Ig {p:Nat} {fs:List Fr} {g:Ky→Option Int} (h:∀(j:Nat) (f:Fr),fs[j]?=some f→Kn p g f):ji (fs.map (eo p)) g:=λf' hf' c hc=>by
 obtain ⟨f,hf,rfl⟩:=List.mem_map.mp hf';obtain ⟨j,hj⟩:=List.mem_iff_getElem?.mp hf;exact h j f hj c hc
theorem cnt_up {p:Nat} {fs:List Fr} {g:Ky→Option Int} {f:Fr} (hf:f∈fs) {c:Int} {n:Nat}:(if (g (p,f.kind)).isSome then n+cnt (fs.map (eo p)) g else n+cnt (fs.map (eo p)) g+1)≤n+cnt (fs.map (eo p)) (fb g (p,f.kind) c):=by
 cases e:g (p,f.kind) with
 | none=>
  have:=tj (c:=c) e (fs.map (eo p)) ⟨eo p f,List.mem_map.mpr ⟨f,hf,rfl⟩,rfl⟩;simp only[acd,aaz,if_false];omega
 | some v=>
  have:=j9 (g:=g) (g':=fb g (p,f.kind) c) (fs.map (eo p)) λf' _ e=>by
   by_cases q:f'.key=(p,f.kind)
   ·rw[q,cg];rfl
   ·rw[dn q];exact e
  simp only[ac0,if_true];omega
theorem ay.tb {d:Addr} {H:Hp} (o:HO):ay d H (L2.upd H d o):=λb u n h=>by rw[af n];exact h
noncomputable def blAt (σ:List (Option V)):Nat:=match σ[3]? with
 | some (some (V.bl false))=>1
 | _=>0
structure xy (kinds:List Str) (rs:List Rl) (ws:List V) (p:Nat) (g:Ky→Option Int):Prop where
 at':∀k v,g k=some v→p≤k.1∧k.1 < ws.length
 st:∀q,p≤q→q < ws.length→ji ((bj kinds rs ws q).map (eo q)) g
 due:∀k v,g k=some v→∃f∈(bj kinds rs ws k.1).map (eo k.1),f.key=k∧∃c,cost g f.own f.hs=some c∧c≤v
 pos:∀k v,g k=some v→1≤v
theorem xy.start (kinds:List Str) (rs:List Rl) (ws:List V):xy kinds rs ws ws.length (λ_=>none):=⟨(λk v h=>nomatch h),(λq h1 h2=>by omega),(λk v h=>nomatch h),(λk v h=>nomatch h)⟩
theorem vb {kinds:List Str} {rs:List Rl} {ws:List V} (bk:Bk kinds rs) {p q:Nat} {g g':Ky→Option Int} (hq:p < q) (far:∀k,k.1≠p→g' k=g k) {f:Fr} (hf:f∈bj kinds rs ws q) (c:Int):cost g' c f.hs=cost g c f.hs:=xa λk hk=>far k (by have:=(jd bk hf).2.2.1 k hk;omega)
theorem xy.step {kinds:List Str} {rs:List Rl} {ws:List V} (bk:Bk kinds rs) {p:Nat} {g g':Ky→Option Int} (h:xy kinds rs ws (p+1) g) (hp:p < ws.length) (st:ji ((bj kinds rs ws p).map (eo p)) g') (far:∀k,k.1≠p→g' k=g k)
  (due:∀k v,k.1=p→g' k=some v→∃f∈(bj kinds rs ws p).map (eo p),f.key=k∧∃c,cost g' f.own f.hs=some c∧c≤v) (pos:∀k v,g' k=some v→1≤v):xy kinds rs ws p g':=by
 refine ⟨λk v hv=>?_,λq h1 h2=>?_,λk v hv=>?_,pos⟩
 ·by_cases e:k.1=p
  ·omega
  ·rw[far k e] at hv;have:=h.at' k v hv;omega
 ·by_cases e:q=p
  ·subst e;exact st
  ·intro f hf c hc;obtain ⟨f',hf',rfl⟩:=List.mem_map.mp hf;have hc:cost g' f'.own f'.hs=some c:=hc;rw[vb bk (show p < q by omega) far hf'] at hc;obtain ⟨v,hv,le⟩:=h.st q (by omega) h2 (eo q f') hf c hc;exact ⟨v,by rw[far _ (show q≠p from e)];exact hv,le⟩
 ·by_cases e:k.1=p
  ·obtain ⟨f,hf,e1,r⟩:=due k v e hv;rw[e];exact ⟨f,hf,e1,r⟩
  ·rw[far k e] at hv;obtain ⟨f,hf,e1,c,hc,le⟩:=h.due k v hv;obtain ⟨f',hf',rfl⟩:=List.mem_map.mp hf;have:=(h.at' k v hv).1;refine ⟨_,hf,e1,c,?_,le⟩;show cost g' f'.own f'.hs=some c
   rw[vb bk (show p < k.1 by omega) far hf'];exact hc
theorem Mb {kinds:List Str} {rs:List Rl} {ws:List V} (bk:Bk kinds rs) {p q:Nat} {g g':Ky→Option Int} (hq:p < q) (far:∀k,k.1≠p→g' k=g k) (ks:List Str):dm ks (bj kinds rs ws q) q g'=dm ks (bj kinds rs ws q) q g:=by
 unfold dm;have e:(λk=>(g' (q,k)).map λv=>(⟨q,k,v,namesW (bj kinds rs ws q) g' k v⟩:Rw))=λk=>(g (q,k)).map λv=>⟨q,k,v,namesW (bj kinds rs ws q) g k v⟩:=by
  funext k
  rw[far (q,k) (show q≠p by omega)];congr 1
  funext v
  congr 1
  unfold namesW;congr 1
  apply List.filter_congr
  intro f hf;rw[vb bk hq far hf]
 rw[e]
theorem xy.tbl {kinds:List Str} {rs:List Rl} {ws:List V} {g:Ky→Option Int} (h:xy kinds rs ws 0 g):Tbl (dw kinds rs ws) g:=by
 refine ⟨λf hf c hc=>?_,λk v hv=>?_,h.pos⟩
 ·obtain ⟨q,hq,hf⟩:=List.mem_flatMap.mp hf;exact h.st q (aa7 _) (List.mem_range.mp hq) f hf c hc
 ·obtain ⟨f,hf,e,r⟩:=h.due k v hv;exact ⟨f,List.mem_flatMap.mpr ⟨k.1,List.mem_range.mpr (h.at' k v hv).2,hf⟩,e,r⟩
def gi (H0 H:Hp) (pl:Addr) (pa:List Addr) (kinds:List Str) (rs:List Rl) (ws:List V) (p:Nat) (g:Ky→Option Int):Prop:=pa.length=ws.length - p∧∀q,p≤q→q < ws.length→∃a bs,pa[ws.length - 1 - q]?=some a∧¬(H0 a≠none∨a=pl)∧H a=some (.lst (bs.map V.ref))∧cm H (λx=>H0 x≠none∨x=pl) bs (dm (cy kinds) (bj kinds rs ws q) q g)
theorem gi.kx {H0 H H':Hp} {pl:Addr} {pa:List Addr} {kinds:List Str} {rs:List Rl} {ws:List V} {p:Nat} {g:Ky→Option Int} (h:gi H0 H pl pa kinds rs ws p g) (x:Kx (λx=>H0 x≠none∨x=pl) H H'):gi H0 H' pl pa kinds rs ws p g:=⟨h.1,λq h1 h2=>by
 obtain ⟨a,bs,g1,g2,g3,g4⟩:=h.2 q h1 h2;exact ⟨a,bs,g1,g2,x.l g2 g3,g4.kx x⟩⟩
theorem gi.snoc {H0 H:Hp} {pl:Addr} {pa:List Addr} {kinds:List Str} {rs:List Rl} {ws:List V} {p:Nat} {g g':Ky→Option Int} (bk:Bk kinds rs) (h:gi H0 H pl pa kinds rs ws (p+1) g) (hp:p < ws.length) (far:∀k,k.1≠p→g' k=g k) {a:Addr} {bs:List Addr} (ha:¬(H0 a≠none∨a=pl)) (h1:H a=some (.lst (bs.map V.ref))) (h2:cm H (λx=>H0 x≠none∨x=pl) bs (dm (cy kinds) (bj kinds rs ws p) p g')):gi H0 H pl (pa++[a]) kinds rs ws p g':=by
 have hl:=h.1;refine ⟨by rw[aa2,aag,hl];omega,λq h3 h4=>?_⟩;by_cases e:q=p
 ·subst e;exact ⟨a,bs,by rw[aab (by omega),hl,show ws.length - 1 - q - (ws.length - (q+1))=0 by omega];rfl,ha,h1,h2⟩
 ·obtain ⟨a',bs',g1,g2,g3,g4⟩:=h.2 q (by omega) h4;refine ⟨a',bs',by rw[aaf (by omega)];exact g1,g2,g3,?_⟩;rw[Mb bk (show p < q by omega) far];exact g4
theorem wc (ks:List Str) (fs:List Fr) (p:Nat) (g:Ky→Option Int):(dm ks fs p g).length≤ks.length:=abo _ _
noncomputable def mi (kinds:List Str) (rs:List Rl) (ws:List V) (g:Ky→Option Int) (i:Nat):List Rw:=(aav i).flatMap λp=>dm (cy kinds) (bj kinds rs ws p) p g
theorem j7 (kinds:List Str) (rs:List Rl) (ws:List V) (g:Ky→Option Int) (i:Nat):mi kinds rs ws g (i+1)=mi kinds rs ws g i++dm (cy kinds) (bj kinds rs ws i) i g:=by
 unfold mi;rw[ae7,ael];simp
theorem mj (kinds:List Str) (rs:List Rl) (ws:List V) (g:Ky→Option Int) (hk:kinds.length≤60):∀i,(mi kinds rs ws g i).length≤60*i
 | 0=>aa4 _
 | i+1=>by
  rw[j7,aa2];have h1:=mj kinds rs ws g hk i;have h2:=wc (cy kinds) (bj kinds rs ws i) i g;rw[qo] at h2;omega
theorem ml {kinds:List Str} {rs:List Rl} {ws:List V} {g:Ky→Option Int} (T:Tbl (dw kinds rs ws) g) {r:Rw} (h:r∈rowsOf kinds rs ws g):∃nm,r.names.head?=some nm:=by
 obtain ⟨p,hp,h⟩:=List.mem_flatMap.mp h;obtain ⟨k,hk,e⟩:=List.mem_filterMap.mp h;obtain ⟨v,hv,rfl⟩:=Option.map_eq_some_iff.mp e;obtain ⟨f,hf,e1,hc⟩:=T.exact hv;obtain ⟨p',_,hf⟩:=List.mem_flatMap.mp hf;obtain ⟨f',hf',rfl⟩:=List.mem_map.mp hf;have e1:(p',f'.kind)=(p,k):=e1;obtain ⟨rfl,rfl⟩:=ae9 e1;have hm:f'.name∈namesW (bj kinds rs ws p') g f'.kind v:=List.mem_map.mpr ⟨f',List.mem_filter.mpr ⟨hf',decide_eq_true ⟨rfl,hc⟩⟩,rfl⟩;show ∃nm,(namesW (bj kinds rs ws p') g f'.kind v).head?=some nm
 cases e:namesW (bj kinds rs ws p') g f'.kind v with
 | nil=>rw[e] at hm;cases hm
 | cons x xs=>exact ⟨x,rfl⟩
def sk (H:Hp) (bs:List Addr) (rows:List Rw):Prop:=bs.length=rows.length∧∀(j:Nat) (r:Rw),rows[j]?=some r→∃a nm,bs[j]?=some a∧r.names.head?=some nm∧H a=some (.tup [.int (r.place:Int),.str r.kind,.int r.price,.str nm])
theorem sk.same {H H':Hp} {bs:List Addr} {rows:List Rw} (h:sk H bs rows) (s:ak H H'):sk H' bs rows:=⟨h.1,λj r e=>by
 obtain ⟨a,nm,h1,h2,h3⟩:=h.2 j r e;exact ⟨a,nm,h1,h2,s _ _ h3⟩⟩
def pj:Sp:=λvs H Q _=>∃(b wt:Addr) (kinds:List Str) (rs:List Rl) (ws:List V),vs=[.ref b,.ref wt]∧br H b kinds rs∧H wt=some (.tup ws)∧Bk kinds rs∧Tw ws∧∀(l:Addr) (bs:List Addr) (H':Hp) (g:Ky→Option Int),ak H H'→H l=none→H' l=some (.lst (bs.map V.ref))→Tbl (dw kinds rs ws) g→sk H' bs (rowsOf kinds rs ws g)→Q (.ref l) H'
theorem sk.tk {H H':Hp} {bs:List Addr} {rows:List Rw} (h:sk H bs rows) (s:TK H H'):sk H' bs rows:=⟨h.1,λj r e=>by
 obtain ⟨a,nm,h1,h2,h3⟩:=h.2 j r e;exact ⟨a,nm,h1,h2,s _ _ h3⟩⟩
theorem sk.snoc {H:Hp} {bs:List Addr} {rows:List Rw} (h:sk H bs rows) {a:Addr} {r:Rw} {nm:Str} (hn:r.names.head?=some nm) (ha:H a=some (.tup [.int (r.place:Int),.str r.kind,.int r.price,.str nm])):sk H (bs++[a]) (rows++[r]):=by
 refine ⟨by rw[aa2,aa2,h.1];rfl,λi r' hi=>?_⟩;by_cases c:i < rows.length
 ·rw[aaf c] at hi;obtain ⟨a',nm',g1,g2⟩:=h.2 i r' hi;exact ⟨a',nm',by rw[aaf (by rw[h.1];exact c)];exact g1,g2⟩
 ·rw[aab (by omega)] at hi;have hz:i - rows.length=0:=by
   rcases abn (i - rows.length) with g | g
   ·exact g
   ·rw[abe (by rw[aag];omega)] at hi;cases hi
  rw[hz] at hi;cases hi
  exact ⟨a,nm,by rw[aab (by rw[h.1];omega),h.1,hz];rfl,hn,ha⟩
theorem cm.get {no:Addr→Prop} {H:Hp} {as:List Addr} {rows:List Rw} (h:cm H no as rows) {i:Nat} {t:Addr} (ht:as[i]?=some t):∃r nl,rows[i]?=some r∧H t=some (.tup [.int (r.place:Int),.str r.kind,.int r.price,.ref nl])∧H nl=some (.lst (r.names.map V.str)):=by
 have hi:i < rows.length:=by rw[←h.1];exact (List.getElem?_eq_some_iff.mp ht).1
 obtain ⟨a,h1,nl,_,h3,h4⟩:=h.2 i _ (aa1 hi);obtain rfl:a=t:=aa3 (h1.symm.trans ht);exact ⟨_,nl,aa1 hi,h3,h4⟩
theorem xl {kinds:List Str} {rs:List Rl} {ws:List V} {g:Ky→Option Int} (bk:Bk kinds rs) (tw:Tw ws):(rowsOf kinds rs ws g).length≤60000:=by
 have h1:=mj kinds rs ws g bk.kl ws.length;have h2:=tw.len;have h1:(rowsOf kinds rs ws g).length≤60*ws.length:=h1;omega
noncomputable def je (r:Rw):Ky:=(r.place,r.kind)
theorem rg (fs:List Fr) (p:Nat) (g:Ky→Option Int):∀ks:List Str,(dm ks fs p g).map je=(ks.filter λk=>(g (p,k)).isSome).map λk=>(p,k)
 | []=>rfl
 | k::ks=>by
  have ih:=rg fs p g ks;unfold dm at ih ⊢;rw[abh,aan];cases e:g (p,k) with
  | none=>simpa using ih
  | some v=>
   show je ⟨p,k,v,_⟩::_=_
   rw[if_pos (by rfl),aau];congr 1
theorem Eo {kinds:List Str} (h:kinds.Nodup):(cy kinds).Nodup:=(gv kinds).nodup_iff.mpr h
theorem i6 {α β:Type} {f:α→β} (hf:∀a b,f a=f b→a=b):∀{l:List α},l.Nodup→(l.map f).Nodup
 | [],_=>acj
 | a::l,h=>by
  obtain ⟨h1,h2⟩:=List.nodup_cons.mp h;rw[aau];refine List.nodup_cons.mpr ⟨λm=>?_,i6 hf h2⟩;obtain ⟨b,hb,e⟩:=List.mem_map.mp m;exact h1 (hf _ _ e ▸ hb)
theorem om {kinds:List Str} (hk:kinds.Nodup) (rs:List Rl) (ws:List V) (g:Ky→Option Int):∀i,((mi kinds rs ws g i).map je).Nodup∧∀k∈(mi kinds rs ws g i).map je,k.1 < i
 | 0=>⟨acj,λk h=>nomatch h⟩
 | i+1=>by
  obtain ⟨h1,h2⟩:=om hk rs ws g i;rw[j7,aa5,rg];have one:∀k∈((cy kinds).filter λk=>(g (i,k)).isSome).map (λk=>(i,k)),k.1=i:=λk hk=>by
   obtain ⟨z,_,rfl⟩:=List.mem_map.mp hk;rfl
  refine ⟨List.nodup_append.mpr ⟨h1,i6 (λa b e=>(ae9 e).2) ((Eo hk).sublist List.filter_sublist),λa ha b hb e=>?_⟩,λk hk=>?_⟩
  ·have:=h2 a ha;have:=one b hb;rw[e] at*;omega
  ·rcases List.mem_append.mp hk with m | m
   ·have:=h2 k m;omega
   ·have:=one k m;omega
theorem i5 {kinds:List Str} {rs:List Rl} {ws:List V} {g:Ky→Option Int} {r:Rw} (h:r∈rowsOf kinds rs ws g):r.place < ws.length∧g (r.place,r.kind)=some r.price∧r.names=namesW (bj kinds rs ws r.place) g r.kind r.price:=by
 obtain ⟨p,hp,h⟩:=List.mem_flatMap.mp h;obtain ⟨k,hk,e⟩:=List.mem_filterMap.mp h;obtain ⟨v,hv,rfl⟩:=Option.map_eq_some_iff.mp e;exact ⟨List.mem_range.mp hp,hv,rfl⟩
theorem vo {kinds:List Str} {rs:List Rl} {ws:List V} {g:Ky→Option Int} (bk:Bk kinds rs) (T:Tbl (dw kinds rs ws) g) {k:Ky} {v:Int} (h:g k=some v):∃r∈rowsOf kinds rs ws g,r.place=k.1∧r.kind=k.2∧r.price=v:=by
 obtain ⟨f,hf,e,_⟩:=T.exact h;obtain ⟨p,hp,hf⟩:=List.mem_flatMap.mp hf;obtain ⟨f',hf',rfl⟩:=List.mem_map.mp hf;have e:(p,f'.kind)=k:=e;subst e;refine ⟨⟨p,f'.kind,v,namesW (bj kinds rs ws p) g f'.kind v⟩,List.mem_flatMap.mpr ⟨p,hp,List.mem_filterMap.mpr ⟨f'.kind,Ho.mpr (jd bk hf').2.1,?_⟩⟩,rfl,rfl,rfl⟩;rw[h];rfl
theorem x9:∀(ps acc:List (List Key×V)),((acc++ps).map (·.1)).Nodup→j4 ps acc=acc++ps
 | [],acc,_=>(aay _).symm
 | p::ps,acc,h=>by
  have hn:cj acc p.1=none:=by
   cases e:cj acc p.1 with
   | none=>rfl
   | some v=>
    have hm:=sv e;rw[aa5] at h;exact absurd rfl ((List.nodup_append.mp h).2.2 _ hm _ (List.mem_map.mpr ⟨p,aa9,rfl⟩))
  show j4 ps (putK acc p.1 p.2)=_
  rw[wy p.2 hn,x9 ps _ (by rw[abi];exact h),abi];rfl
theorem zu {κ:Type} [DecidableEq κ]:∀{ps:List (κ×V)} {k:κ} {v:V},(ps.map (·.1)).Nodup→(k,v)∈ps→cj ps k=some v
 | [],_,_,_,h=>nomatch h
 | p::ps,k,v,nd,h=>by
  have nd:(p.1::ps.map (·.1)).Nodup:=nd;obtain ⟨n1,n2⟩:=List.nodup_cons.mp nd;rcases List.mem_cons.mp h with e | h
  ·rw[b8 (by rw[←e]),←e]
  ·have ne:¬p.1=k:=λe=>n1 (e ▸ List.mem_map.mpr ⟨_,h,rfl⟩);rw[b7 ne];exact zu n2 h
theorem Kg {kinds:List Str} {rs:List Rl} {ws:List V} {g:Ky→Option Int} (bk:Bk kinds rs) {r:Rw} (h:r∈rowsOf kinds rs ws g) {nm:Str} (hn:nm∈r.names):∃(i:Nat) (rl:Rl) (u:Und),rs[i]?=some rl∧rl.name=nm∧rl.kind=r.kind∧bz kinds ws rl.shape r.place ⟨[],[],[]⟩=some u∧cost g rl.price (u.hs.zip (aq kinds rl.shape))=some r.price:=by
 rw[(i5 h).2.2] at hn;obtain ⟨f,hf,e⟩:=List.mem_map.mp hn;obtain ⟨hf,c⟩:=List.mem_filter.mp hf;obtain ⟨c1,c2⟩:=of_decide_eq_true c;obtain ⟨_,_,_,rl,hr,n1,n2,n3,u,hu,hh⟩:=jd bk hf;obtain ⟨i,hi⟩:=List.mem_iff_getElem?.mp hr;exact ⟨i,rl,u,hi,by rw[n1,e],by rw[n2,c1],hu,by rw[n3,←hh];exact c2⟩
theorem Cd {kinds:List Str} {rs:List Rl} {ws:List V} (bk:Bk kinds rs):∀f∈dw kinds rs ws,1≤f.own:=λf hf=>by
 obtain ⟨p,_,hf⟩:=List.mem_flatMap.mp hf;obtain ⟨f',hf',rfl⟩:=List.mem_map.mp hf;exact (jd bk hf').1
def j8 (K:PySem.W.Frag):Sp:=λvs H Q _=>∃(kt st:Addr) (kinds:List Str) (sh:List V),vs=[.ref kt,.ref st]∧SqT K H kt (kinds.map V.str)∧SqT K H st sh∧(∀v∈sh,isW v)∧sh.length≤1000∧∀(l:Addr) (H':Hp),ak H H'→H l=none→H' l=some (.lst ((aq kinds sh).map V.str))→Q (.ref l) H'
end Pc
namespace L2
theorem ob3 {α0 α1 α2:Type} {p:α0→α1→α2→Prop} {g:Prop} (h:∃a0 a1 a2,p a0 a1 a2) (k:∀a0 a1 a2,p a0 a1 a2→g):g:=by
 obtain ⟨a0,a1,a2,h⟩:=h;exact k a0 a1 a2 h
theorem ob4 {α0 α1 α2 α3:Type} {p:α0→α1→α2→α3→Prop} {g:Prop} (h:∃a0 a1 a2 a3,p a0 a1 a2 a3) (k:∀a0 a1 a2 a3,p a0 a1 a2 a3→g):g:=by
 obtain ⟨a0,a1,a2,a3,h⟩:=h;exact k a0 a1 a2 a3 h
theorem ob5 {α0 α1 α2 α3 α4:Type} {p:α0→α1→α2→α3→α4→Prop} {g:Prop} (h:∃a0 a1 a2 a3 a4,p a0 a1 a2 a3 a4) (k:∀a0 a1 a2 a3 a4,p a0 a1 a2 a3 a4→g):g:=by
 obtain ⟨a0,a1,a2,a3,a4,h⟩:=h;exact k a0 a1 a2 a3 a4 h
theorem ob6 {α0 α1 α2 α3 α4 α5:Type} {p:α0→α1→α2→α3→α4→α5→Prop} {g:Prop} (h:∃a0 a1 a2 a3 a4 a5,p a0 a1 a2 a3 a4 a5) (k:∀a0 a1 a2 a3 a4 a5,p a0 a1 a2 a3 a4 a5→g):g:=by
 obtain ⟨a0,a1,a2,a3,a4,a5,h⟩:=h;exact k a0 a1 a2 a3 a4 a5 h
theorem ob7 {α0 α1 α2 α3 α4 α5 α6:Type} {p:α0→α1→α2→α3→α4→α5→α6→Prop} {g:Prop} (h:∃a0 a1 a2 a3 a4 a5 a6,p a0 a1 a2 a3 a4 a5 a6) (k:∀a0 a1 a2 a3 a4 a5 a6,p a0 a1 a2 a3 a4 a5 a6→g):g:=by
 obtain ⟨a0,a1,a2,a3,a4,a5,a6,h⟩:=h;exact k a0 a1 a2 a3 a4 a5 a6 h
theorem ob8 {α0 α1 α2 α3 α4 α5 α6 α7:Type} {p:α0→α1→α2→α3→α4→α5→α6→α7→Prop} {g:Prop} (h:∃a0 a1 a2 a3 a4 a5 a6 a7,p a0 a1 a2 a3 a4 a5 a6 a7) (k:∀a0 a1 a2 a3 a4 a5 a6 a7,p a0 a1 a2 a3 a4 a5 a6 a7→g):g:=by
 obtain ⟨a0,a1,a2,a3,a4,a5,a6,a7,h⟩:=h;exact k a0 a1 a2 a3 a4 a5 a6 a7 h
theorem ob10 {α0 α1 α2 α3 α4 α5 α6 α7 α8 α9:Type} {p:α0→α1→α2→α3→α4→α5→α6→α7→α8→α9→Prop} {g:Prop} (h:∃a0 a1 a2 a3 a4 a5 a6 a7 a8 a9,p a0 a1 a2 a3 a4 a5 a6 a7 a8 a9) (k:∀a0 a1 a2 a3 a4 a5 a6 a7 a8 a9,p a0 a1 a2 a3 a4 a5 a6 a7 a8 a9→g):g:=by
 obtain ⟨a0,a1,a2,a3,a4,a5,a6,a7,a8,a9,h⟩:=h;exact k a0 a1 a2 a3 a4 a5 a6 a7 a8 a9 h
open PySem PySem.Spec PyProof.Rows
theorem M5 {K:PySem.W.Frag} {n:Nat} {a:Addr} {x0 x1:V} {i0 i1:Nat} {σ:L2.St} {H:Hp} {Q:L2.St→Hp→Prop} (h:H a=some (.tup [x0,x1])) (hn:2=n) (q:Q ((σ.set i0 (some x0)).set i1 (some x1)) H):Eu K n (eu (cv i0) (eu (cv i1) gNil)) (.ref a) σ H Q:=⟨a,_,rfl,SqT.of h,hn,_,_,rfl,_,_,rfl,rfl,q⟩
theorem Cp {K:PySem.W.Frag} {n:Nat} {a:Addr} {x0 x1 x2 x3:V} {i0 i1 i2 i3:Nat} {σ:L2.St} {H:Hp} {Q:L2.St→Hp→Prop} (h:H a=some (.tup [x0,x1,x2,x3])) (hn:4=n) (q:Q ((((σ.set i0 (some x0)).set i1 (some x1)).set i2 (some x2)).set i3 (some x3)) H):Eu K n (eu (cv i0) (eu (cv i1) (eu (cv i2) (eu (cv i3) gNil)))) (.ref a) σ H Q:=⟨a,_,rfl,SqT.of h,hn,_,_,rfl,_,_,rfl,_,_,rfl,_,_,rfl,rfl,q⟩
theorem Ke {K:PySem.W.Frag} {n:Nat} {a:Addr} {x0 x1 x2 x3 x4:V} {i0 i1 i2 i3 i4:Nat} {σ:L2.St} {H:Hp} {Q:L2.St→Hp→Prop} (h:H a=some (.tup [x0,x1,x2,x3,x4])) (hn:5=n) (q:Q (((((σ.set i0 (some x0)).set i1 (some x1)).set i2 (some x2)).set i3 (some x3)).set i4 (some x4)) H):Eu K n (eu (cv i0) (eu (cv i1) (eu (cv i2) (eu (cv i3) (eu (cv i4) gNil))))) (.ref a) σ H Q:=⟨a,_,rfl,SqT.of h,hn,_,_,rfl,_,_,rfl,_,_,rfl,_,_,rfl,_,_,rfl,rfl,q⟩
end L2
namespace Pc
open PySem PySem.Spec L2 PyProof.Rows Fm
theorem Qd {K:PySem.W.Frag} {v:V} {kt:Addr} {kinds:List Str} {H:Hp} {Q:VK} {E:XK} (p0:isW v) (p1:SqT K H kt (kinds.map V.str)) (p2:Q (.str (bu kinds v)) H):(jk K) [v,.ref kt] H Q E:=⟨v,kt,kinds,rfl,p0,p1,p2⟩
theorem mkLies {l:Str} {v x:V} {H:Hp} {Q:VK} {E:XK} (p0:isW v) (p1:isW x) (p2:Q (.bl (lies l v x)) H):zw [.str l,v,x] H Q E:=⟨l,v,x,rfl,p0,p1,p2⟩
theorem Jt {K:PySem.W.Frag} {st kt wt:Addr} {sh:List V} {kinds:List Str} {ws:List V} {p n:Nat} {H:Hp} {Q:VK} {E:XK} (p0:SqT K H st sh) (p1:SqT K H kt (kinds.map V.str)) (p2:SqT K H wt ws) (p3:Kinds kinds) (p4:(∀v∈sh,isW v)) (p5:(∀v∈ws,isW v)) (p6:isTerm sh) (p7:eat 1 ((ws.drop p).map arV)=some n) (p8:sh.length≤1000) (p9:ws.length≤1000) (p10:∀H',ak H H'→told (bz kinds ws sh p ⟨[],[],[]⟩) H' Q):(wx K) [.ref st,.ref kt,.ref wt,.int (p:Int)] H Q E:=⟨st,kt,wt,sh,kinds,ws,p,n,rfl,p0,p1,p2,p3,p4,p5,p6,p7,p8,p9,p10⟩
theorem Kf {K:PySem.W.Frag} {t:Addr} {ws:List V} {H:Hp} {Q:VK} {E:XK} (p0:SqT K H t ws) (p1:(∀v∈ws,isW v)) (p2:isTerm ws) (p3:ws.length≤1000) (p4:∀(l:Addr) (H':Hp),ak H H'→H l=none→H' l=some (.lst ((aav ws.length).map λq=>plV (endAt ws q)))→Q (.ref l) H'):(uo K) [.ref t] H Q E:=⟨t,ws,rfl,p0,p1,p2,p3,p4⟩
theorem G6 {K:PySem.W.Frag} {st kt wt et:Addr} {sh:List V} {kinds:List Str} {ws:List V} {p:Nat} {H:Hp} {Q:VK} {E:XK} (p0:SqT K H st sh) (p1:SqT K H kt (kinds.map V.str)) (p2:SqT K H wt ws) (p3:H et=some (.lst ((aav ws.length).map λq=>plV (endAt ws q)))) (p4:Kinds kinds) (p5:(∀v∈sh,isW v)) (p6:isTerm sh) (p7:sh.length≤1000) (p8:Tw ws) (p9:p < ws.length) (p10:∀H',ak H H'→told (bz kinds ws sh p ⟨[],[],[]⟩) H' Q):(o7 K) [.ref kt,.ref st,.ref wt,.ref et,.int (p:Int)] H Q E:=⟨st,kt,wt,et,sh,kinds,ws,p,rfl,p0,p1,p2,p3,p4,p5,p6,p7,p8,p9,p10⟩
theorem Pz {d nl b:Addr} {ns:List Int} {zs:List Str} {m n:Nat} {H:Hp} {Q:VK} {E:XK} (p0:fm H d b ns n) (p1:cx H nl zs) (p2:1≤m) (p3:m≤120) (p4:n≤50000) (p5:∀(t:Addr) (n':Nat) (H':Hp) (ws:List V),ay d H H'→H' d=some (.lst [.ref b,.int (n':Int)])→n'≤n+m→H t=none→H' t=some (.tup ws)→Tw ws→ws.length≤m→Q (.ref t) H'):t4 [.ref d,.ref nl,.int (m:Int)] H Q E:=⟨d,nl,b,ns,zs,m,n,rfl,p0,p1,p2,p3,p4,p5⟩
theorem Qf {d kt b:Addr} {ns:List Int} {kinds:List Str} {n:Nat} {H:Hp} {Q:VK} {E:XK} (p0:fm H d b ns n) (p1:H kt=some (.tup (kinds.map V.str))) (p2:Kinds kinds) (p3:1≤kinds.length) (p4:kinds.length≤20) (p5:n≤50000) (p6:∀(t:Addr) (n':Nat) (H':Hp) (sh:List V),ay d H H'→H' d=some (.lst [.ref b,.int (n':Int)])→n'≤n+12→H t=none→H' t=some (.tup sh)→j3 kinds sh→Q (.ref t) H'):tm [.ref d,.ref kt] H Q E:=⟨d,kt,b,ns,kinds,n,rfl,p0,p1,p2,p3,p4,p5,p6⟩
theorem O7 {K:PySem.W.Frag} {kt st:Addr} {kinds:List Str} {sh:List V} {H:Hp} {Q:VK} {E:XK} (p0:H kt=some (.tup (kinds.map V.str))) (p1:H st=some (.tup sh)) (p2:Kinds kinds) (p3:j3 kinds sh) (p4:∀(t:Addr) (ds:List V) (H':Hp),ak H H'→H' t=some (.tup ds)→Q (.ref t) H'):(ub K) [.ref kt,.ref st] H Q E:=⟨kt,st,kinds,sh,rfl,p0,p1,p2,p3,p4⟩
theorem mkBook {d nl b:Addr} {ns:List Int} {zs:List Str} {n:Nat} {H:Hp} {Q:VK} {E:XK} (p0:fm H d b ns n) (p1:cx H nl zs) (p2:n≤1000) (p3:∀(bt:Addr) (n':Nat) (H':Hp) (kinds:List Str) (rs:List Rl),ay d H H'→H' d=some (.lst [.ref b,.int (n':Int)])→n'≤n+1000→br H' bt kinds rs→Bk kinds rs→1≤rs.length→(∀r∈rs,r.name∈zs)→(∀z∈kinds,z∈zs)→Q (.ref bt) H'):Ak [.ref d,.ref nl] H Q E:=⟨d,nl,b,ns,zs,n,rfl,p0,p1,p2,p3⟩
theorem My {d b:Addr} {ns:List Int} {n:Nat} {H:Hp} {Q:VK} {E:XK} (p0:fm H d b ns n) (p1:n≤1000) (p2:∀(l:Addr) (H':Hp) (zs:List Str),ay d H H'→H' d=some (.lst [.ref b,.int ((n+1:Nat):Int)])→cx H' l zs→(∀z∈zs,gr z)→Q (.ref l) H'):ow [.ref d] H Q E:=⟨d,b,ns,n,rfl,p0,p1,p2⟩
theorem Cm {K:PySem.W.Frag} {st kt ut:Addr} {sh:List V} {kinds:List Str} {u:Und} {H:Hp} {Q:VK} {E:XK} (p0:SqT K H st sh) (p1:SqT K H kt (kinds.map V.str)) (p2:uh H ut u) (p3:Kinds kinds) (p4:(∀v∈sh,isW v)) (p5:sh.length≤1000) (p6:u.hs.length=(aq kinds sh).length) (p7:∀(l:Addr) (H':Hp),ak H H'→H l=none→mf H' l (u.hs.zip (aq kinds sh))→Q (.ref l) H'):(kg K) [.ref st,.ref kt,.ref ut] H Q E:=⟨st,kt,ut,sh,kinds,u,rfl,p0,p1,p2,p3,p4,p5,p6,p7⟩
theorem Hq {b wt:Addr} {kinds:List Str} {rs:List Rl} {ws:List V} {p:Nat} {H:Hp} {Q:VK} {E:XK} (p0:br H b kinds rs) (p1:H wt=some (.tup ws)) (p2:Bk kinds rs) (p3:Tw ws) (p4:p < ws.length) (p5:∀(l:Addr) (as:List Addr) (H':Hp),ak H H'→H l=none→H' l=some (.lst (as.map V.ref))→de H' (λx=>H x≠none) as (bj kinds rs ws p)→Q (.ref l) H'):lg [.ref b,.ref wt,.int (p:Int)] H Q E:=⟨b,wt,kinds,rs,ws,p,rfl,p0,p1,p2,p3,p4,p5⟩
theorem Oh {own:Int} {hl d:Addr} {hs:List Ky} {g:Ky→Option Int} {n:Nat} {H:Hp} {Q:VK} {E:XK} (p0:mf H hl hs) (p1:cu H d g n) (p2:Q (match cost g own hs with | none=>.non | some c=>.int c) H):jt [.int own,.ref hl,.ref d] H Q E:=⟨own,hl,d,hs,g,n,rfl,p0,p1,p2⟩
theorem Mw {p:Nat} {fl d:Addr} {as:List Addr} {fs:List Fr} {g:Ky→Option Int} {n:Nat} {H:Hp} {Q:VK} {E:XK} (p0:H fl=some (.lst (as.map V.ref))) (p1:de H (λ_=>False) as fs) (p2:cu H d g n) (p3:n+fs.length≤1000000) (p4:(∀f∈fs,1≤f.own)) (p5:(∀k v,g k=some v→1≤v)) (p6:(∀k,k.1=p→g k=none)) (p7:∀(H':Hp) (g':Ky→Option Int),ay d H H'→cu H' d g' (n+fs.length)→ji (fs.map (eo p)) g'→(∀k,k.1≠p→g' k=g k)→(∀k v,k.1=p→g' k=some v→∃f∈fs.map (eo p),f.key=k∧∃c,cost g' f.own f.hs=some c∧c≤v)→(∀k v,g' k=some v→1≤v)→Q .non H'):pq [.int (p:Int),.ref fl,.ref d] H Q E:=⟨p,fl,d,as,fs,g,n,rfl,p0,p1,p2,p3,p4,p5,p6,p7⟩
theorem mkWith {k:Str} {v:Int} {fl d:Addr} {as:List Addr} {fs:List Fr} {g:Ky→Option Int} {n:Nat} {H:Hp} {Q:VK} {E:XK} (p0:H fl=some (.lst (as.map V.ref))) (p1:de H (λ_=>False) as fs) (p2:fs.length≤1000) (p3:cu H d g n) (p4:∀(l:Addr) (H':Hp),ak H H'→H l=none→H' l=some (.lst ((namesW fs g k v).map V.str))→Q (.ref l) H'):Bb [.str k,.int v,.ref fl,.ref d] H Q E:=⟨k,v,fl,d,as,fs,g,n,rfl,p0,p1,p2,p3,p4⟩
theorem Oq {b fl d:Addr} {p:Nat} {kinds:List Str} {rs:List Rl} {as:List Addr} {fs:List Fr} {g:Ky→Option Int} {n:Nat} {H:Hp} {Q:VK} {E:XK} (p0:br H b kinds rs) (p1:kinds.length≤60) (p2:H fl=some (.lst (as.map V.ref))) (p3:de H (λ_=>False) as fs) (p4:fs.length≤1000) (p5:cu H d g n) (p6:∀(l:Addr) (bs:List Addr) (H':Hp),ak H H'→H l=none→H' l=some (.lst (bs.map V.ref))→cm H' (λx=>H x≠none) bs (dm (cy kinds) fs p g)→Q (.ref l) H'):ud [.ref b,.int (p:Int),.ref fl,.ref d] H Q E:=⟨b,fl,d,p,kinds,rs,as,fs,g,n,rfl,p0,p1,p2,p3,p4,p5,p6⟩
theorem Ko {b wt:Addr} {kinds:List Str} {rs:List Rl} {ws:List V} {H:Hp} {Q:VK} {E:XK} (p0:br H b kinds rs) (p1:H wt=some (.tup ws)) (p2:Bk kinds rs) (p3:Tw ws) (p4:∀(l:Addr) (bs:List Addr) (H':Hp) (g:Ky→Option Int),ak H H'→H l=none→H' l=some (.lst (bs.map V.ref))→Tbl (dw kinds rs ws) g→sk H' bs (rowsOf kinds rs ws g)→Q (.ref l) H'):pj [.ref b,.ref wt] H Q E:=⟨b,wt,kinds,rs,ws,rfl,p0,p1,p2,p3,p4⟩
theorem Bs {K:PySem.W.Frag} {kt st:Addr} {kinds:List Str} {sh:List V} {H:Hp} {Q:VK} {E:XK} (p0:SqT K H kt (kinds.map V.str)) (p1:SqT K H st sh) (p2:(∀v∈sh,isW v)) (p3:sh.length≤1000) (p4:∀(l:Addr) (H':Hp),ak H H'→H l=none→H' l=some (.lst ((aq kinds sh).map V.str))→Q (.ref l) H'):(j8 K) [.ref kt,.ref st] H Q E:=⟨kt,st,kinds,sh,rfl,p0,p1,p2,p3,p4⟩
theorem my {d b:Addr} {ns:List Int} {n:Nat} {H:Hp} {Q:VK} {E:XK} (p0:fm H d b ns n) (p1:n≤100000) (p2:∀(c:Int) (H':Hp),ay d H H'→H' d=some (.lst [.ref b,.int ((n+1:Nat):Int)])→Q (.int c) H'):jg [.ref d] H Q E:=⟨d,b,ns,n,rfl,p0,p1,p2⟩
end Pc
namespace L2.Itm
open PySem PySem.Spec PyProof.Rows
section
variable {prog:Program} {w:World} {A:Around} {E:Value→Shared→Prop} {s:Shared} {d:Addr} {es:Array DictEntry} {ep:Nat} {o:Obj}
theorem Iw {Q:Value→Shared→Prop} (hd:(d==sysModules)=false) (r:Raw s.heap d es ep o) (q:Q (.ref s.heap.objs.size) { s with heap:=s.heap.push { cls:=.type "dict_keyiterator",data:=.fields #[.ref d,.int 0 0,.int es.size 0,.int ep 0] } }):
  wpAny (model prog w) A (pyIter (.ref d)) Q E s:=by
 refine wpAny_pyIter_slot r.typeIs PySem.F.slot_dict_iter (wpAny_call_entry PySem.F.slot_dict_iter r.typeIs PySem.F.entry_dict_iter ?_ (PySem.F.args_dict_iter_1 _));unfold Builtin.«dict.__iter__»;refine wpAny_bind ?_;unfold Builtin.Dict.dictSlotNone;refine wpAny_bind (wpAny_notOrdered_dict r.typeIs (?_:wpAny _ _ (pure (Value.ref d)) _ _ s));refine wpAny_pure (?_:wpAny _ _ (Builtin.Dict.showsAll d >>=_) _ _ s);unfold Builtin.Dict.showsAll;rw[if_neg (show ¬(d==sysModules)=true by rw[hd];decide)];refine wpAny_bind (wpAny_pure (wpAny_bind (wpAny_dictEntries r.there r.data (wpAny_bind (wpAny_dictEpoch r.there r.data ?_)))));refine wpAny_bind (wpAny_newObj_type (wpAny_pure ⟨_,rfl,"dict_keyiterator",_,⟨_,Heap.get?_push_size _ rfl,rfl⟩,PySem.F.slot_dict_keyiterator_next.lookup,?_⟩));simpa [rawInt] using q
theorem Hy {it:Addr} {i:Nat} {e:DictEntry} {Q:Option Value→Shared→Prop} (hit:s.heap.IsKeyIter it d i es.size ep) (r:Raw s.heap d es ep o) (hx:es[i]?=some e)
  (q:∀h',h'.IsKeyIter it d (i+1) es.size ep→Heap.SameBut it s.heap h'→Q (some e.key) { s with heap:=h' }):wpAny (model prog w) A (pyNext (.ref it)) Q E s:=by
 obtain ⟨oi,ho,hc,hf⟩:=id hit;have hT:=hit.typeIs;have own:Builtin.Dict_items.ownsTuple "dict_keyiterator"=false:=by decide
 unfold pyNext;refine wpAny_bind (wpAny_attempt (wpAny_callSpecial?_slot (name:=Str.ofString "__next__") hT PySem.F.slot_dict_keyiterator_next (wpAny_call_entry PySem.F.slot_dict_keyiterator_next hT PySem.F.entry_dict_keyiterator_next ?_ (PySem.F.args_dict_keyiterator_next_1 _))));refine wpAny_bind (wpAny_pure (wpAny_bind (wpAny_bind ?_)));refine wpAny_bind (wpAny_typeNameOfWhole_keyiter hT (wpAny_pure (wpAny_bind (wpAny_fieldsOf ho hf ?_))));simp only[own,aaz,if_false];refine (show wpAny _ _ (if (Value.ref d==Value.none)=true then _ else _) _ _ s from ?_);rw[if_neg (show ¬(Value.ref d==Value.none)=true from λz=>by cases z)];refine wpAny_bind (wpAny_pure (wpAny_bind (wpAny_dictEntries r.there r.data ?_)));rw[if_neg (by simp)];refine wpAny_bind (wpAny_pure (wpAny_bind (wpAny_dictEpoch r.there r.data ?_)));rw[if_neg (by simp)];refine wpAny_pure ?_;simp only[show ¬((i:Int) < 0) by omega,if_false,abw,hx];refine wpAny_bind ?_;refine wpAny_bind (wpAny_typeNameOfWhole_keyiter hT (wpAny_pure (wpAny_bind (wpAny_isOneOf_keyiter hT ?_))));refine (show wpAny _ _ (setField (.ref it) 1 (rawInt ((i:Int)+1)) >>=_) _ _ s from wpAny_bind (wpAny_setField ho hf (by simp) ?_));have hit':(s.heap.update it (Obj.mapFields (·.setIfInBounds 1 (rawInt ((i:Int)+1))))).IsKeyIter it d (i+1) es.size ep:=
  ⟨_,Heap.get?_update_self _ ho (Obj.isFreed_of_fields (Obj.data_mapFields hf _)),(Obj.cls_mapFields ..).trans hc,by rw[Obj.data_mapFields hf];simp[rawInt]⟩
 refine wpAny_bind (wpAny_holding (wpAny_bind (wpAny_isOneOf_keyiter (s:={ s with heap:=s.heap.update it (Obj.mapFields (·.setIfInBounds 1 (rawInt ((i:Int)+1)))) }) hit'.typeIs ?_)));exact (show wpAny _ _ (pure e.key) _ _ _ from wpAny_pure (wpAny_pure ⟨_,rfl,wpAny_pure (q _ hit' (Heap.SameBut.update ..))⟩))
theorem Mg {it:Addr} {i:Nat} {Q:Option Value→Shared→Prop} (hh:A.handled=none) (hit:s.heap.IsKeyIter it d i es.size ep) (r:Raw s.heap d es ep o) (hx:es.size≤i)
  (q:∀h',Heap.ExtBut it s.heap h'→Q none { s with heap:=h' }):wpAny (model prog w) A (pyNext (.ref it)) Q E s:=by
 obtain ⟨oi,ho,hc,hf⟩:=id hit;have hT:=hit.typeIs;have own:Builtin.Dict_items.ownsTuple "dict_keyiterator"=false:=by decide
 unfold pyNext;refine wpAny_bind (wpAny_attempt (wpAny_callSpecial?_slot (name:=Str.ofString "__next__") hT PySem.F.slot_dict_keyiterator_next (wpAny_call_entry PySem.F.slot_dict_keyiterator_next hT PySem.F.entry_dict_keyiterator_next ?_ (PySem.F.args_dict_keyiterator_next_1 _))));refine wpAny_bind (wpAny_pure (wpAny_bind (wpAny_bind ?_)));refine wpAny_bind (wpAny_typeNameOfWhole_keyiter hT (wpAny_pure (wpAny_bind (wpAny_fieldsOf ho hf ?_))));simp only[own,aaz,if_false];refine (show wpAny _ _ (if (Value.ref d==Value.none)=true then _ else _) _ _ s from ?_);rw[if_neg (show ¬(Value.ref d==Value.none)=true from λz=>by cases z)];refine wpAny_bind (wpAny_pure (wpAny_bind (wpAny_dictEntries r.there r.data ?_)));rw[if_neg (by simp)];refine wpAny_bind (wpAny_pure (wpAny_bind (wpAny_dictEpoch r.there r.data ?_)));rw[if_neg (by simp)];refine wpAny_pure ?_;simp only[show ¬((i:Int) < 0) by omega,if_false,abw,ad6 hx];refine wpAny_bind ?_;refine wpAny_bind (wpAny_typeNameOfWhole_keyiter hT (wpAny_pure ?_));refine (show wpAny _ _ (setField (.ref it) 0 .none >>=_) _ _ s from wpAny_bind (wpAny_setField ho hf (by simp) ?_));refine (show wpAny _ _ (newExc (.type "StopIteration") [] >>=_) _ _ _ from wpAny_bind ?_);simp only[newExc,newTuple];refine wpAny_bind (wpAny_newObj_type (wpAny_bind (m:=firstArgMember _ _) (wpAny_of_eq (a:=Value.none) (by first | rfl | (simp only[firstArgMember];rfl)) (wpAny_newObj_type ?_ (by size_fits)))) (by size_fits));simp only[raiseNew];refine wpAny_bind (wpAny_handled ?_);rw[show A.in1.handled=none from hh];refine wpAny_bind (wpAny_pure (wpAny_throw ?_));exact wpAny_bind (wpAny_isInstance (T:="StopIteration") (b:=true) ⟨_,Heap.get?_push_size _ rfl,rfl⟩ isSubtype_stop (wpAny_pure (q _ (((Heap.SameBut.update ..).extBut.push _).push _))))
end
end L2.Itm
namespace L2
open PySem PySem.Spec PyProof.Rows Itm
noncomputable def Itq (a:Addr) (o:Obj) (kvs:List (List Key×V)):It:=
 ⟨λi H=>i < kvs.length∧H a=some (.frz o (.dT kvs)),λi H x H'=>H'=H∧∃t k v,kvs[i]?=some (k,v)∧H t=some (.tup (k.map kV))∧x=.ref t,λi H=>i=kvs.length∧H a=some (.frz o (.dT kvs))⟩
theorem Ex {P:Program} {w:World} {K:PySem.W.Frag} {tg:Expr} (a it:Addr) (o:Obj) (kvs:List (List Key×V)):Turn P w K tg (Itq a o kvs) [it] it (λi h=>∃es ep,o.data=.dict es ep∧h.IsKeyIter it a i es.size ep) where
 mem:=by simp
 obj:=λi h st b hb=>by
  have e:b=it:=by simpa using hb
  subst e;obtain ⟨_,_,_,o',e',c',d'⟩:=st;exact ⟨o',e',λv z=>by rw[d'] at z;cases z⟩
 keep:=λi h h' st k=>by
  obtain ⟨es,ep,hd,o',ho',r'⟩:=st;exact ⟨es,ep,hd,o',k it (by simp) o' ho',r'⟩
 item:=by
  intro X hP hw hK hc i pins s σ H E I hf st hg;subst hP hw hK;obtain ⟨hi,ha⟩:=hg;obtain ⟨es,ep,hdat,raw,hsz,get⟩:=Gx I.hok ha;obtain ⟨es',ep',hd',hit⟩:=st;rw[hdat] at hd';cases hd'
  have hkv:kvs[i]?=some (kvs[i].1,kvs[i].2):=aa1 hi;obtain ⟨t,u,j,he,ht,ru⟩:=get i _ _ hkv;obtain ⟨f0,f1,f2,f3,f4,f5⟩:=hf it (by simp);refine Hy hit raw he λh' st' sb=>?_;have I1:Inv X pins σ H { s with heap:=h' }:=I.turned (t':=s.toks) (λb o' hb e'=>(sb.2 b hb).trans e') f0 f1 f3 f4 f5;obtain ⟨o',e',c',d'⟩:=id st';exact ⟨_,rfl,yp (s:={ s with heap:=h' }) e' c' d' (by decide) ⟨.ref t,H,I1,rfl,⟨rfl,t,_,_,hkv,ht,rfl⟩,⟨es,ep,hdat,st'⟩,λb hb=>(hf b hb).1⟩⟩
 done:=by
  intro X hP hw hK hc i pins s σ H E I hf st hg;subst hP hw hK;obtain ⟨hi,ha⟩:=hg;obtain ⟨es,ep,hdat,raw,hsz,get⟩:=Gx I.hok ha;obtain ⟨es',ep',hd',hit⟩:=st;rw[hdat] at hd';cases hd'
  obtain ⟨f0,f1,f2,f3,f4,f5⟩:=hf it (by simp);exact Mg (I.ok.hd hc) hit raw (by omega) λh' eb=>⟨rfl,I.turned (t':=s.toks) (λb o' hb e'=>eb b o' hb e') f0 f1 f3 f4 f5⟩
 self:=λ_ _ _ _ _ st h=>by
  obtain ⟨_,_,_,hit⟩:=st;exact wpAny_pyIter_keyiter hit h
def Mr (tl:TE):TI:=λσ H R=>tl σ H λx H1=>∃a kvs,x=.ref a∧H1 a=some (.dT kvs)∧∀o,R (Itq a o kvs) (upd H1 a (.frz o (.dT kvs)))
section
variable {X:Cx} {tg:Expr}
theorem Jn {l:Expr} {tl:TE} (hl:PE X l tl):PI X tg l (Mr tl):=by
 intro pins s σ H R I h;refine thn (hl pins s σ H _ I h) λv s1 ⟨x,H1,I1,r1,a,kvs,e,ha,q⟩=>?_;subst e;cases (show v=Value.ref a from r1)
 obtain ⟨o,es,ep,hdat,raw,I2⟩:=I1.Qw ha;have hd:=(dt_of I1.hok ha).2.1;refine Iw hd raw ?_;refine ⟨s1.heap.objs.size,[s1.heap.objs.size],_,_,_,rfl,I2.kept (t':=s1.toks) λb o' e'=>Heap.get?_push_of_some _ e',Ex a _ o kvs,⟨es,ep,hdat,_,Heap.get?_push_size _ rfl,rfl,rfl⟩,λb hb=>?_,q o⟩;rw[List.mem_singleton.mp hb];exact I2.Ey (aa4 _) (I2.hok.fresh (aa4 _))
end
end L2
namespace L2
open PySem PySem.Spec PyProof.Rows
theorem Ng {a:Addr} {o:Obj} {kvs:List (List Key×V)} {fr:St} {tc:TT} {te:TE} {D:Addr} {H1:Hp} {Q:Hp→Prop} (P:Nat→List V→Hp→Prop) (mono:∀i ys H H',(∀b u,b≠D→H b=some u→H' b=some u)→P i ys H→P i ys H') (ha:H1 a=some (.frz o (.dT kvs))) (hn:kvs.length < sizeLine) (hD:H1 D=none) (h0:P 0 [] H1)
  (step:∀i t k v ys H (G:Hp→Prop) (K':V→Hp→Prop),kvs[i]?=some (k,v)→H t=some (.tup (k.map kV))→P i ys H→H D=some (.lst ys)→ys.length≤i→ak H1 H→(∀H3,ak H H3→P (i+1) ys H3→G H3)→(∀y H4,ak H H4→P (i+1) (ys++[y]) H4→K' y H4)→tc ([some (.ref t)]++fr) H λb H3=>if b=true then te ([some (.ref t)]++fr) H3 K' else G H3)
  (done:∀ys H,P kvs.length ys H→ys.length≤kvs.length→ak H1 H→H D=some (.lst ys)→Q H):LC 1 fr (cv 0) tc te (Itq a o kvs) D H1 Q:=by
 refine ⟨λi m H=>m=kvs.length - i∧i≤kvs.length∧∃ys,H D=some (.lst ys)∧P i ys H∧ys.length≤i∧ak H1 H,⟨kvs.length,by simp,aa7 _,[],ae,mono _ _ _ _ (λb u _ h=>aa hD _ _ _ h) h0,aa4 _,aa hD _⟩,?_⟩;rintro i m H ⟨rfl,hi,ys,hys,hP,hl,hS⟩;by_cases hlt:i < kvs.length
 ·refine .inr ⟨⟨hlt,hS _ _ ha⟩,λτ x H' hτ hy=>?_⟩;obtain ⟨e1,t,k,v,hk,ht,rfl⟩:=hy;subst e1;obtain ⟨b,rfl⟩:∃b,τ=[b]:=List.length_eq_one_iff.mp hτ;refine ⟨⟨[some (.ref t)],rfl,rfl⟩,step i t k v ys H' _ _ hk ht hP hys hl hS (λH3 q1 q2=>?_) (λy H4 q1 q2=>?_)⟩
  ·exact ⟨kvs.length - (i+1),by omega,rfl,hlt,ys,q1 _ _ hys,q2,adu hl,hS.trans q1⟩
  ·refine ⟨ys,q1 _ _ hys,by omega,kvs.length - (i+1),by omega,rfl,hlt,ys++[y],ae,mono _ _ _ _ (λb u hb h=>by rw[af hb];exact h) q2,?_,(hS.trans q1).upd hD _⟩;rw[aa2,aag];omega
 ·have e:i=kvs.length:=by omega
  subst e;exact .inl ⟨⟨rfl,hS _ _ ha⟩,done ys H hP hl hS hys⟩
end L2
namespace Pc
open PySem PySem.Spec L2 PyProof.Rows Fm
structure Lf where
 place:Nat
 r:Rl
 hs:List Ky
noncomputable def gz (f:Lf):Ft Ky:=⟨(f.place,f.r.kind),f.r.price,f.hs⟩
def LfAt (H:Hp) (no:Addr→Prop) (a:Addr) (f:Lf):Prop:=∃ra hl,¬no hl∧H a=some (.tup [.ref ra,.int (f.place:Int),.ref hl])∧dv H ra f.r∧mf H hl f.hs
def cq (H:Hp) (no:Addr→Prop) (as:List Addr) (fs:List Lf):Prop:=as.length=fs.length∧∀(j:Nat) (f:Lf),fs[j]?=some f→∃a,as[j]?=some a∧LfAt H no a f
theorem dv.kx {no:Addr→Prop} {H H':Hp} {a:Addr} {r:Rl} (h:dv H a r) (x:Kx no H H'):dv H' a r:=by
 obtain ⟨sa,da,ds,h1,h2,h3⟩:=h;exact ⟨sa,da,ds,x.t h1,x.t h2,x.t h3⟩
theorem LfAt.kx {no:Addr→Prop} {H H':Hp} {a:Addr} {f:Lf} (h:LfAt H no a f) (x:Kx no H H'):LfAt H' no a f:=by
 obtain ⟨ra,hl,g2,g3,g4,g5⟩:=h;exact ⟨ra,hl,g2,x.t g3,g4.kx x,g5.kx x g2⟩
theorem cq.kx {no:Addr→Prop} {H H':Hp} {as:List Addr} {fs:List Lf} (h:cq H no as fs) (x:Kx no H H'):cq H' no as fs:=⟨h.1,λj f e=>by
 obtain ⟨a,g1,g2⟩:=h.2 j f e;exact ⟨a,g1,g2.kx x⟩⟩
theorem cq.same {no:Addr→Prop} {H H':Hp} {as:List Addr} {fs:List Lf} (h:cq H no as fs) (s:ak H H'):cq H' no as fs:=h.kx (Kx.same s)
theorem cq.weak {no no':Addr→Prop} {H:Hp} {as:List Addr} {fs:List Lf} (h:cq H no as fs) (w:∀x,no' x→no x):cq H no' as fs:=⟨h.1,λj f e=>by
 obtain ⟨a,g1,ra,hl,g2,g3⟩:=h.2 j f e;exact ⟨a,g1,ra,hl,λz=>g2 (w _ z),g3⟩⟩
theorem cq.snoc {no:Addr→Prop} {H:Hp} {as:List Addr} {fs:List Lf} {a:Addr} {f:Lf} (h:cq H no as fs) (hf:LfAt H no a f):cq H no (as++[a]) (fs++[f]):=by
 refine ⟨by rw[aa2,aa2,h.1];rfl,λi f' hi=>?_⟩;by_cases c:i < fs.length
 ·rw[aaf c] at hi;obtain ⟨a',g1,g2⟩:=h.2 i f' hi;exact ⟨a',by rw[aaf (by rw[h.1];exact c)];exact g1,g2⟩
 ·rw[aab (by omega)] at hi;have hz:i - fs.length=0:=by
   rcases abn (i - fs.length) with g | g
   ·exact g
   ·rw[abe (by rw[aag];omega)] at hi;cases hi
  rw[hz] at hi;cases hi
  exact ⟨a,by rw[aab (by rw[h.1];omega),h.1,hz];rfl,hf⟩
theorem cq.nil (H:Hp) (no:Addr→Prop):cq H no [] []:=⟨rfl,λj f h=>by simp at h⟩
theorem cq.get {no:Addr→Prop} {H:Hp} {as:List Addr} {fs:List Lf} (h:cq H no as fs) {i:Nat} {a:Addr} (ha:as[i]?=some a):∃f,fs[i]?=some f∧LfAt H no a f:=by
 have hi:i < fs.length:=by rw[←h.1];exact (List.getElem?_eq_some_iff.mp ha).1
 obtain ⟨a',h1,h2⟩:=h.2 i _ (aa1 hi);obtain rfl:a'=a:=aa3 (h1.symm.trans ha);exact ⟨_,aa1 hi,h2⟩
noncomputable def i7 (kinds:List Str) (ws:List V) (p:Nat) (r:Rl):Option Lf:=(bz kinds ws r.shape p ⟨[],[],[]⟩).map λu=>⟨p,r,u.hs.zip (aq kinds r.shape)⟩
noncomputable def xo (kinds:List Str) (rs:List Rl) (ws:List V) (p:Nat):List Lf:=rs.filterMap (i7 kinds ws p)
noncomputable def Aj (kinds:List Str) (rs:List Rl) (ws:List V) (i:Nat):List Lf:=(aav i).flatMap λb=>xo kinds rs ws (ws.length - 1 - b)
noncomputable def kj (kinds:List Str) (rs:List Rl) (ws:List V):List Lf:=Aj kinds rs ws ws.length
theorem qj (kinds:List Str) (rs:List Rl) (ws:List V) (i:Nat):Aj kinds rs ws (i+1)=Aj kinds rs ws i++xo kinds rs ws (ws.length - 1 - i):=by
 unfold Aj;rw[ae7,ael];simp
theorem Fq (kinds:List Str) (rs:List Rl) (ws:List V) (p:Nat):(xo kinds rs ws p).map gz=(bj kinds rs ws p).map (eo p):=by
 unfold xo bj;rw[aeq,aeq];congr 1
 funext r
 unfold i7 kh;rw[Option.map_map,Option.map_map];rfl
theorem lf_mem (kinds:List Str) (rs:List Rl) (ws:List V) (f:Ft Ky):f∈(kj kinds rs ws).map gz↔f∈dw kinds rs ws:=by
 unfold kj Aj dw;rw[List.map_flatMap,af2,af2];constructor
 ·rintro ⟨b,hb,h⟩;rw[Fq] at h;have:=List.mem_range.mp hb;exact ⟨ws.length - 1 - b,List.mem_range.mpr (by omega),h⟩
 ·rintro ⟨p,hp,h⟩;have:=List.mem_range.mp hp;refine ⟨ws.length - 1 - p,List.mem_range.mpr (by omega),?_⟩;rw[Fq,show ws.length - 1 - (ws.length - 1 - p)=p by omega];exact h
theorem Tbl.of_mem {κ:Type} [DecidableEq κ] {F F':List (Ft κ)} {g:κ→Option Int} (h:Tbl F g) (e:∀f,f∈F↔f∈F'):Tbl F' g:=⟨λf hf=>h.st f ((e f).mpr hf),λk v hv=>by
 obtain ⟨f,hf,r⟩:=h.du k v hv;exact ⟨f,(e f).mp hf,r⟩,h.pos⟩
theorem wq (kinds:List Str) (rs:List Rl) (ws:List V) (hr:rs.length≤100):∀i,(Aj kinds rs ws i).length≤100*i
 | 0=>aa4 _
 | i+1=>by
  rw[qj,aa2];have h1:=wq kinds rs ws hr i;have h2:(xo kinds rs ws (ws.length - 1 - i)).length≤rs.length:=abo _ _;omega
theorem lf_own {kinds:List Str} {rs:List Rl} {ws:List V} (bk:Bk kinds rs):∀f∈kj kinds rs ws,1≤f.r.price:=λf hf=>by
 obtain ⟨b,_,h⟩:=List.mem_flatMap.mp hf;obtain ⟨r,hr,e⟩:=List.mem_filterMap.mp h;obtain ⟨u,_,rfl⟩:=Option.map_eq_some_iff.mp e;exact bk.pr r hr
def TbK (H:Hp) (d:Addr) (g:Ky→Option Int) (ks:List Ky):Prop:=∃kvs:List (List Key×V),H d=some (.dT kvs)∧kvs.map (·.1)=ks.map kyK∧ks.Nodup∧∀k,cj kvs (kyK k)=(g k).map V.int
theorem TbK.tb {H:Hp} {d:Addr} {g:Ky→Option Int} {ks:List Ky} (h:TbK H d g ks):cu H d g ks.length:=by
 obtain ⟨kvs,h1,h2,_,h3⟩:=h;have:=congrArg ac8 h2;rw[aa0,aa0] at this;exact ⟨kvs,h1,by omega,h3⟩
theorem TbK.at {H H':Hp} {d:Addr} {g:Ky→Option Int} {ks:List Ky} (h:TbK H d g ks) (e:∀o,H d=some o→H' d=some o):TbK H' d g ks:=by
 obtain ⟨kvs,h1,h2⟩:=h;exact ⟨kvs,e _ h1,h2⟩
theorem TbK.same {H H':Hp} {d:Addr} {g:Ky→Option Int} {ks:List Ky} (h:TbK H d g ks) (s:ak H H'):TbK H' d g ks:=h.at λo e=>s _ _ e
theorem TbK.nil {H:Hp} {d:Addr}:TbK (upd H d (.dT [])) d (λ_=>none) []:=⟨[],ae,rfl,acj,λ_=>rfl⟩
theorem TbK.mem {H:Hp} {d:Addr} {g:Ky→Option Int} {ks:List Ky} (h:TbK H d g ks) (k:Ky):k∈ks↔(g k).isSome=true:=by
 obtain ⟨kvs,h1,h2,h3,h4⟩:=h;have e:(cj kvs (kyK k)).isSome=(g k).isSome:=by rw[h4 k];cases g k <;> rfl
 rw[←e,←d4,List.any_eq_true];constructor
 ·intro hk;have:kyK k∈kvs.map (·.1):=by rw[h2];exact List.mem_map.mpr ⟨k,hk,rfl⟩
  obtain ⟨p,hp,e⟩:=List.mem_map.mp this;exact ⟨p,hp,decide_eq_true e⟩
 ·rintro ⟨p,hp,e⟩;have:kyK k∈kvs.map (·.1):=List.mem_map.mpr ⟨p,hp,of_decide_eq_true e⟩;rw[h2] at this;obtain ⟨k',hk',e'⟩:=List.mem_map.mp this;rw[←il e'];exact hk'
theorem TbK.put {H:Hp} {d b:Addr} {g:Ky→Option Int} {ks:List Ky} {k:Ky} {v:Int} (h:TbK H d g ks) (hb:H b=some (kyT k)) (hn:ks.length≤1000000):
  ∃o ks',sj H d (.ref b) (.int v) (upd H d o)∧TbK (upd H d o) d (fb g k v) ks'∧ks'.length≤if (g k).isSome then ks.length else ks.length+1:=by
 have hm:=h.mem k;obtain ⟨kvs,h1,h2,nd,h3⟩:=h;have sz:=sizeLine_eq;have hl:kvs.length=ks.length:=by
  have:=congrArg ac8 h2;rw[aa0,aa0] at this;exact this
 have hk:=h3 k;have val:∀j,cj (putK kvs (kyK k) (.int v)) (kyK j)=(fb g k v j).map V.int:=λj=>by
  rw[Ci];by_cases e:j=k
  ·subst e;rw[if_pos rfl,cg];rfl
  ·rw[if_neg (λz=>e (il z)),dn e];exact h3 j
 cases e:g k with
 | none=>
  rw[e] at hk;refine ⟨_,ks++[k],sj.t (k:=kyK k) h1 hb (by omega),⟨_,ae,?_,?_,val⟩,?_⟩
  ·rw[wy _ hk,aa5,aa5,h2];rfl
  ·refine List.nodup_append.mpr ⟨nd,by simp,λa ha c hc e2=>?_⟩;rw[List.mem_singleton.mp hc] at e2;rw[e2] at ha;have:=hm.mp ha;rw[e] at this;cases this
  ·rw[aa2];simp
 | some w=>
  rw[e] at hk;have ha:(kvs.any λkv=>decide (kv.1=kyK k))=true:=by rw[d4,hk];rfl
  refine ⟨_,ks,sj.t (k:=kyK k) h1 hb (by omega),⟨_,ae,?_,nd,val⟩,?_⟩
  ·unfold putK;rw[if_pos ha,ack,←h2];apply aej
   intro p _;show (if _ then _ else _:List Key×V).1=p.1
   split
   ·rename_i c
    first | exact (of_decide_eq_true c).symm | exact c.symm | rfl
   ·rfl
  ·simp
noncomputable def blAt2 (σ:List (Option V)):Nat:=match σ[2]? with
 | some (some (V.bl true))=>1
 | _=>0
noncomputable def ee (fs:List Lf) (g:Ky→Option Int) (k:Ky):List Str:=(fs.filter λf=>decide ((f.place,f.r.kind)=k∧cost g f.r.price f.hs=g k)).map (·.r.name)
theorem Jx {kinds:List Str} {rs:List Rl} {ws:List V} {g:Ky→Option Int} {p:Nat} {k:Str} {v:Int} (hv:g (p,k)=some v) (hp:p < ws.length):ee (kj kinds rs ws) g (p,k)=namesW (bj kinds rs ws p) g k v:=by
 have one:∀q,((xo kinds rs ws q).filter λf=>decide ((f.place,f.r.kind)=(p,k)∧cost g f.r.price f.hs=g (p,k))).map (·.r.name)=if q=p then namesW (bj kinds rs ws p) g k v else []:=λq=>by
  have pl:∀f∈xo kinds rs ws q,f.place=q:=λf hf=>by
   obtain ⟨r,hr,e⟩:=List.mem_filterMap.mp hf;obtain ⟨u,_,rfl⟩:=Option.map_eq_some_iff.mp e;rfl
  by_cases e:q=p
  ·subst e;rw[if_pos rfl];unfold xo bj namesW;rw[hv];induction rs with
   | nil=>rfl
   | cons r rs ih=>
    have ih:=ih λf hf=>pl f (by
     unfold xo at hf ⊢;rw[abh];cases i7 kinds ws q r with
     | none=>exact hf
     | some x=>exact aaa _ hf)
    rw[abh,abh];unfold i7 kh at ih ⊢;cases bz kinds ws r.shape q ⟨[],[],[]⟩ with
    | none=>exact ih
    | some u=>
     show ((_::_:List Lf).filter _).map _=((_::_:List Fr).filter _).map _
     rw[aan,aan];have c:decide (((⟨q,r,u.hs.zip (aq kinds r.shape)⟩:Lf).place,(⟨q,r,u.hs.zip (aq kinds r.shape)⟩:Lf).r.kind)=(q,k)∧cost g (⟨q,r,u.hs.zip (aq kinds r.shape)⟩:Lf).r.price (⟨q,r,u.hs.zip (aq kinds r.shape)⟩:Lf).hs=some v)=decide (r.kind=k∧cost g r.price (u.hs.zip (aq kinds r.shape))=some v):=decide_eq_decide.mpr ⟨λh=>⟨(ae9 h.1).2,h.2⟩,λh=>⟨by rw[←h.1],h.2⟩⟩;rw[c];by_cases c2:r.kind=k∧cost g r.price (u.hs.zip (aq kinds r.shape))=some v
     ·rw[if_pos (decide_eq_true c2)];rw[if_pos (show decide (r.kind=k∧cost g r.price (u.hs.zip (aq kinds r.shape))=some v)=true from decide_eq_true c2),aau,aau,ih]
     ·rw[if_neg (by simpa using c2)];rw[if_neg (show ¬decide (r.kind=k∧cost g r.price (u.hs.zip (aq kinds r.shape))=some v)=true by simpa using c2)];exact ih
  ·rw[if_neg e];have:(xo kinds rs ws q).filter (λf=>decide ((f.place,f.r.kind)=(p,k)∧cost g f.r.price f.hs=g (p,k)))=[]:=List.filter_eq_nil_iff.mpr λf hf c=>by
    have:=(ae9 (of_decide_eq_true c).1).1;rw[pl f hf] at this;exact e this
   rw[this];rfl
 have all:∀i,i≤ws.length→((Aj kinds rs ws i).filter λf=>decide ((f.place,f.r.kind)=(p,k)∧cost g f.r.price f.hs=g (p,k))).map (·.r.name)=if ws.length - 1 - p < i then namesW (bj kinds rs ws p) g k v else []:=by
  intro i;induction i with
  | zero=>intro _;rw[if_neg (ac2 _)];rfl
  | succ i ih=>
   intro hi;rw[qj,aba,aa5,ih (by omega),one];by_cases c:ws.length - 1 - p < i
   ·rw[if_pos c,if_neg (show ¬ws.length - 1 - i=p by omega),if_pos (show ws.length - 1 - p < i+1 by omega),aay]
   ·rw[if_neg c];by_cases c2:ws.length - 1 - i=p
    ·rw[if_pos c2,if_pos (show ws.length - 1 - p < i+1 by omega)];rfl
    ·rw[if_neg c2,if_neg (show ¬ws.length - 1 - p < i+1 by omega)];rfl
 have:=all ws.length (aa4 _);rw[if_pos (by omega)] at this;exact this
def uc:Sp:=λvs H Q _=>∃(b wt:Addr) (kinds:List Str) (rs:List Rl) (ws:List V),vs=[.ref b,.ref wt]∧br H b kinds rs∧H wt=some (.tup ws)∧Bk kinds rs∧Tw ws∧∀(l:Addr) (as:List Addr) (H':Hp),ak H H'→H l=none→H' l=some (.lst (as.map V.ref))→cq H' (λx=>H x≠none) as (kj kinds rs ws)→Q (.ref l) H'
def oj:Sp:=λvs H Q _=>∃(ra hl d:Addr) (r:Rl) (hs:List Ky) (g:Ky→Option Int) (n:Nat),vs=[.ref ra,.ref hl,.ref d]∧dv H ra r∧mf H hl hs∧cu H d g n∧Q (.int ((cost g r.price hs).getD 0)) H
def oo:Sp:=λvs H Q _=>∃(fl:Addr) (as:List Addr) (fs:List Lf),vs=[.ref fl]∧H fl=some (.lst (as.map V.ref))∧cq H (λ_=>False) as fs∧fs.length≤1000000∧(∀f∈fs,1≤f.r.price)∧∀(d:Addr) (H':Hp) (g:Ky→Option Int) (ks:List Ky),ak H H'→H d=none→TbK H' d g ks→Tbl (fs.map gz) g→ks.length≤fs.length→Q (.ref d) H'
def RcAt (H:Hp) (fd:Addr) (ks:List Ky) (ls:List Addr) (nm:Ky→List Str):Prop:=H fd=some (.dT ((ks.zip ls).map λp=>(kyK p.1,V.ref p.2)))∧ls.length=ks.length∧∀(j:Nat) (k:Ky) (l:Addr),ks[j]?=some k→ls[j]?=some l→H l=some (.lst ((nm k).map V.str))
def oh:Sp:=λvs H Q _=>∃(fl d:Addr) (as:List Addr) (fs:List Lf) (g:Ky→Option Int) (ks:List Ky),vs=[.ref fl,.ref d]∧H fl=some (.lst (as.map V.ref))∧cq H (λ_=>False) as fs∧fs.length≤1000000∧TbK H d g ks∧ks.length≤1000000∧Tbl (fs.map gz) g∧∀(fd:Addr) (ls:List Addr) (H':Hp),ak H H'→H fd=none→RcAt H' fd ks ls (ee fs g)→Q (.ref fd) H'
theorem Pb {κ:Type} [DecidableEq κ] {F:List (Ft κ)} {g:κ→Option Int} {f:Ft κ} (hf:f∈F) {c:Int} {m:Nat} (h:m≤if (g f.key).isSome then cnt F g else cnt F g+1):m≤cnt F (fb g f.key c):=by
 cases e:g f.key with
 | none=>
  have:=tj (c:=c) e F ⟨f,hf,rfl⟩;rw[e] at h;simp only[acd,aaz,if_false] at h;omega
 | some v=>
  have:=j9 (g:=g) (g':=fb g f.key c) F λf' _ e=>by
   by_cases q:f'.key=f.key
   ·rw[q,cg];rfl
   ·rw[dn q];exact e
  rw[e] at h;simp only[ac0,if_true] at h;omega
def StL (g:Ky→Option Int) (f:Lf):Prop:=∀c,cost g f.r.price f.hs=some c→∃v,g (f.place,f.r.kind)=some v∧v≤c
theorem Dt {fs:List Lf} {g:Ky→Option Int} (h:∀(j:Nat) (f:Lf),fs[j]?=some f→StL g f):ji (fs.map gz) g:=λf' hf' c hc=>by
 obtain ⟨f,hf,rfl⟩:=List.mem_map.mp hf';obtain ⟨j,hj⟩:=List.mem_iff_getElem?.mp hf;exact h j f hj c hc
theorem Bi {K:PySem.W.Frag} {n:Nat} {a:Addr} {x0 x1 x2:V} {i0 i1 i2:Nat} {σ:L2.St} {H:Hp} {Q:L2.St→Hp→Prop} (h:H a=some (.tup [x0,x1,x2])) (hn:3=n) (q:Q (((σ.set i0 (some x0)).set i1 (some x1)).set i2 (some x2)) H):Eu K n (eu (cv i0) (eu (cv i1) (eu (cv i2) gNil))) (.ref a) σ H Q:=⟨a,_,rfl,SqT.of h,hn,_,_,rfl,_,_,rfl,_,_,rfl,rfl,q⟩
theorem Nq {b wt:Addr} {kinds:List Str} {rs:List Rl} {ws:List V} {H:Hp} {Q:VK} {E:XK} (p0:br H b kinds rs) (p1:H wt=some (.tup ws)) (p2:Bk kinds rs) (p3:Tw ws) (p4:∀(l:Addr) (as:List Addr) (H':Hp),ak H H'→H l=none→H' l=some (.lst (as.map V.ref))→cq H' (λx=>H x≠none) as (kj kinds rs ws)→Q (.ref l) H'):uc [.ref b,.ref wt] H Q E:=⟨b,wt,kinds,rs,ws,rfl,p0,p1,p2,p3,p4⟩
theorem Fw {ra hl d:Addr} {r:Rl} {hs:List Ky} {g:Ky→Option Int} {n:Nat} {H:Hp} {Q:VK} {E:XK} (p0:dv H ra r) (p1:mf H hl hs) (p2:cu H d g n) (p3:Q (.int ((cost g r.price hs).getD 0)) H):oj [.ref ra,.ref hl,.ref d] H Q E:=⟨ra,hl,d,r,hs,g,n,rfl,p0,p1,p2,p3⟩
theorem Jv {fl:Addr} {as:List Addr} {fs:List Lf} {H:Hp} {Q:VK} {E:XK} (p0:H fl=some (.lst (as.map V.ref))) (p1:cq H (λ_=>False) as fs) (p2:fs.length≤1000000) (p3:(∀f∈fs,1≤f.r.price)) (p4:∀(d:Addr) (H':Hp) (g:Ky→Option Int) (ks:List Ky),ak H H'→H d=none→TbK H' d g ks→Tbl (fs.map gz) g→ks.length≤fs.length→Q (.ref d) H'):oo [.ref fl] H Q E:=⟨fl,as,fs,rfl,p0,p1,p2,p3,p4⟩
theorem Lu {fl d:Addr} {as:List Addr} {fs:List Lf} {g:Ky→Option Int} {ks:List Ky} {H:Hp} {Q:VK} {E:XK} (p0:H fl=some (.lst (as.map V.ref))) (p1:cq H (λ_=>False) as fs) (p2:fs.length≤1000000) (p3:TbK H d g ks) (p4:ks.length≤1000000) (p5:Tbl (fs.map gz) g) (p6:∀(fd:Addr) (ls:List Addr) (H':Hp),ak H H'→H fd=none→RcAt H' fd ks ls (ee fs g)→Q (.ref fd) H'):oh [.ref fl,.ref d] H Q E:=⟨fl,d,as,fs,g,ks,rfl,p0,p1,p2,p3,p4,p5,p6⟩
theorem Ce {fs:List Lf} {i:Nat} {f:Lf} (h:fs[i]?=some f) (g:Ky→Option Int) (k:Ky):ee (fs.take (i+1)) g k=ee (fs.take i) g k++if (f.place,f.r.kind)=k∧cost g f.r.price f.hs=g k then [f.r.name] else []:=by
 unfold ee;rw[ab7,h,aba,aa5];congr 1
 show (List.filter _ [f]).map _=_
 rw[aan];by_cases c:(f.place,f.r.kind)=k∧cost g f.r.price f.hs=g k
 ·rw[if_pos c,if_pos (decide_eq_true c)];rfl
 ·rw[if_neg c,if_neg (by simpa using c)];rfl
theorem vy:∀{ks:List Ky} {ls:List Addr},ls.length=ks.length→((ks.zip ls).map λp=>(kyK p.1,V.ref p.2)).map (·.1)=ks.map kyK
 | [],_,_=>rfl
 | k::ks,[],h=>by cases h
 | k::ks,l::ls,h=>by
  show kyK k::(((ks.zip ls).map λp=>(kyK p.1,V.ref p.2)).map (·.1))=kyK k::ks.map kyK
  rw[vy (by simpa using h)]
theorem RcAt.same {H H':Hp} {fd:Addr} {ks:List Ky} {ls:List Addr} {nm:Ky→List Str} (h:RcAt H fd ks ls nm) (s:ak H H'):RcAt H' fd ks ls nm:=⟨s _ _ h.1,h.2.1,λj k l h1 h2=>s _ _ (h.2.2 j k l h1 h2)⟩
theorem RcAt.congr {H:Hp} {fd:Addr} {ks:List Ky} {ls:List Addr} {nm nm':Ky→List Str} (h:RcAt H fd ks ls nm) (e:∀k∈ks,nm' k=nm k):RcAt H fd ks ls nm':=⟨h.1,h.2.1,λj k l h1 h2=>by rw[e k (aac h1)];exact h.2.2 j k l h1 h2⟩
theorem RcAt.get {H:Hp} {fd b:Addr} {ks:List Ky} {ls:List Addr} {nm:Ky→List Str} (h:RcAt H fd ks ls nm) (nd:ks.Nodup) {k:Ky} (hb:H b=some (kyT k)) (hk:k∈ks):∃(j:Nat) (l:Addr),ks[j]?=some k∧ls[j]?=some l∧ib H fd (.ref b) (some (.ref l))∧H l=some (.lst ((nm k).map V.str)):=by
 obtain ⟨h1,h2,h3⟩:=h;obtain ⟨j,hj⟩:=List.mem_iff_getElem?.mp hk;have hjl:j < ls.length:=by rw[h2];exact (List.getElem?_eq_some_iff.mp hj).1
 have hl:ls[j]?=some ls[j]:=aa1 hjl;refine ⟨j,ls[j],hj,hl,?_,h3 j k _ hj hl⟩;have e:cj ((ks.zip ls).map λp=>(kyK p.1,V.ref p.2)) (kyK k)=some (V.ref ls[j]):=by
  refine zu (by rw[vy h2];exact i6 (λa b e=>il e) nd) ?_;exact List.mem_map.mpr ⟨(k,ls[j]),aac (List.getElem?_zip_eq_some.mpr ⟨hj,hl⟩),rfl⟩
 rw[←e];exact ib.t h1 hb
theorem RcAt.put {H:Hp} {fd:Addr} {ks:List Ky} {ls:List Addr} {nm nm':Ky→List Str} (h:RcAt H fd ks ls nm) (nd:ks.Nodup) (nl:ls.Nodup) {j:Nat} {k:Ky} {l:Addr} {x:Str} (hj:ks[j]?=some k) (hl:ls[j]?=some l) (e:nm' k=nm k++[x]) (ne:∀k'∈ks,k'≠k→nm' k'=nm k'):RcAt (upd H l (.lst ((nm k).map V.str++[V.str x]))) fd ks ls nm':=by
 obtain ⟨h1,h2,h3⟩:=h;have hll:=h3 j k l hj hl;refine ⟨by rw[af (eh h1 hll (by intro z;cases z))];exact h1,h2,λi k' l' hi hi'=>?_⟩;by_cases c:i=j
 ·subst c;obtain rfl:k=k':=aa3 (hj.symm.trans hi);obtain rfl:l=l':=aa3 (hl.symm.trans hi');rw[ae,e,aa5];rfl
 ·have n1:l'≠l:=λz=>c ((aew (List.getElem?_eq_some_iff.mp hi').1 nl).mp (by rw[hi',hl,z]));have n2:k'≠k:=λz=>c ((aew (List.getElem?_eq_some_iff.mp hi).1 nd).mp (by rw[hi,hj,z]));rw[af n1,ne k' (aac hi) n2];exact h3 i k' l' hi hi'
def Cz (H0 H:Hp) (D:Addr) (ks:List Ky) (i:Nat) (cs ls:List Addr):Prop:=cs.length=i∧ls.length=i∧ls.Nodup∧∀(j:Nat) (k:Ky),j < i→ks[j]?=some k→∃c l t,cs[j]?=some c∧ls[j]?=some l∧c≠D∧t≠D∧l≠D∧H0 l=none∧H c=some (.tup [.ref t,.ref l])∧H t=some (kyT k)∧H l=some (.lst [])
theorem Cz.mono {H0 H H':Hp} {D:Addr} {ks:List Ky} {i:Nat} {cs ls:List Addr} (h:Cz H0 H D ks i cs ls) (s:∀b u,b≠D→H b=some u→H' b=some u):Cz H0 H' D ks i cs ls:=⟨h.1,h.2.1,h.2.2.1,λj k hj hk=>by
 obtain ⟨c,l,t,h1,h2,h3,h4,h5,h6,h7,h8,h9⟩:=h.2.2.2 j k hj hk;exact ⟨c,l,t,h1,h2,h3,h4,h5,h6,s _ _ h3 h7,s _ _ h4 h8,s _ _ h5 h9⟩⟩
theorem Cz.snoc {H0 H:Hp} {D:Addr} {ks:List Ky} {i:Nat} {cs ls:List Addr} (hi:i < ks.length) (h:Cz H0 H D ks i cs ls) {H2:Hp} {c l t:Addr} {k:Ky} (hk:ks[i]?=some k) (s:ak H H2) (hl:H l=none) (h0:H0 l=none) (nc:c≠D) (nt:t≠D) (nl:l≠D) (ec:H2 c=some (.tup [.ref t,.ref l])) (et:H2 t=some (kyT k)) (el:H2 l=some (.lst [])):Cz H0 H2 D ks (i+1) (cs++[c]) (ls++[l]):=by
 have hc:=h.1;have hll:=h.2.1;have h':=h.mono (H':=H2) λb u _ e=>s _ _ e;refine ⟨by rw[aa2,hc];rfl,by rw[aa2,hll];rfl,List.nodup_append.mpr ⟨h.2.2.1,by simp,λa ha b hb e=>?_⟩,λj k' hj hk'=>?_⟩
 ·rw[List.mem_singleton.mp hb] at e;subst e;obtain ⟨j,hj⟩:=List.mem_iff_getElem?.mp ha;have hjl:=(List.getElem?_eq_some_iff.mp hj).1;obtain ⟨_,l',_,_,h2,_,_,_,_,_,_,h9⟩:=h.2.2.2 j _ (by omega) (aa1 (show j < ks.length by omega));obtain rfl:l'=a:=aa3 (h2.symm.trans hj);rw[hl] at h9;cases h9
 ·by_cases c':j < i
  ·obtain ⟨c1,l1,t1,h1,h2,r⟩:=h'.2.2.2 j k' c' hk';exact ⟨c1,l1,t1,by rw[aaf (by omega)];exact h1,by rw[aaf (by omega)];exact h2,r⟩
  ·obtain rfl:j=i:=by omega
   obtain rfl:k=k':=aa3 (hk.symm.trans hk');exact ⟨c,l,t,by rw[aab (by omega),hc,ad0];rfl,by rw[aab (by omega),hll,ad0];rfl,nc,nt,nl,h0,ec,et,el⟩
theorem Ej {H H1:Hp} {d:Addr} {o:Obj} {kvs:List (List Key×V)} (hd:H d=some (.dT kvs)) (s:ak (upd H d (.frz o (.dT kvs))) H1):ak H (upd H1 d (.dT kvs)):=λb u e=>by
 by_cases c:b=d
 ·subst c;rw[ae,←hd];exact e
 ·rw[af c];exact s b u (by rw[af c];exact e)
theorem Bx {kinds:List Str} {rs:List Rl} {ws:List V} {g:Ky→Option Int} (T:Tbl (dw kinds rs ws) g) {r:Rw} (h:r∈rowsOf kinds rs ws g):∃nm,r.names.head?=some nm∧(ee (kj kinds rs ws) g (je r)).head?=some nm:=by
 obtain ⟨nm,hn⟩:=ml T h;obtain ⟨m1,m2,m3⟩:=i5 h;refine ⟨nm,hn,?_⟩;unfold je;rw[Jx m2 m1,←m3];exact hn
end Pc
namespace L2
open PySem PySem.Spec PyProof.Rows
structure dy (fs ch:List Addr) (h h':Heap):Prop where
 keep:∀b o,h.get? b=some o→b∉fs→b∉ch→h'.get? b=some o
 slot:∀b o,h.get? b=some o→b∉ch→∃sl,h'.get? b=some { o with slots:=sl }
theorem dy.refl {fs ch:List Addr} {h:Heap}:dy fs ch h h:=⟨λ_ _ e _ _=>e,λ_ o e _=>⟨o.slots,e⟩⟩
theorem dy.un {fs ch:List Addr} {H:Hp} {h h':Heap} (t:dy fs ch h h') (hc:∀b∈ch,∃o,h'.get? b=some o):Un fs ch H H h h' where
 keep:=λb o e _ hb hx=>t.keep b o e hb hx
 slot:=λb o e _ _ hx=>t.slot b o e hx
 free:=λ_ _ _ n _=>n
 there:=λb o e hx=>let ⟨_,q⟩:=t.slot b o e hx;⟨_,q⟩
 tups:=λ_ _ e=>e
 frzs:=λ_ _ _ e=>e
 tbls:=λ_ _ e=>⟨#[],by rw[e];simp⟩
theorem dy.hok {P:Program} {w:World} {fs ch:List Addr} {H:Hp} {h h':Heap} (t:dy fs ch h h') (ok:HOk P w H h) (hf:∀b∈fs,H b=none) (hc:∀b∈ch,H b=none):HOk P w H h':=λb u e=>
 (ok b u e).se (λc v hcb q=>by
  have key:∀{z},H c=some z→h'.get? c=some v:=λ{z} hz=>t.keep c v q (λx=>by rw[hf c x] at hz;cases hz) λx=>by rw[hc c x] at hz;cases hz
  rcases hcb with rfl | hcb
  ·exact key e
  ·exact key hcb) (λ_ q=>q) λ_ _ q=>q
structure Fly (n:Nat) (H:Hp) (h:Heap) (a:Addr) (cls:Value) (dx:Option Addr):Prop where
 lo:n≤a
 un:H a=none
 ob:∃oe vs,h.get? a=some oe∧oe.cls=cls∧oe.dict=dx∧oe.data=.fields vs∧1 < vs.size∧
  (vs[1]?=some .none∨∃T oT ts,vs[1]?=some (.ref T)∧n≤T∧H T=none∧T≠a∧h.get? T=some oT∧oT.data=.fields ts∧3 < ts.size)
structure vm (n:Nat) (H:Hp) (h:Heap) (a:Addr) (cls:Value) (dx:Option Addr):Prop where
 lo:n≤a
 un:H a=none
 ob:∃oe vs,h.get? a=some oe∧oe.cls=cls∧oe.dict=dx∧oe.data=.fields vs∧1 < vs.size∧
  ∃T oT ts,vs[1]?=some (.ref T)∧n≤T∧H T=none∧T≠a∧h.get? T=some oT∧oT.data=.fields ts∧3 < ts.size
section
variable {n m:Nat} {H:Hp} {h:Heap} {a:Addr} {cls:Value} {dx:Option Addr}
theorem vm.fly (x:vm n H h a cls dx):Fly n H h a cls dx:=let ⟨oe,vs,h1,h2,h3,h4,h5,h6⟩:=x.ob;⟨x.lo,x.un,oe,vs,h1,h2,h3,h4,h5,.inr h6⟩
theorem Fly.le (x:Fly n H h a cls dx) (hm:m≤n):Fly m H h a cls dx:=by
 obtain ⟨oe,vs,h1,h2,h3,h4,h5,h6⟩:=x.ob;refine ⟨aar hm x.lo,x.un,oe,vs,h1,h2,h3,h4,h5,?_⟩;rcases h6 with h6 | ⟨T,oT,ts,k1,k2,k3,k4,k5,k6,k7⟩
 ·exact .inl h6
 ·exact .inr ⟨T,oT,ts,k1,aar hm k2,k3,k4,k5,k6,k7⟩
end
section
variable {M:Model} {A:Around} {E:Value→Shared→Prop} {s:Shared} {n:Nat} {H:Hp} {a:Addr} {cls:Value} {dx:Option Addr}
theorem we (o:Obj) (f:Array Value→Array Value):(o.mapFields f).dict=o.dict:=by
 obtain ⟨c,d,dt,sl⟩:=o;cases dt <;> rfl
theorem xx {fr:Option Addr} {Q:Unit→Shared→Prop} {fs:List Addr} (F:vm n H s.heap a cls dx)
  (q:∀h' ch,(∀b∈ch,n≤b∧H b=none∧∃o,h'.get? b=some o)→dy fs ch s.heap h'→vm n H h' a cls dx→Q () { s with heap:=h' }):wpAny M A (setFlight (.ref a) fr) Q E s:=by
 obtain ⟨oe,vs,h1,h2,h3,h4,h5,T,oT,ts,k1,k2,k3,k4,k5,k6,k7⟩:=F.ob;unfold setFlight;refine wpAny_bind (wpAny_field h1 h4 k1 ?_);rw[if_pos (show (Value.ref T !=Value.none)=true from by simp)];refine wpAny_setField k5 k6 k7 ?_;have self:=Heap.get?_update_self (Obj.mapFields (·.setIfInBounds 3 (fr.elim Value.none λf=>rawInt f))) k5 (Obj.isFreed_of_fields (Obj.data_mapFields k6 _));have other:∀b o,b≠T→s.heap.get? b=some o→(s.heap.update T (Obj.mapFields (·.setIfInBounds 3 (fr.elim Value.none λf=>rawInt f)))).get? b=some o:=λb o hb e=>(Heap.get?_update_other _ _ (Ne.symm hb)).trans e;refine q _ [T] (λb hb=>?_) ⟨λb o e _ hb=>other b o (λz=>hb (by simp[z])) e,λb o e hb=>⟨o.slots,other b o (λz=>hb (by simp[z])) e⟩⟩ ⟨F.lo,F.un,oe,vs,other a oe (Ne.symm k4) h1,h2,h3,h4,h5,T,_,_,k1,k2,k3,k4,self,Obj.data_mapFields k6 _,by simpa using k7⟩;obtain rfl:b=T:=by simpa using hb
 exact ⟨k2,k3,_,self⟩
theorem yb {base:Heap} {iy env:Env} {outer:List Env} {L:Addr} {hadNext:Bool} {head:Value} {oe:Obj} {vs:Array Value} {Q:Unit→Shared→Prop}
  (hfr:A.frames=some (iy::outer)) (hl:s.heap.FunFrames base (iy::outer)) (hf0:iy.frame=some L) (hf:env.frame=some L) (lo:n≤a) (un:H a=none) (fresh:∀b,s.heap.objs.size≤b→H b=none)
  (h1:s.heap.get? a=some oe) (h2:oe.cls=cls) (h3:oe.dict=dx) (h4:oe.data=.fields vs) (h5:1 < vs.size)
  (q:∀h' ch,(∀b∈ch,n≤b∧H b=none∧∃o,h'.get? b=some o)→dy (frs (iy::outer)) ch s.heap h'→vm n H h' a cls dx→Q () { s with heap:=h' }):
  wpAny M A (do let f ←PySem.frameOf env;let pl ←entryPlaceOf L hadNext;let t ←EntryCells.newEntry head f .none (rawInt L) .none pl;setField (.ref a) 1 t) Q E s:=by
 have na:a∉frs (iy::outer):=λhm=>by
  obtain ⟨_,o,ho,hnf⟩:=hl.mem hm;rw[h1] at ho;cases ho
  exact hnf vs h4
 have e0:PySem.frameOf env=PySem.frameOf iy:=by unfold PySem.frameOf;rw[hf,hf0]
 rw[e0];refine wpAny_bind (wpAny_frameOf_fun hfr hl hf0 λg sl=>?_);refine wpAny_bind (wpAny_entryPlaceOf λpl hpl=>?_);unfold EntryCells.newEntry newFields;refine wpAny_bind (wpAny_newObj_type ?_ (hpl.sizeOk5 _ _ _ _ _));generalize ht:([head,Value.ref L,.none,rawInt L,.none]++(if pl.isEmpty then aaj 6 Value.none else pl)).toArray=ts;have hts:3 < ts.size:=by rw[←ht];simp only[aa6,aa2,aap,acb] <;> omega
 have g1:g.get? a=some oe:=(sl.2.1 a na).trans h1;have sz:g.objs.size=s.heap.objs.size:=sl.1;have p1:(g.push { cls:=.type "traceback",dict:=none,data:=.fields ts }).get? a=some oe:=Heap.get?_push_of_some _ g1;refine wpAny_setField p1 h4 h5 ?_;have na2:g.objs.size≠a:=ab9 (Heap.lt_size g1);have d1:=Obj.data_mapFields h4 (·.setIfInBounds 1 (Value.ref g.objs.size));have u1:=Heap.get?_update_self (Obj.mapFields (·.setIfInBounds 1 (Value.ref g.objs.size))) p1 (Obj.isFreed_of_fields d1);have u2:((g.push { cls:=.type "traceback",dict:=none,data:=.fields ts }).update a (Obj.mapFields (·.setIfInBounds 1 (Value.ref g.objs.size)))).get? g.objs.size=some { cls:=.type "traceback",dict:=none,data:=.fields ts }:=
  (Heap.get?_update_other _ _ (Ne.symm na2)).trans (Heap.get?_push_size g rfl)
 have other:∀b o,b≠a→g.get? b=some o→((g.push { cls:=.type "traceback",dict:=none,data:=.fields ts }).update a (Obj.mapFields (·.setIfInBounds 1 (Value.ref g.objs.size)))).get? b=some o:=λb o hb e=>
  (Heap.get?_update_other _ _ (Ne.symm hb)).trans (Heap.get?_push_of_some _ e)
 refine q _ [a] (λb hb=>?_) ⟨λb o e hb hc=>other b o (λz=>hc (by simp[z])) ((sl.2.1 b hb).trans e),λb o e hc=>?_⟩ ⟨lo,un,_,_,u1,(Obj.cls_mapFields _ _).trans h2,(we _ _).trans h3,d1,by simpa using h5,g.objs.size,_,_,by simp[h5],?_,?_,na2,u2,rfl,hts⟩
 ·obtain rfl:b=a:=by simpa using hb
  exact ⟨lo,un,_,u1⟩
 ·obtain ⟨sl',e'⟩:=sl.2.2 b o e;exact ⟨sl',other b _ (λz=>hc (by simp[z])) e'⟩
 ·exact aar lo (abu (Heap.lt_size g1))
 ·exact fresh _ (by rw[sz];exact aa4 _)
theorem dy.trans {fs c1 c2:List Addr} {h h1 h2:Heap} (x:dy fs c1 h h1) (y:dy fs c2 h1 h2):dy fs (c1++c2) h h2:=by
 refine ⟨λb o e hb hc=>y.keep b o (x.keep b o e hb λz=>hc (ac6 _ z)) hb λz=>hc (aax _ z),λb o e hc=>?_⟩;obtain ⟨s1,e1⟩:=x.slot b o e λz=>hc (ac6 _ z);obtain ⟨s2,e2⟩:=y.slot b _ e1 λz=>hc (aax _ z);exact ⟨s2,e2⟩
theorem L6 {base:Heap} {iy env:Env} {outer:List Env} {L:Addr} {Q:Unit→Shared→Prop}
  (hfr:A.frames=some (iy::outer)) (hl:s.heap.FunFrames base (iy::outer)) (hf0:iy.frame=some L) (hf:env.frame=some L) (fresh:∀b,s.heap.objs.size≤b→H b=none) (F:Fly n H s.heap a cls dx)
  (q:∀h' ch,(∀b∈ch,n≤b∧H b=none∧∃o,h'.get? b=some o)→dy (frs (iy::outer)) ch s.heap h'→vm n H h' a cls dx→Q () { s with heap:=h' }):wpAny M A (noteFrame (.ref a) env) Q E s:=by
 obtain ⟨oe,vs,h1,h2,h3,h4,h5,h6⟩:=F.ob;unfold noteFrame;simp only[hf];rcases h6 with h6 | ⟨T,oT,ts,k1,k2,k3,k4,k5,k6,k7⟩
 ·refine wpAny_bind (wpAny_field h1 h4 h6 ?_);rw[if_neg (by decide)];exact yb hfr hl hf0 hf F.lo F.un fresh h1 h2 h3 h4 h5 q
 ·refine wpAny_bind (wpAny_field h1 h4 k1 ?_);rw[if_pos (show (Value.ref T !=Value.none)=true from by simp)];refine wpAny_bind (wpAny_field k5 k6 (x:=ts[3]) (by simp[k7]) ?_);by_cases hm:(ts[3]==rawInt L)=true
  ·rw[if_pos hm];exact wpAny_pure (q s.heap [] (λb hb=>by cases hb) .refl ⟨F.lo,F.un,oe,vs,h1,h2,h3,h4,h5,T,oT,ts,k1,k2,k3,k4,k5,k6,k7⟩)
  ·rw[if_neg hm];refine wpAny_bind (wpAny_setField k5 k6 k7 ?_);have self:=Heap.get?_update_self (Obj.mapFields (·.setIfInBounds 3 Value.none)) k5 (Obj.isFreed_of_fields (Obj.data_mapFields k6 _));have other:∀b o,b≠T→s.heap.get? b=some o→(s.heap.update T (Obj.mapFields (·.setIfInBounds 3 Value.none))).get? b=some o:=λb o hb e=>(Heap.get?_update_other _ _ (Ne.symm hb)).trans e;have nT:∀b o,s.heap.get? b=some o→(∀vs,o.data≠.fields vs)→b≠T:=λb o e d z=>by
    rw[z,k5] at e;cases e
    exact d ts k6
   have tu:dy (frs (iy::outer)) [T] s.heap (s.heap.update T (Obj.mapFields (·.setIfInBounds 3 Value.none))):=⟨λb o e _ hb=>other b o (λz=>hb (by simp[z])) e,λb o e hb=>⟨o.slots,other b o (λz=>hb (by simp[z])) e⟩⟩;refine yb hfr (hl.of_keeps λb o e d=>⟨o,other b o (nT b o e d) e,rfl⟩) hf0 hf F.lo F.un (λb hb=>fresh b (by rw[show (s.heap.update T (Obj.mapFields (·.setIfInBounds 3 Value.none))).objs.size=s.heap.objs.size from Heap.size_after_update ..] at hb;exact hb)) (other a oe (Ne.symm k4) h1) h2 h3 h4 h5 λh' ch hc tn fl=>?_;refine q h' ([T]++ch) (λb hb=>?_) (tu.trans tn) fl;rcases List.mem_append.mp hb with hb | hb
   ·obtain rfl:b=T:=by simpa using hb
    refine ⟨k2,k3,?_⟩;by_cases hc2:b∈ch
    ·exact (hc b hc2).2.2
    ·obtain ⟨sl,e⟩:=tn.slot b _ self hc2;exact ⟨_,e⟩
   ·exact hc b hb
end
def Bnd (X:Cx) (pins:List (Addr×Obj)) (n:Nat):Prop:=X.s₀.heap.objs.size≤n∧X.env.locals < n∧(∀x c,X.env.cells.lookup x=some c→c < n)∧∀p∈X.pn++pins,p.1 < n
def XE (X:Cx) (E:XK):Value→Shared→Prop:=λe s'=>∃pins σ H n a cls dx,e=.ref a∧Inv X pins σ H s'∧Bnd X pins n∧Fly n H s'.heap a cls dx∧E cls dx H
noncomputable abbrev Cx.xp (X:Cx) (E:XK):Cx:=X.n0 (XE X E)
def Bg (X:Cx):Prop:=∃iy outer0 L,X.stack=iy::outer0∧iy.frame=some L∧X.env.frame=some L
noncomputable def CXE (P:Program) (w:World):CXT:=λouter H s E e s'=>∃H' a cls dx,e=.ref a∧s'.os=s.os∧AllBare s'.gens∧Un (frs outer) [] H H' s.heap s'.heap∧HOk P w H' s'.heap∧Fly s.heap.objs.size H' s'.heap a cls dx∧E cls dx H'
section
variable {X:Cx} {pins:List (Addr×Obj)} {σ:St} {H:Hp} {s:Shared} {n:Nat} {a:Addr} {cls:Value} {dx:Option Addr} {M:Model} {A:Around} {E':Value→Shared→Prop} {env:Env} {E:XK}
theorem Inv.bnd (I:Inv X pins σ H s):Bnd X pins s.heap.objs.size:=
 ⟨I.sz,I.lt,λx c e=>let ⟨_,z⟩:=I.cell x c e;z.lt,λp hp=>Heap.lt_size (I.pin p hp).1⟩
theorem Inv.turn {ch:List Addr} {h':Heap} (I:Inv X pins σ H s) (B:Bnd X pins n) (hc:∀b∈ch,n≤b∧H b=none∧∃o,h'.get? b=some o) (t:dy (frs X.stack) ch s.heap h'):Inv X pins σ H { s with heap:=h' }:=by
 refine I.call (g':=s.gens) (d':=s.drawn) (t':=s.toks) (t.un λb hb=>(hc b hb).2.2) (t.hok I.hok I.Au λb hb=>(hc b hb).2.1) I.bare λb hb=>?_;have lo:=(hc b hb).1;exact ⟨.inr (aar B.1 lo),ab9 (aai B.2.1 lo),λx c e=>aam (aai (B.2.2.1 x c e) lo),λp hp=>aam (aai (B.2.2.2 p hp) lo)⟩
theorem E4 {Q:Unit→Shared→Prop} (I:Inv X pins σ H s) (B:Bnd X pins n) (F:Fly n H s.heap a cls dx) (S:Bg X) (hA:A.frames=X.A.frames) (hE:env.frame=X.env.frame)
  (q:∀h',Inv X pins σ H { s with heap:=h' }→vm n H h' a cls dx→Q () { s with heap:=h' }):wpAny M A (noteFrame (.ref a) env) Q E' s:=by
 obtain ⟨iy,outer0,L,hs,h0,h1⟩:=S;have fr:A.frames=some (iy::outer0):=by rw[hA,I.ok.frames,hs]
 have st:=I.stack;rw[hs] at st;refine L6 fr st h0 (hE.trans h1) (λb hb=>I.hok.fresh hb) F λh' ch hc t fl=>q h' (I.turn B hc ?_) fl;rw[hs];exact t
theorem ic {fr:Option Addr} {Q:Unit→Shared→Prop} (I:Inv X pins σ H s) (B:Bnd X pins n) (F:vm n H s.heap a cls dx)
  (q:∀h',Inv X pins σ H { s with heap:=h' }→vm n H h' a cls dx→Q () { s with heap:=h' }):wpAny M A (setFlight (.ref a) fr) Q E' s:=
 xx (fs:=frs X.stack) F λh' ch hc t fl=>q h' (I.turn B hc t) fl
theorem vm.head {h:Heap} (F:vm n H h a cls dx):∃oe vs T,h.get? a=some oe∧oe.data=.fields vs∧vs[1]?=some (.ref T):=
 let ⟨oe,vs,h1,_,_,h4,_,T,_,_,k1,_⟩:=F.ob;⟨oe,vs,T,h1,h4,k1⟩
theorem Di (S:Bg X):PassesOwn (model X.prog X.w) X.A X.env (XE X E):=by
 rintro e s' ⟨pins,σ,H,n,a,cls,dx,rfl,I,B,F,q⟩;refine E4 I B F S rfl rfl λh' I' F'=>?_;obtain ⟨oe,vs,T,h1,h2,h3⟩:=F'.head;show wpAny _ _ _ _ _ _
 refine wpAny_bind (wpAny_field (s:={ s' with heap:=h' }) h1 h2 h3 ?_);rw[if_neg (show ¬((Value.ref T==Value.none)=true) from by simp)];exact ic I' B F' λh'' I'' F''=>⟨pins,σ,H,n,a,cls,dx,rfl,I'',B,F''.fly,q⟩
theorem Qq {e:Value} {R:Value→Shared→Prop} (S:Bg X) (hx:X.ex=[]) (z:XE X E e s) (q:∀s',CXE X.prog X.w X.outer X.H₀ X.s₀ E e s'→R e s'):wpAny M X.A (leaving X.env e) (λ_ s'=>R e s') E' s:=by
 obtain ⟨pins,σ,H,n,a,cls,dx,rfl,I,B,F,qE⟩:=z;unfold leaving;refine wpAny_bind (E4 I B F S rfl rfl λh' I' F'=>?_);refine ic (s:={ s with heap:=h' }) I' B F' λh'' I'' F''=>q _ ?_;have u:=I''.base;rw[hx] at u;exact ⟨H,a,cls,dx,rfl,I''.os,I''.bare,u,I''.hok,F''.fly.le B.1,qE⟩
theorem passX:Passes (CXE X.prog X.w) (X.xp E) E:=by
 rintro pins σ H s e s' I ⟨H',a,cls,dx,rfl,os,bare,un,hok,F,q⟩;have I0:=I.dh;exact ⟨pins,σ,H',_,a,cls,dx,rfl,I0.Kb (ch:=[]) os un hok bare (λb z=>absurd z (by simp)),I0.bnd,F,q⟩
end
section
variable {P:Program} {w:World} {K:PySem.W.Frag} {mg:Str→Option Value} {base:Heap}
theorem Du {CX:CXT} {N:List Str} {qual:Str} {scope:Scope} {f:Addr} {cd:Value} {A:Around} {outer:List Env} {s:Shared} {H:Hp} {E:XK}:Bg (me CX P w K mg base N qual scope f cd A outer s H E):=⟨_,_,_,rfl,rfl,rfl⟩
theorem Fun.okX {x qual:Str} {st:Stmt} {f:Addr} {fd:FuncData} {N ps:List Str} {k:Nat} {sp:Sp} (F:Fun K x qual st f fd) (S:ax N ps (ag st)) (len:∀vs H Q E,sp vs H Q E→vs.length=ps.length)
  (hbody:∀(cdv:Value) (A:Around) (outer:List Env) (s:Shared) (H:Hp) (vs:List V) (Q:VK) (E:XK),fj k (A.deeper (envOfC qual (ag st) s.heap.objs.size f cdv))→sp vs H Q E→
   ∃t,PSs ((me (CXE P w) P w K mg base N qual (ag st) f cdv A outer s H E).xp E) (av st) t∧t { nx:=λ_ H'=>Q .non H',rt:=Q } (start N vs) H):lu P w K mg base (CXE P w) (k+1) f fd ps sp:=by
 obtain ⟨oc,od,kV,doc,pm,an,cdv,ct,osl,rfl,lk,hcd⟩:=F.ex;refine fn_of lk hcd S len λA outer s H vs Q E hr hsp=>?_;obtain ⟨t,h,q⟩:=hbody cdv A outer s H vs Q E hr hsp;refine ⟨t,λpins s' σ H' D I hw=>wpAny_mono (h pins s' σ H' D (I.n0 _) hw) (λ_ _ q=>q.dh) λe s'' z=>?_,q⟩;exact Qq Du rfl z λ_ y=>y
def m7 (P:Program) (w:World) (K:PySem.W.Frag) (mg:Str→Option Value) (base:Heap) (k:Nat) (x:Str) (ps:List Str) (sp:Sp):Prop:=
 ∃(f:Addr) (fd:FuncData),lu P w K mg base (CXE P w) k f fd ps sp∧Binds K fd ps []∧PySem.W.keepIn K (.ref f)=true∧mg x=some (.ref f)
theorem m7.up {j k:Nat} {x:Str} {ps:List Str} {sp:Sp} (h:m7 P w K mg base j x ps sp) (l:j≤k):m7 P w K mg base k x ps sp:=by
 obtain ⟨f,fd,F,r⟩:=h;exact ⟨f,fd,F.mono l,r⟩
theorem Def.hasX {k:Nat} {x:Str} {st:Stmt} {N ps:List Str} {sp:Sp} (D:Def K mg x st ps) (S:ax N ps (ag st)) (len:∀vs H Q E,sp vs H Q E→vs.length=ps.length)
  (hbody:∀(f:Addr) (cdv:Value) (A:Around) (outer:List Env) (s:Shared) (H:Hp) (vs:List V) (Q:VK) (E:XK),fj k (A.deeper (envOfC x (ag st) s.heap.objs.size f cdv))→sp vs H Q E→
   ∃t,PSs ((me (CXE P w) P w K mg base N x (ag st) f cdv A outer s H E).xp E) (av st) t∧t { nx:=λ_ H'=>Q .non H',rt:=Q } (start N vs) H):m7 P w K mg base (k+1) x ps sp:=by
 obtain ⟨f,fd,F,b,m⟩:=D;exact ⟨f,fd,F.okX S len λcdv A outer s H vs Q E hr h=>hbody f cdv A outer s H vs Q E hr h,b,F.kp,m⟩
end
section
variable {X:Cx} {E:XK} {k:Nat} {ps:List Str} {sp:Sp} {x:Str} {p pos:Pos} {e:Expr} {es:List Expr} {t:TA}
theorem Nv (h:m7 X.prog X.w X.K X.mg X.base k x ps sp) (hr:fj k X.A) (ha:PA (X.xp E) (e::es) t) (hg:Gl X x:=by rfl) (hdb:(x==("__debug__":Str))=false:=by decide+kernel)
  (he:starEach (e::es) X.env=(false,eval e X.env)::starEach es X.env:=by rfl) (hpl:(backTo pos (starEach es X.env)).any (·.1)=false:=by rfl):
  PE (X.xp E) (.Call (.Name x p) (e::es) [] pos) (Be sp [] E t):=by
 obtain ⟨f,fd,F,b,kp,m⟩:=h;exact Aq (X:=X.xp E) F hr hg m kp b .nil passX ha hdb he hpl
end
end L2
namespace PySem
open Sem (wp)
structure Xc (K:W.Frag) (C:Addr) (bm:List Value):Prop where
 lk:∃nm q N bs sn sub ab col dd k0 k1 k2 k3 k5,K.lookup C=some (excClassObj nm q C N bs bm true sn sub ab col dd k0 k1 k2 k3 k5 "ValueError.__new__")
 hv:bm.contains (.type "ValueError")=true
 hb:bm.contains (.type "BaseException")=true
 ha:bm.contains (.type "AttributeError")=false
 hn:bm.contains (.type "NameError")=false
 ho:bm.contains (.type "object")=true
 kp:W.keepIn K (.ref C)=true
 sa:∀self:Value,refuseLoop self "__setattr__" bm=pure ()
 fs:W.findIn K (.ref C) "__setattr__"=some (some (.builtin "object.__setattr__"))
 fg:W.findIn K (.ref C) "__getattribute__"=some (some (.builtin "BaseException.__getattribute__"))
 fh:W.findIn K (.ref C) "__getattr__"=some none
 fc:W.findIn K (.ref C) "__class__"=some (some (.builtin "object.__class__"))
section
variable {prog:Program} {w:World} {A:Around} {E:Value→Shared→Prop} {K:W.Frag} {C:Addr} {bm rest:List Value} {init:Value}
theorem Lz {h:Heap} {g:Array GenState} {d:Drawn} {t:Nat} {os:OsState} {R:Result→Shared→Prop} (X:K.In h) (c:Xc K C bm) (hl:rest.length≤sizeLine)
  (q:R (.ok (.ret (.ref (h.objs.size+1)))) ⟨(h.push { cls:=.type "tuple",data:=.seq rest.toArray }).push { cls:=.ref C,data:=.fields #[.ref h.objs.size,.none,.none,.none,.bool false,.none] },g,d,t,os⟩):
  codeAny (model prog w) A (.builtin "ValueError.__new__" ⟨.ref C::rest,[]⟩) R ⟨h,g,d,t,os⟩:=by
 obtain ⟨nm,qn,N,bs,sn,sub,ab,col,dd,k0,k1,k2,k3,k5,lk⟩:=c.lk;have hC:=X _ _ lk;have Fv:=PySem.F.excBase_ValueError;have hends:=Fv.ends;have z1:(Value.ref C::bm).contains (.type "ValueError")=true:=by rw[abb,c.hv,acn]
 have z2:(Value.ref C::bm).contains (.type "AttributeError")=false:=by rw[abb,c.ha];rfl
 have z3:(Value.ref C::bm).contains (.type "NameError")=false:=by rw[abb,c.hn];rfl
 refine codeAny_builtinAt Fv.entry ?_;unfold Builtin.«BaseException.__new__»;refine wpAt_bind ?_;show wpAt _ _ _ (stack >>=_) _ _ _
 refine wpAt_bind (wpAt_stack λp below=>wpAt_of_wpAny ?_);wp_walk
 refine wpAt_of_wpAny ?_;rw[Fv.owner];repeat (first | with_reducible refine wpAny_madeHere_exc Fv.canon hC ?_ | with_reducible refine wpAny_loadPart_at hC ?_ | (with_reducible refine wpAny_isSubtype_exc hC ?_;first | rw[z1] | rw[z2] | rw[z3]) | wp_step)
 show R _ _
 rw[Heap.size_push];exact q
theorem Dv {h:Heap} {g:Array GenState} {d:Drawn} {t:Nat} {os:OsState} {Q:Fin→Shared→Prop} (X:K.In h) (c:Xc K C bm) (hi:W.findIn K (.ref C) "__init__"=some (some init))
  (hb:∀self,W.Looks (model prog w) h (bindSpecial init self) (init,[self])) (hl:rest.length≤sizeLine)
  (q:wpAny (model prog w) A (call init (.ref (h.objs.size+1)::rest)) (λr s'=>r=.none∧Q (.done (.ret (.ref (h.objs.size+1)))) s') E
   ⟨(h.push { cls:=.type "tuple",data:=.seq rest.toArray }).push { cls:=.ref C,data:=.fields #[.ref h.objs.size,.none,.none,.none,.bool false,.none] },g,d,t,os⟩):
  wpAny (model prog w) A (Builtin.«type.__call__» ⟨.ref C::rest,[]⟩) Q E ⟨h,g,d,t,os⟩:=by
 obtain ⟨nm,qn,N,bs,sn,sub,ab,col,dd,k0,k1,k2,k3,k5,lk⟩:=c.lk;have hC:=X _ _ lk;have Fv:=PySem.F.excBase_ValueError;repeat (first | with_reducible refine wpAny_loadPart_at hC ?_ | with_reducible refine wpAny_madeBy_exc hC ?_ | wp_step)
 refine codeAny_call_builtin_code (Code.quiet_builtin _ Fv.quiet) (wpAny_check_new_subU Fv c.hv .base hC ?_);refine Lz X c hl ?_;show wpAny _ _ _ _ _ _
 have kk:∀b o,h.get? b=some o→((h.push { cls:=.type "tuple",data:=.seq rest.toArray }).push { cls:=.ref C,data:=.fields #[.ref h.objs.size,.none,.none,.none,.bool false,.none] }).get? b=some o:=
  λb o e=>Heap.get?_push_of_some _ (Heap.get?_push_of_some _ e)
 have hC2:=kk _ _ hC;have he:((h.push { cls:=.type "tuple",data:=.seq rest.toArray }).push { cls:=.ref C,data:=.fields #[.ref h.objs.size,.none,.none,.none,.bool false,.none] }).get? (h.objs.size+1)=some
   { cls:=.ref C,data:=.fields #[.ref h.objs.size,.none,.none,.none,.bool false,.none] }:=by heap_get
 have z4:(Value.ref C::bm).contains (.ref C)=true:=by simp
 unfold isInstance;repeat (first | with_reducible refine wpAny_loadPart_at he ?_ | (with_reducible refine wpAny_isSubtype_exc hC2 ?_;rw[z4]) | wp_step)
 show wpAny _ _ (typeLookup (.ref C) _) _ _ _
 refine ((W.looks_findIn X hi).keeps kk).here ?_;refine wpAny_holding (wpAny_bind (((hb _).keeps kk).here ?_));refine wpAny_bind (wpAny_mono q (λr s' hr=>?_) λ_ _ z=>z);obtain ⟨rfl,hQ⟩:=hr;wp_walk
 exact hQ
theorem Kz {s:Shared} {Q:Value→Shared→Prop} (X:K.In s.heap) (c:Xc K C bm) (hi:W.findIn K (.ref C) "__init__"=some (some init)) (hb:∀self,W.Looks (model prog w) s.heap (bindSpecial init self) (init,[self]))
  (hl:rest.length≤sizeLine)
  (q:wpAny (model prog w) (A.under (.builtin "type.__call__" ⟨.ref C::rest,[]⟩)) (call init (.ref (s.heap.objs.size+1)::rest)) (λr s'=>r=.none∧Q (.ref (s.heap.objs.size+1)) s') E
   { s with heap:=(s.heap.push { cls:=.type "tuple",data:=.seq rest.toArray }).push { cls:=.ref C,data:=.fields #[.ref s.heap.objs.size,.none,.none,.none,.bool false,.none] } }):
  wpAny (model prog w) A (call (.ref C) rest) Q E s:=by
 obtain ⟨h,g,d,t,os⟩:=s;obtain ⟨nm,qn,N,bs,sn,sub,ab,col,dd,k0,k1,k2,k3,k5,lk⟩:=c.lk;have hC:=X _ _ lk;dsimp only at hC q;have g1:=tc_lookup;have g2:=tc_bind (.ref C);have g3:(⟨h,g,d,t,os⟩:Shared).TypeIs (.ref C) "type":=⟨_,hC,rfl⟩;refine wpAny_call (codeAny_of_tree ?_);show wpAny _ _ (callAny (.ref C) _) _ _ _
 repeat (any_goals (first | assumption | with_reducible refine wpAny_loadPart_at hC ?_ | wp_step))
 refine ⟨rfl,?_⟩;refine codeAny_call_builtin_at (Code.quiet_builtin _ (by decide+kernel)) entry_typeCall (wpAny_check_type_call_sub hC (Dv X c hi hb hl ?_));exact q
end
end PySem
namespace L2
open PySem PySem.Spec PyProof.Rows
noncomputable def XO (a C:Addr) (dx:Option Addr) (nw:Bool):HO:=.ext λh=>∃o vs,h.get? a=some o∧o.cls=.ref C∧o.dict=dx∧o.data=.fields vs∧(nw=true→∃t,vs=#[.ref t,.none,.none,.none,.bool false,.none])
noncomputable def XD (dx:Addr) (fs:List (Str×V)):HO:=.ext λh=>∃mA,h.Ns1 dx mA∧(∀f,kc (fs.lookup f) (mA f))∧PySem.Within mA (fs.map (·.1))
theorem XO.mk {P:Program} {w:World} {H:Hp} {h:Heap} {a C:Addr} {dx:Option Addr} {nw:Bool} (e:∃o vs,h.get? a=some o∧o.cls=.ref C∧o.dict=dx∧o.data=.fields vs∧(nw=true→∃t,vs=#[.ref t,.none,.none,.none,.bool false,.none])):bp P w H h a (XO a C dx nw):=by
 refine ⟨e,?_,?_⟩
 ·obtain ⟨o,_,q,_⟩:=e;exact ⟨o,q⟩
 ·rintro h1 h2 ⟨o,vs,q,r⟩ k;exact ⟨o,vs,k o q,r⟩
theorem XO.get {P:Program} {w:World} {H:Hp} {h:Heap} {a C:Addr} {dx:Option Addr} {nw:Bool} (x:HOk P w H h) (e:H a=some (XO a C dx nw)):∃o vs,h.get? a=some o∧o.cls=.ref C∧o.dict=dx∧o.data=.fields vs∧(nw=true→∃t,vs=#[.ref t,.none,.none,.none,.bool false,.none]):=(x a _ e).1
theorem XD.get {P:Program} {w:World} {H:Hp} {h:Heap} {dx:Addr} {fs:List (Str×V)} (x:HOk P w H h) (e:H dx=some (XD dx fs)):∃mA,h.Ns1 dx mA∧(∀f,kc (fs.lookup f) (mA f))∧PySem.Within mA (fs.map (·.1)):=(x dx _ e).1
end L2
namespace PySem
open Sem (wp)
open Builtin Builtin.ObjectAttr
section
variable {prog:Program} {w:World} {A:Around} {E:Value→Shared→Prop} {K:W.Frag} {C x:Addr} {bm rest:List Value} {h:Heap} {g:Array GenState} {d:Drawn} {t:Nat} {os:OsState} {o:Obj} {vs:Array Value}
theorem Hn {R:Result→Shared→Prop} (X:K.In h) (c:Xc K C bm) (hx:h.get? x=some o) (hc:o.cls=.ref C) {t0:Addr} (hd:o.data=.fields #[.ref t0,.none,.none,.none,.bool false,.none]) (hl:rest.length≤sizeLine)
  (q:R (.ok (.ret .none)) ⟨(h.push { cls:=.type "tuple",data:=.seq rest.toArray }).update x (Obj.mapFields (·.setIfInBounds 0 (.ref h.objs.size))),g,d,t,os⟩):
  codeAny (model prog w) A (.call (.builtin "ValueError.__init__") ⟨.ref x::rest,[]⟩) R ⟨h,g,d,t,os⟩:=by
 obtain ⟨nm,qn,N,bs,sn,sub,ab,col,dd,k0,k1,k2,k3,k5,lk⟩:=c.lk;have hC:=X _ _ lk;have Fv:=PySem.F.excBase_ValueError;have z1:(Value.ref C::bm).contains (.type "ValueError")=true:=by rw[abb,c.hv,acn]
 have short:=Fv.noStar;refine codeAny_call_builtin Fv.init.plain Fv.initEntry ?_;simp only[checkBuiltinCall,Fv.initKind,Fv.initSplit,Fv.initRow];repeat (first | (with_reducible refine wpAny_loadPart_at hx ?_;rw[hc]) | with_reducible refine wpAny_loadPart_at hC ?_ | (with_reducible refine wpAny_isSubtype_exc hC ?_;rw[z1]) | wp_step)
 refine wpAny_onRaise ?_;rw[show ∀(a b:String) (n:Nat),Bind.check ⟨.positional,"*","ValueError",.self,[⟨"args",.varPos,false⟩]⟩ a b n (aec (λy=>y.fst) ({ pos:=Value.ref x::rest }:Args).kw)=pure () from λa b n=>check_star_args _ _ _ _ _ _];refine wpAny_pure ?_;unfold Builtin.«BaseException.__init__»;have hx2:(h.push { cls:=.type "tuple",data:=.seq rest.toArray }).get? x=some o:=Heap.get?_push_of_some _ hx;have hz:0 < (#[.ref t0,.none,.none,.none,.bool false,.none]:Array Value).size:=by show 0 < 6;decide
 have hz1:(#[.ref t0,.none,.none,.none,.bool false,.none]:Array Value)[0]?=some (.ref t0):=rfl;repeat (first | with_reducible refine wpAny_field hx2 hd hz1 ?_ | with_reducible refine wpAny_setField hx2 hd hz ?_ | wp_step)
 all_goals first | exact q | skip
theorem xtype {M:Model} (hx:h.get? x=some o) (hc:o.cls=.ref C):W.Looks M h (typeOf (.ref x)) (.ref C):=hc ▸ (W.Looks.ld hx).andThen .now
theorem xsub {M:Model} (X:K.In h) (c:Xc K C bm) (b:Value):W.Looks M h (isSubtype (.ref C) b) ((Value.ref C::bm).contains b):=by
 obtain ⟨nm,qn,N,bs,sn,sub,ab,col,dd,k0,k1,k2,k3,k5,lk⟩:=c.lk;intro A' Q' E' s' k' q';obtain ⟨h2,g2,d2,t2,o2⟩:=s';exact wpAny_isSubtype_exc (k' _ _ (X _ _ lk)) q'
theorem xinst {M:Model} (X:K.In h) (c:Xc K C bm) (hx:h.get? x=some o) (hc:o.cls=.ref C) (b:Value):W.Looks M h (isInstance (.ref x) b) ((Value.ref C::bm).contains b):=(xtype hx hc).andThen (xsub X c b)
theorem W.ja {cd:ClassData} {oc:Value} {od:Option Addr} {sl:Array (Option Value)} (lk:K.lookup C=some ⟨oc,od,.cls cd,sl⟩):W.clsIn K C=some cd:=by
 unfold W.clsIn;rw[lk]
theorem xraise {env:Env} {s:Shared} {m:Sem Value} {Q:Flow→Shared→Prop} (hh:A.handled=none)
  (q:wpAny (model prog w) A m (λv s₁=>∃e o vs C bm,v=.ref e∧K.In s₁.heap∧Xc K C bm∧s₁.heap.get? e=some o∧o.cls=.ref C∧o.data=.fields vs∧vs[1]?=some .none∧E (.ref e) s₁) E s):
  wpAny (model prog w) A (raiseStmt env (some m) none) Q E s:=by
 unfold raiseStmt;refine wpAny_bind (wpAny_mono q (λv s₁ h₁=>?_) λ_ _ x=>x);obtain ⟨e,o,vs,C,bm,rfl,X,c,he,hc,hd,h1,hE⟩:=h₁;obtain ⟨nm,qn,N,bs,sn,sub,ab,col,dd,k0,k1,k2,k3,k5,lk⟩:=c.lk;have hC:=X _ _ lk;have z1:(Value.ref C::bm).contains (.type "BaseException")=true:=by rw[abb,c.hb,acn]
 obtain ⟨hp,g,d,tk,os⟩:=s₁;obtain ⟨oc,od,odt,osl⟩:=o;obtain rfl:oc=.ref C:=hc;obtain rfl:odt=.fields vs:=hd;dsimp only at X he hC hE;repeat (first | with_reducible refine wpAny_loadPart_at he ?_ | with_reducible refine wpAny_loadPart_at hC ?_ | (with_reducible refine wpAny_isSubtype_exc hC ?_;rw[z1]) | wp_step)
 rw[h1];refine wpAny_pure ?_;rw[if_neg (by decide)];exact wpAny_pure (wpAny_raiseNew_none hh hE)
theorem xmatch {s:Shared} {bC:List Value} {D:Addr} {Q:Bool→Shared→Prop} (X:K.In s.heap) (c:Xc K C bm) (cD:Xc K D bC) (hx:s.heap.get? x=some o) (hc:o.cls=.ref C) (q:Q ((Value.ref C::bm).contains (.ref D)) s):
  wpAny (model prog w) A (excMatches (.ref x) (.ref D)) Q E s:=by
 obtain ⟨nm,qn,N,bs,sn,sub,ab,col,dd,k0,k1,k2,k3,k5,lk⟩:=cD.lk;have hD:=X _ _ lk;have z1:(Value.ref D::bC).contains (.type "BaseException")=true:=by rw[abb,cD.hb,acn]
 have f:=tc_notTuple;obtain ⟨hp,g,d,tk,os⟩:=s;dsimp only at X hx hD q;have lx:=xtype (M:=model prog w) hx hc;have ls:=xsub (M:=model prog w) X c (.ref D);unfold excMatches;repeat (first | with_reducible refine wpAny_loadPart_at hD ?_ | (with_reducible refine wpAny_isSubtype_exc hD ?_;rw[z1]) | (with_reducible refine wpAny_loadPart_at hx ?_;rw[hc]) | wp_step)
 refine ls.here ?_;cases hb:(Value.ref C::bm).contains (.ref D) with
 | true=>
  rw[hb] at q;exact wpAny_pure (wpAny_pure (wpAny_pure q))
 | false=>
  rw[hb] at q;exact wpAny_pure (wpAny_pure (wpAny_pure q))
theorem Qb:W.specialIn K (.builtin "object.__class__") "__get__"=some (some (.builtin "getset_descriptor.__get__")):=by kernel_rfl
theorem Iu:W.takesIn K (.builtin "object.__class__")=some true:=by kernel_rfl
theorem xclass {od:Option Obj} {s:Shared} {Q:Option Value→Shared→Prop} (X:K.In s.heap) (c:Xc K C bm) (I:W.InstAt s.heap x o C od) (q:Q (some (.ref C)) { s with toks:=s.toks+1 }):wpAny (model prog w) A (getAttr? (.ref x) "__class__") Q E s:=by
 obtain ⟨nm,qn,N,bs,sn,sub,ab,col,dd,k0,k1,k2,k3,k5,lk⟩:=c.lk;have z1:(Value.ref C::bm).contains (.type "BaseException")=true:=by rw[abb,c.hb,acn]
 have z3:(Value.ref C::bm).contains (.type "object")=true:=by rw[abb,c.ho,acn]
 have J:W.Looks (model prog w) s.heap (isInstance (.ref x) (.type "BaseException")) true:=z1 ▸ xinst X c I.at_ I.cls (.type "BaseException");have z2:(Value.builtin "BaseException.__getattribute__"==Value.builtin "object.__getattribute__")=false:=by decide+kernel
 have hf:W.findObj K C od "__class__"=some (.bind (.builtin "getset_descriptor.__get__") (.builtin "object.__class__")):=by
  unfold W.findObj;rw[W.ja lk,acr,c.fc,acr];simp[Qb,Iu]
 have hm:W.mroIn K C (.type "object")=some true:=by
  unfold W.mroIn;rw[W.ja lk,acr,if_neg (by simp),z3]
 have L0:=I.type (M:=model prog w);have L1:=W.looks_find (M:=model prog w) X I hf;obtain ⟨hh,g,d,t,os⟩:=s;dsimp only at X L0 L1 J q;unfold getAttr? getAttrBy? getAttrBy;refine wpAny_bind (wpAny_mkText (wpAny_bind (wpAny_attempt (wpAny_holding (wpAny_bind (W.Looks.here (s:=⟨hh,g,d,t+1,os⟩) L0 (wpAny_bind (W.Looks.here (s:=⟨hh,g,d,t+1,os⟩) (W.looks_findIn X c.fg) ?_))))))));dsimp only;rw[z2,aea,if_neg (by decide)];unfold getAttrByItsOwn hookBefore;refine wpAny_bind ((W.Looks.here (s:=⟨hh,g,d,t+1,os⟩) (W.looks_findIn X c.fh) ?_));refine wpAny_bind (wpAny_attempt (wpAny_holding ?_));unfold callGetattribute boundAndCalled;rw[if_neg (by decide),PySem.F.attr_ValueError.ga.bind (.ref x)];refine wpAny_bind (wpAny_pure (wpAny_call (codeAny_call_builtin PySem.F.attr_ValueError.ga.plain PySem.F.entry_bexc_ga
  (@W.check_slot (model prog w) _ _ ⟨hh,g,d,t+1,os⟩ "BaseException.__getattribute__" "BaseException" "__getattribute__" (.ref x) [.str "__class__" t] [] _ (by decide+kernel) (by decide+kernel) J (PySem.F.args_bexc_ga (.ref x) (.str "__class__" t)) ?_))))
 unfold Builtin.«object.__getattribute__»;refine wpAny_bind (wpAny_pure ?_);dsimp only;refine wpAny_bind (wpAny_pure (wpAny_bind (W.Looks.here (s:=⟨hh,g,d,t+1,os⟩) L0 (wpAny_bind (W.Looks.here (s:=⟨hh,g,d,t+1,os⟩) L1 ?_)))));show wpAny _ _ (holding [.builtin "object.__class__"] (call (.builtin "getset_descriptor.__get__") [.builtin "object.__class__",.ref x,.ref C]) >>=ret) _ _ _
 refine wpAny_bind (wpAny_holding (wpAny_call (W.class_get (s:=⟨hh,g,d,t+1,os⟩) (ox:=o) (od:=od) X I hm ?_)));refine wpAny_pure (wpAny_pure (wpAny_pure q))
theorem xkit {od:Option Obj} (c:Xc K C bm):W.KitX K (.ref x) (.ref C) (λh=>W.InstAt h x o C od) where
 ty:=λ_ _ _ I=>I.type
 it:=λ_ _ X _=>by
  obtain ⟨nm,qn,N,bs,sn,sub,ab,col,dd,k0,k1,k2,k3,k5,lk⟩:=c.lk;intro A' Q' E' s' k q;unfold isType loadHead;exact wpAny_bind (wpAny_loadPart (k _ _ (X _ _ lk)) (wpAny_pure q))
 ne:=λh tp dd' its n sl X htp=>by
  obtain ⟨nm,qn,N,bs,sn,sub,ab,col,dd,k0,k1,k2,k3,k5,lk⟩:=c.lk;refine Bool.eq_false_iff.mpr λq=>?_;have e:C=tp:=Value.ref.inj (beq_iff_eq.mp q);subst e;have z:=congrArg (λo:Option Obj=>o.map (·.cls)) ((X _ _ lk).symm.trans htp);have z2:Value.type "type"=Value.type "tuple":=aa3 z;exact absurd z2 (by decide)
 ca:=λX I k=>xclass X c I k
theorem Hb {D:Addr} {bD:List Value} (c:Xc K C bm) (cD:Xc K D bD):W.kitOne K (.ref C) (.ref D)=some ((Value.ref C::bm).contains (.ref D)):=by
 obtain ⟨nm,qn,N,bs,sn,sub,ab,col,dd,k0,k1,k2,k3,k5,lk⟩:=c.lk;obtain ⟨nm',qn',N',bs',sn',Cf,ab',col',dd',k0',k1',k2',k3',k5',lk'⟩:=cD.lk;unfold W.kitOne;by_cases e:(Value.ref C==Value.ref D)=true
 ·rw[if_pos e,abb];rw[show (Value.ref D==Value.ref C)=true from by rw[beq_iff_eq] at e ⊢;exact e.symm];rfl
 ·rw[if_neg e];unfold W.kitCls;dsimp only;rw[if_pos (by rw[W.ja lk'];show (true&&((K.lookup D).map (·.cls))==some (Value.type "type"))=true;rw[lk'];rfl)];show W.mroIn K C (.ref D)=_
  unfold W.mroIn;rw[W.ja lk,acr,if_neg (by simp)]
theorem xkitTy {T:String} (c:Xc K C bm) (hT:W.kitMeta T=true):W.kitOne K (.ref C) (.type T)=some (bm.contains (.type T)):=by
 obtain ⟨nm,qn,N,bs,sn,sub,ab,col,dd,k0,k1,k2,k3,k5,lk⟩:=c.lk;unfold W.kitOne;rw[if_neg (by intro z;cases beq_iff_eq.mp z)];unfold W.kitCls;dsimp only;rw[if_pos hT];show W.mroIn K C (.type T)=_
 unfold W.mroIn;rw[W.ja lk,acr,if_neg (by simp),abb];rfl
end
end PySem
namespace PySem
open Sem (wp)
theorem jz {α:Type} {p q:α→Bool}:∀(l:List α) (i:Nat),l.findIdx? q=some i→(∀a∈l,q a=true→p a=false)→(l.eraseIdx i).find? p=l.find? p
 | [],i,h,_=>by simp at h
 | a::l,i,h,hq=>by
  rw[List.findIdx?_cons] at h;cases e:q a with
  | true=>
   rw[e] at h;have h':0=i:=by simpa using h
   subst h';rw[List.eraseIdx_cons_zero,abr,hq a aa9 e]
  | false=>
   rw[e] at h;simp only[aaz,if_false,Option.map_eq_some_iff] at h;obtain ⟨j,hj,rfl⟩:=h;rw[ae4,abr,abr,jz l j hj λb hb=>hq b (aaa _ hb)]
theorem Al {es:Array DictEntry} {name x:Str} {i:Nat} (hi:es.findIdx? (λe=>e.key.isStr name)=some i) (hx:x≠name):nsFind (es.eraseIdxIfInBounds i) x=nsFind es x:=by
 obtain ⟨l⟩:=es;simp only[nsFind,findBy,adb,List.find?_toArray,List.findIdx?_toArray] at hi ⊢;rw[jz l i hi λa _ ha=>?_];cases e:a.key.isStr x with
 | false=>rfl
 | true=>exact absurd (Value.isStr_inj _ _ _ e ha) hx
section
variable {M:Model} {A:Around} {E:Value→Shared→Prop} {s:Shared} {env:Env}
theorem Ca {a:Addr} {m:Str→Option Value} {name:Str} {v:Value} {Q:Bool→Shared→Prop} (hn:s.heap.Ns a m) (hv:m name=some v)
  (hQ:∀h' m',h'.Ns a m'→(∀y,y≠name→m' y=m y)→Heap.SameBut a s.heap h'→Q true { s with heap:=h' }):wpAny M A (nsDel a name) Q E s:=by
 obtain ⟨o,es,ep,ho,hd,hk,hm⟩:=id hn;have hs:es.any (·.key.isStr name)=true:=by
  have z:=hm name;rw[hv] at z;unfold nsFind findBy at z;obtain ⟨en,h1,_⟩:=Option.map_eq_some_iff.mp z;have h2:=Array.find?_some h1;obtain ⟨j,hj,e⟩:=Array.mem_iff_getElem.mp (Array.mem_of_find?_eq_some h1);exact Array.any_eq_true.mpr ⟨j,hj,by rw[e];exact h2⟩
 have hhas:nsHas name o=pure true:=by
  rw[nsHas_eq];unfold nsHasByArray;rw[hd];dsimp only;rw[if_pos hs]
 unfold nsDel;refine wpAny_bind (wpAny_loadPart ho ?_);rw[hhas];refine wpAny_bind (wpAny_pure ?_);rw[if_pos rfl];refine wpAny_bind (wpAny_updatePart ho (wpAny_pure ?_));obtain ⟨cl,d,dt,sl⟩:=o;subst hd;cases hi:es.findIdx? (·.key.isStr name) with
 | none=>
  exfalso
  obtain ⟨j,hj,hp⟩:=Array.any_eq_true.mp hs;have:=(Array.findIdx?_eq_none_iff.mp hi) es[j] (Array.getElem_mem hj);simp[hp] at this
 | some i=>
  refine hQ _ (nsFind (es.eraseIdxIfInBounds i)) ⟨_,_,ep+1,Heap.get?_update_self _ ho (by simp only[Obj.dropName_eq,Obj.dropNameByArray,hi] <;> rfl),(by simp only[Obj.dropName_eq,Obj.dropNameByArray,hi] <;> rfl),hk.erase i,λ_=>rfl⟩ (λy hy=>?_) (Heap.SameBut.update ..);rw[Al hi hy];exact hm y
theorem K4 {n:Str} {pos:Pos} {m:Str→Option Value} {Q:Unit→Shared→Prop} (hl:env.kindOf n=some .local) (hn:s.heap.Ns env.locals m)
  (hp:(env.scope.kind==.class||(env.scope.kind==.module&&env.locals !=env.globals))=false)
  (h:∀h' m',h'.Ns env.locals m'→(∀y,y≠n→m' y=m y)→Heap.SameBut env.locals s.heap h'→Q () { s with heap:=h',toks:=s.toks+1 }):
  wpAny M A (do bindName env n .none;unbindBehindTheSuite env n pos) Q E s:=by
 refine wpAny_bind (wpAny_bindName (wpAny_storeName_local hl hn (λh1 hn1 hs1=>?_) hp));unfold unbindBehindTheSuite;refine wpAny_onRaise ?_;unfold unbindName;refine wpAny_bind (wpAny_point (wpAny_bind ?_));unfold deleteName;simp only[hl,hp];rw[if_neg (by decide)];refine wpAny_bind (Ca (v:=Value.none) hn1 (by simp) λh2 m2 hn2 ho2 hs2=>?_);simp only[Bool.not_true,aaz,if_false];exact wpAny_pure (wpAny_point (h h2 m2 hn2 (λy hy=>by rw[ho2 y hy];simp[hy]) (hs1.trans hs2)))
end
end PySem
namespace L2
open PySem PySem.Spec PyProof.Rows
section
variable {X:Cx} {pins:List (Addr×Obj)} {σ:St} {H:Hp} {s:Shared} {n:Nat} {a:Addr}
theorem Inv.track {o:HO} (I:Inv X pins σ H s) (B:Bnd X pins n) (lo:n≤a) (un:H a=none) (ob:bp X.prog X.w (upd H a o) s.heap a o):Inv X pins σ (upd H a o) s:=by
 obtain ⟨h,g,d,t,os⟩:=s;have nn:∀b u,H b=some u→b≠a:=λb u e=>ah e un;refine I.step (h':=h) (H':=upd H a o) (g':=g) (t':=t) (d':=d) (ch:=[a]) (λb hb=>?_) (λb u _ _ _ e _=>e) (λb u _ _ _ e _=>⟨u.slots,e⟩) (λb u hb _ n=>?_) (λb u _ e=>⟨u,e⟩)
  (λb xs e=>by rw[af (nn b _ e)];exact e) (λb u v e=>by rw[af (nn b _ e)];exact e) (λb ps e=>⟨#[],by rw[af (nn b _ e),e];simp⟩) (λ_ m=>m) (λb u e=>?_) I.bare
 ·obtain rfl:b=a:=by simpa using hb
  exact ⟨.inr (aar B.1 lo),ab9 (aai B.2.1 lo),λx c e=>aam (aai (B.2.2.1 x c e) lo),λp hp=>aam (aai (B.2.2.2 p hp) lo)⟩
 ·rw[af (λz=>hb (by simp[z]))];exact n
 ·by_cases hb:b=a
  ·subst hb;rw[ae] at e;cases e
   exact ob
  ·rw[af hb] at e;exact (I.hok b u e).se (λ_ _ _ q=>q) (λc q=>by rw[af (nn c _ q)];exact q) λc xs q=>by rw[af (nn c _ q)];exact q
end
def Ag (C:Addr) (E:XK) (t:TA):TS:=λ_ σ H=>t σ H λvs H1=>vs.length≤100∧E (.ref C) none H1
section
variable {X:Cx} {E:XK} {k:Nat} {f C:Addr} {bm:List Value} {fd:FuncData} {ps:List Str} {sp:Sp} {x:Str} {p cpos pos:Pos} {e:Expr} {es:List Expr} {t:TA}
theorem yn (c:Xc X.K C bm) (hi:PySem.W.findIn X.K (.ref C) "__init__"=some (some (.builtin "ValueError.__init__"))) (hr:fj k X.A) (hm:X.mg x=some (.ref C)) (ha:PA (X.xp E) (e::es) t) (hg:Gl X x:=by rfl) (hdb:(x==("__debug__":Str))=false:=by decide+kernel)
  (he:starEach (e::es) X.env=(false,eval e X.env)::starEach es X.env:=by rfl) (hpl:(backTo cpos (starEach es X.env)).any (·.1)=false:=by rfl):
  PS (X.xp E) (.Raise (some (.Call (.Name x p) (e::es) [] cpos)) none pos) (Ag C E t):=by
 intro pins s σ H D I h;rw[arm_exec_Raise];refine wpAny_bind (wpAny_standAt (xraise (K:=X.K) hr.hd (wpAny_bind (wpAny_mono (wpAny_Call_Name_kw (oz I hg hm ?_ hdb)) (λv s₃ h₃=>wpAny_bind (wpAny_standAt (wpAny_pure h₃))) λ_ _ x=>x))));refine PySem.W.callWith_K (h₀:=X.base) I.ok.mod.kin c.kp (thn (ha cpos pins s σ H _ I h) λus s1 ⟨vs,H1,I1,r,hl,q⟩=>⟨I1.kIn,?_⟩) he hpl;have hl2:us.length≤sizeLine:=by
  rw[sizeLine_eq,←r.length];omega
 refine Kz I1.kIn c hi (λself=>PySem.W.Looks.of_pure (PySem.F.excBase_ValueError.init.bind self)) hl2 ?_;obtain ⟨h1,g,d,tk,os⟩:=s1;have kk:∀b o,h1.get? b=some o→((h1.push { cls:=.type "tuple",data:=.seq us.toArray }).push { cls:=.ref C,data:=.fields #[.ref h1.objs.size,.none,.none,.none,.bool false,.none] }).get? b=some o:=
  λb o e=>Heap.get?_push_of_some _ (Heap.get?_push_of_some _ e)
 have sz:(h1.push { cls:=.type "tuple",data:=.seq us.toArray }).objs.size=h1.objs.size+1:=Heap.size_push ..;have g1:=Heap.get?_push_size (h1.push { cls:=.type "tuple",data:=.seq us.toArray }) (o:={ cls:=.ref C,data:=.fields #[.ref h1.objs.size,.none,.none,.none,.bool false,.none] }) rfl;rw[sz] at g1;refine wpAny_call (Hn (λb o e=>kk b o (I1.kIn b o e)) c g1 rfl rfl hl2 ⟨rfl,?_⟩);have g2:=Heap.get?_update_self (Obj.mapFields (·.setIfInBounds 0 (Value.ref ((h1.push { cls:=.type "tuple",data:=.seq us.toArray }).push { cls:=.ref C,data:=.fields #[.ref h1.objs.size,.none,.none,.none,.bool false,.none] }).objs.size)))
  (Heap.get?_push_of_some { cls:=.type "tuple",data:=.seq us.toArray } g1) rfl
 have k3:∀b o,h1.get? b=some o→((((h1.push { cls:=.type "tuple",data:=.seq us.toArray }).push { cls:=.ref C,data:=.fields #[.ref h1.objs.size,.none,.none,.none,.bool false,.none] }).push { cls:=.type "tuple",data:=.seq us.toArray }).update (h1.objs.size+1)
   (Obj.mapFields (·.setIfInBounds 0 (Value.ref ((h1.push { cls:=.type "tuple",data:=.seq us.toArray }).push { cls:=.ref C,data:=.fields #[.ref h1.objs.size,.none,.none,.none,.bool false,.none] }).objs.size)))).get? b=some o:=λb o e=>
  (Heap.get?_update_other _ _ (ab9 (ach (Heap.lt_size e)))).trans (Heap.get?_push_of_some _ (kk b o e))
 have I3:=I1.kept (t':=tk) k3;exact ⟨_,_,_,C,bm,rfl,I3.kIn,c,g2,rfl,rfl,rfl,pins,σ,H1,h1.objs.size,_,.ref C,none,rfl,I3.dh,I1.dh.bnd,⟨ad5 _,I1.hok.fresh (ad5 _),_,_,g2,rfl,rfl,rfl,(by show 1 < 6;decide),.inl rfl⟩,q⟩
end
def XIs (K:PySem.W.Frag) (H:Hp) (x:V) (C:Addr) (bm:List Value):Prop:=Xc K C bm∧∃a dx nw,x=.ref a∧H a=some (XO a C dx nw)∧(dx=none∨∃d fs,dx=some d∧H d=some (XD d fs))
section
variable {X:Cx} {pins:List (Addr×Obj)} {σ:St} {H:Hp} {s:Shared}
theorem wu {a C:Addr} {dx:Option Addr} {nw:Bool} (I:Inv X pins σ H s) (ea:H a=some (XO a C dx nw)) (ed:dx=none∨∃d fs,dx=some d∧H d=some (XD d fs)):∃o od,PySem.W.InstAt s.heap a o C od:=by
 obtain ⟨o,vv,g1,g2,g3,g4,g5⟩:=XO.get I.hok ea;have no:PySem.W.notCls o=true:=by unfold PySem.W.notCls;rw[g4]
 rcases ed with rfl | ⟨d,fs,rfl,e⟩
 ·exact ⟨o,none,g1,g2,no,by rw[g3];exact True.intro⟩
 ·obtain ⟨mA,⟨od,_,_,n1,_⟩,_⟩:=XD.get I.hok e;exact ⟨o,some od,g1,g2,no,by rw[g3];exact n1⟩
end
section
variable {X:Cx}
theorem zf:gd X (.builtin "isinstance") (λxs H Q=>∃x C bm D bD,xs=[x,.ref D]∧XIs X.K H x C bm∧Xc X.K D bD∧Q (.bl ((Value.ref C::bm).contains (.ref D))) H):=by
 intro pins s σ H xs us Q I r h;obtain ⟨x,C,bm,D,bD,rfl,⟨c,a,dx,nw,rfl,ea,ed⟩,cD,q⟩:=h;obtain ⟨u,u2,rfl,rx,r2⟩:=vals2 r;cases (show u=Value.ref a from rx)
 cases (show u2=Value.ref D from r2)
 obtain ⟨o,od,J⟩:=wu I ea ed;exact PySem.W.kia_one (xkit c) I.kIn J (Hb c cD) (λz=>nomatch z) λtk=>⟨.bl _,H,I.tok tk,rfl,q⟩
theorem Av:gd X (.builtin "isinstance") (λxs H Q=>∃x C bm n,xs=[x,.ty n]∧XIs X.K H x C bm∧PySem.W.kitMeta n=true∧Q (.bl (bm.contains (.type n))) H):=by
 intro pins s σ H xs us Q I r h;obtain ⟨x,C,bm,n,rfl,⟨c,a,dx,nw,rfl,ea,ed⟩,hn,q⟩:=h;obtain ⟨u,u2,rfl,rx,r2⟩:=vals2 r;cases (show u=Value.ref a from rx)
 cases (show u2=Value.type n from r2)
 obtain ⟨o,od,J⟩:=wu I ea ed;exact PySem.W.kia_one (xkit c) I.kIn J (xkitTy c hn) (λz=>nomatch z) λtk=>⟨.bl _,H,I.tok tk,rfl,q⟩
theorem xc:∀{cs:List Addr} {us:List Value},Vals (cs.map V.ref) us→us=cs.map Value.ref
 | [],_,.nil=>rfl
 | c::cs,_,.cons r t=>by
  rw[aau,xc t];cases r
  rfl
theorem za {K:PySem.W.Frag} {C:Addr} {bm:List Value} (c:Xc K C bm):∀{cs:List Addr},(∀D∈cs,∃bD,Xc K D bD)→PySem.W.kitAny K (.ref C) (cs.map Value.ref)=some (cs.any λD=>(Value.ref C::bm).contains (.ref D))
 | [],_=>rfl
 | D::cs,h=>by
  obtain ⟨bD,cD⟩:=h D aa9;rw[aau,PySem.W.kitAny,Hb c cD,acs,za c λD' h'=>h D' (aaa _ h')];cases (Value.ref C::bm).contains (.ref D) <;> rfl
theorem ui {K:PySem.W.Frag}:∀{cs:List Addr},(∀D∈cs,∃bD,Xc K D bD)→PySem.W.kitAny K (.type "NoneType") (cs.map Value.ref)=some false
 | [],_=>rfl
 | D::cs,h=>by
  obtain ⟨bD,cD⟩:=h D aa9;obtain ⟨nm',qn',N',bs',sn',Cf,ab',col',dd',k0',k1',k2',k3',k5',lk'⟩:=cD.lk;have e:PySem.W.kitOne K (.type "NoneType") (.ref D)=some false:=by
   unfold PySem.W.kitOne;rw[if_neg (by intro z;cases beq_iff_eq.mp z)];unfold PySem.W.kitCls;dsimp only;rw[if_pos (by rw[PySem.W.ja lk'];show (true&&((K.lookup D).map (·.cls))==some (Value.type "type"))=true;rw[lk'];rfl)];show (fastBuiltinMro "NoneType").map (·.contains (Value.ref D))=some false
   rw[show fastBuiltinMro "NoneType"=some [Value.type "NoneType",Value.type "object"] from by kernel_rfl];rfl
  rw[aau,PySem.W.kitAny,e];exact ui λD' h'=>h D' (aaa _ h')
theorem Af:gd X (.builtin "isinstance") (λxs H Q=>∃(x:V) (p:Addr) (cs:List Addr) (b:Bool),xs=[x,.ref p]∧H p=some (.tup (cs.map V.ref))∧(∀D∈cs,∃bD,Xc X.K D bD)∧
  ((x=.non∧b=false)∨∃C bm,XIs X.K H x C bm∧b=cs.any λD=>(Value.ref C::bm).contains (.ref D))∧Q (.bl b) H):=by
 intro pins s σ H xs us Q I r h;obtain ⟨x,p,cs,b,rfl,hp,hcs,hx,q⟩:=h;obtain ⟨u,u2,rfl,rx,r2⟩:=vals2 r;cases (show u2=Value.ref p from r2)
 obtain ⟨_,its,ri,o,h1,h2,k,h3,h4⟩:=(show bp X.prog X.w H s.heap p (.tup (cs.map V.ref)) from I.hok p _ hp);obtain rfl:=xc ri;obtain ⟨cls,dd,data,sl⟩:=o;cases (show cls=.type "tuple" from h2)
 cases (show data=.seq (cs.map Value.ref).toArray k from h3)
 have fin:∀tk:Nat,∃y H',Inv X pins σ H' { s with toks:=tk }∧RelV y (Value.bool b)∧Q y H':=λtk=>⟨.bl b,H,I.tok tk,rfl,q⟩;rcases hx with ⟨rfl,rfl⟩ | ⟨C,bm,⟨c,a,dx,nw,rfl,ea,ed⟩,rfl⟩
 ·cases (show u=Value.none from rx)
  exact PySem.W.kia_tup PySem.W.kitx_none I.kIn True.intro h1 (ui hcs) (λz=>nomatch z) fin
 ·cases (show u=Value.ref a from rx)
  obtain ⟨o',od,J⟩:=wu I ea ed;exact PySem.W.kia_tup (xkit c) I.kIn J h1 (za c hcs) (λz=>nomatch z) fin
end
def XF (X:Cx) (pins:List (Addr×Obj)) (σ:St) (E:XK):Value→Shared→Prop:=λe s'=>∃H' n a cls dx,e=.ref a∧Inv X pins σ H' s'∧Bnd X pins n∧Fly n H' s'.heap a cls dx∧E cls dx H'
abbrev TX:=Ends→XK→St→Hp→Prop
def PXS (X:Cx) (st:List Stmt) (t:TX):Prop:=
 ∀(pins:List (Addr×Obj)) (s:Shared) (σ:St) (H:Hp) (D:Ends) (E:XK),Inv X pins σ H s→t D E σ H→wpAny (model X.prog X.w) X.A (execs st X.env) (SP X pins D) (XF X pins σ E) s
noncomputable def Ll (sp:Sp) (t:TA):TX:=λD E σ H=>t σ H λvs H1=>sp vs H1 (λ_ H2=>D.nx σ H2) E
section
variable {X:Cx} {k:Nat} {ps:List Str} {sp:Sp} {x:Str} {p pos epos:Pos} {e:Expr} {es:List Expr} {t:TA}
theorem Oa (h:m7 X.prog X.w X.K X.mg X.base k x ps sp) (hr:fj k X.A) (ha:PA X.nox (e::es) t) (hg:Gl X x) (hdb:(x==("__debug__":Str))=false)
  (he:starEach (e::es) X.env=(false,eval e X.env)::starEach es X.env) (hpl:(backTo pos (starEach es X.env)).any (·.1)=false)
  {pins:List (Addr×Obj)} {s:Shared} {σ:St} {H:Hp} {Q:VK} {E:XK} (I:Inv X pins σ H s) (w:t σ H λvs H1=>sp vs H1 Q E):
  wpAny (model X.prog X.w) X.A (eval (.Call (.Name x p) (e::es) [] pos) X.env) (EP X pins σ Q) (XF X pins σ E) s:=by
 obtain ⟨f,fd,F,b,kp,m⟩:=h;refine wpAny_Call_Name_kw (oz I hg m ?_ hdb);refine PySem.W.callWith_K (h₀:=X.base) I.ok.mod.kin kp (wpAny_mono (ha pos pins s σ H _ (I.n0 _) w) (λus s1 ⟨vs,H1,I1',r,q⟩=>?_) λ_ _ z=>False.elim z) he hpl;have I1:=I1'.dh;refine ⟨I1.kIn,?_⟩;have hl:us.length=ps.length:=by rw[←r.length];exact F.len _ _ _ _ q
 refine wpAny_call (codeAny_mono (F.run X.A X.stack s1 H1 ⟨us,[]⟩ us vs Q E hr I1.iy (by have z:=b s1 us I1.kIn (by rw[aay];exact hl);rw[aay] at z;exact z) r q) λr s' hq=>?_);cases r with
 | error e=>
  obtain ⟨H',a,cls,dx,rfl,os,bare,un,hok,F',qE⟩:=hq;exact ⟨H',_,a,cls,dx,rfl,I1.Kb (ch:=[]) os un hok bare (λb z=>absurd z (by simp)),I1.bnd,F',qE⟩
 | ok fl=>
  cases fl with
  | ret u=>exact I1.after hq
  | next=>exact False.elim hq
  | brk=>exact False.elim hq
  | cont=>exact False.elim hq
theorem Ma (h:m7 X.prog X.w X.K X.mg X.base k x ps sp) (hr:fj k X.A) (ha:PA X.nox (e::es) t) (hg:Gl X x:=by rfl) (hdb:(x==("__debug__":Str))=false:=by decide+kernel)
  (he:starEach (e::es) X.env=(false,eval e X.env)::starEach es X.env:=by rfl) (hpl:(backTo pos (starEach es X.env)).any (·.1)=false:=by rfl) (hs:swapsWith (.Call (.Name x p) (e::es) [] pos) none epos.line X.env=pure false:=by rfl):
  PXS X [.Expr (.Call (.Name x p) (e::es) [] pos) epos] (Ll sp t):=by
 intro pins s σ H D E I w;refine wpAny_execs_cons (wpAny_Expr_any (thn (Oa h hr ha hg hdb he hpl I w) λv s1 ⟨y,H1,I1,r1,q1⟩=>?_) I.quiet hs);exact wpAny_execs_nil ⟨σ,H1,I1,q1⟩
end
section
variable {X:Cx} {pins:List (Addr×Obj)} {σ:St} {H:Hp} {s:Shared}
theorem Inv.locs {h':Heap} {m m':Str→Option Value} {t':Nat} (I:Inv X pins σ H s) (hl:∀(i:Nat) (x:Str) (v:V),X.N[i]?=some x→σ[i]?=some (some v)→Vis X.env.scope x→∃u,RelV v u∧Look X.env s.heap m x u)
  (hm:∀(i:Nat) (x:Str) (v:V),X.N[i]?=some x→σ[i]?=some (some v)→m' x=m x) (hn:h'.Ns X.env.locals m') (sb:Heap.SameBut X.env.locals s.heap h'):Inv X pins σ H { s with heap:=h',toks:=t' }:=by
 have neL:∀b o,X.s₀.heap.get? b=some o→b≠X.env.locals:=λb o e=>aam (aai (Heap.lt_size e) I.ok.above);have cl:∀y c v,X.env.cells.lookup y=some c→s.heap.IsCell c v→h'.IsCell c v:=λy c v e z=>z.sameBut sb (I.cne y c e);refine ⟨I.ok,I.os,I.bare,⟨λb o e n hb hx=>?_,λb o e n hb hx=>?_,I.base.free,λb o e hx=>?_,I.base.tups,I.base.frzs,I.base.tbls⟩,⟨m',hn,λi x v e1 e2 e3=>?_⟩,λy c e=>?_,I.free,I.freeC,λp hp=>?_,λb u e=>?_,I.len⟩
 ·exact (sb.2 b (neL b o e)).trans (I.base.keep b o e n hb hx)
 ·obtain ⟨sl,e1⟩:=I.base.slot b o e n hb hx;exact ⟨sl,(sb.2 b (neL b o e)).trans e1⟩
 ·obtain ⟨o',e1⟩:=I.base.there b o e hx;exact ⟨o',(sb.2 b (neL b o e)).trans e1⟩
 ·obtain ⟨u,r,l⟩:=hl i x v e1 e2 e3;refine ⟨u,r,?_⟩;rcases l with ⟨k,e⟩ | ⟨k,c,e,z⟩
  ·exact .inl ⟨k,by rw[hm i x v e1 e2];exact e⟩
  ·exact .inr ⟨k,c,e,cl x c _ e z⟩
 ·obtain ⟨v,z⟩:=I.cell y c e;exact ⟨v,cl y c v e z⟩
 ·obtain ⟨e,n,ne,nf,d⟩:=I.pin p hp;exact ⟨(sb.2 p.1 ne).trans e,n,ne,nf,d⟩
 ·refine (I.hok b u e).se (λc v hc q=>(sb.2 c ?_).trans q) (λ_ q=>q) λ_ _ q=>q;rintro rfl;rcases hc with rfl | hc
  ·rw[I.free] at e;cases e
  ·rw[I.free] at hc;cases hc
theorem Inv.gone {M:Model} {A:Around} {E:Value→Shared→Prop} {i:Nat} {n:Str} {pos:Pos} {Q:Unit→Shared→Prop} (I:Inv X pins σ H s) (hN:X.N.Nodup) (hi:X.N[i]?=some n) (hk:X.env.scope.names.lookup n=some .local)
  (q:∀s',Inv X pins (σ.set i none) H s'→Q () s'):wpAny M A (do bindName X.env n .none;unbindBehindTheSuite X.env n pos) Q E s:=by
 have hcls:(X.env.scope.kind==.class||(X.env.scope.kind==.module&&X.env.locals !=X.env.globals))=false:=by rw[I.ok.kind];rfl
 have hiσ:i < σ.length:=by rw[I.len];exact (List.getElem?_eq_some_iff.mp hi).1
 have wk:∀(j:Nat) v,(σ.set i none)[j]?=some (some v)→j≠i∧σ[j]?=some (some v):=λj v e=>by
  by_cases hj:j=i
  ·subst hj;rw[ad4 hiσ] at e;cases e
  ·rw[ade (Ne.symm hj)] at e;exact ⟨hj,e⟩
 have I1:Inv X pins (σ.set i none) H s:=I.weak (af4 ..) λj v e=>(wk j v e).2;obtain ⟨m,hn,hl⟩:=id I1.loc;refine K4 hk hn hcls λh' m' hn' ho sb=>q _ (I1.locs hl (λj x v e1 e2=>ho x λz=>?_) hn' sb);subst z;exact (wk j v e2).1 (vx hN e1 hi)
noncomputable abbrev Cx.inX (X:Cx) (a:Addr):Cx:={ X with A:=X.A.mark (some (.ref a)),calm:=false }
theorem Cx.Ok.inX {a:Addr} (ok:X.Ok):(X.inX a).Ok:=
 ⟨ok.mod,ok.kind,ok.glob,ok.blt,ok.above,ok.inj,ok.has,ok.cab,λz=>ae1 z,ok.frames,ok.stk,ok.exf,ok.bs,ok.bsz,ok.noex,ok.exfs,ok.ql,ok.frf⟩
theorem Inv.inX {a:Addr} (I:Inv X pins σ H s):Inv (X.inX a) pins σ H s:=⟨I.ok.inX,I.os,I.bare,I.base,I.loc,I.cell,I.free,I.freeC,I.pin,I.hok,I.len⟩
theorem Inv.outX {a:Addr} (ok:X.Ok) (I:Inv (X.inX a) pins σ H s):Inv X pins σ H s:=⟨ok,I.os,I.bare,I.base,I.loc,I.cell,I.free,I.freeC,I.pin,I.hok,I.len⟩
end
def tTry (K:PySem.W.Frag) (D:Addr) (ie:Nat) (tb:TX) (ts:TS):TS:=λDn σ H=>tb Dn (λcls dx H2=>∃C bm,cls=.ref C∧Xc K C bm∧(Value.ref C::bm).contains (.ref D)=true∧
 ∀a,H2 a=none→ts { nx:=λσ' H'=>Dn.nx (σ'.set ie none) H',rt:=Dn.rt,bk:=λσ' H'=>Dn.bk (σ'.set ie none) H',ct:=λσ' H'=>Dn.ct (σ'.set ie none) H' } (σ.set ie (some (.ref a))) (upd H2 a (XO a C dx false))) σ H
section
variable {X:Cx} {D:Addr} {bD:List Value} {ie:Nat} {n y:Str} {cp hpos tpos:Pos} {body suite:List Stmt} {b₀:Stmt} {tb:TX} {ts:TS}
theorem ps_try (S:Bg X) (hN:X.N.Nodup) (hi:X.N[ie]?=some n) (hk:X.env.scope.names.lookup n=some .local) (hf:X.fn n=true) (cD:Xc X.K D bD) (hm:X.mg y=some (.ref D)) (hb:PXS X body tb) (hs:∀a,PSs (X.inX a).nox (b₀::suite) ts)
  (hg:Gl X y:=by rfl) (hdb:(y==("__debug__":Str))=false:=by decide+kernel):PS X (.Try body [.ExceptHandler (some (.Name y cp)) (some n) (b₀::suite) hpos] [] [] tpos) (tTry X.K D ie tb ts):=by
 intro pins s σ H Dn I h;refine wpAny_Try_except (wpAny_mono (hb pins s σ H _ _ I h) (λf s1 q=>?_) λe s1 z=>?_)
 ·cases f with
  | next=>exact wpAny_execs_nil q
  | ret v=>exact q
  | brk=>exact q
  | cont=>exact q
 ·obtain ⟨H1,nn,a,cls,dx,rfl,I1,B,F,C,bm,rfl,c,hc,q⟩:=z;refine E4 I1 B F S rfl rfl λh2 I2 F2=>?_;refine ic I2 B F2 λh3 I3 F3=>?_;have I3':Inv (X.inX a) pins σ H1 { s1 with heap:=h3 }:=I3.inX;refine wpAny_handleBy_cons (codeAny_handlers_test (oz I3' hg hm ?_ hdb)) (by intro q;cases q);obtain ⟨oe,vs,f1,f2,f3,f4,f5,T,oT,ts',k1,k2,k3,k4,k5,k6,k7⟩:=F3.ob;refine xmatch (K:=X.K) I3.kIn c cD f1 f2 ?_;rw[hc];refine codeAny_handlers_suite_as (ic I3 B F3 λh4 I4 F4=>?_);obtain ⟨oe,vs,f1,f2,f3,f4,f5,T,oT,ts',k1,k2,k3,k4,k5,k6,k7⟩:=F4.ob;have I5:=I4.track (o:=XO a C dx false) B F4.lo F4.un (XO.mk ⟨oe,vs,f1,f2,f3,f4,λz=>ae1 z⟩);refine ve I5 hN hi (.inl hk) (v:=.ref a) rfl (λs6 I6=>?_) (.inl hf);refine wpAny_mono (hs a pins s6 _ _ _ (I6.inX.n0 _) (q a F4.un)) (λf s7 w=>?_) λ_ _ z=>False.elim z;cases f with
  | next=>
   obtain ⟨σ7,H7,J,w⟩:=w;exact (J.dh.outX I6.ok).gone hN hi hk λs8 J8=>⟨_,H7,J8,w⟩
  | brk=>
   obtain ⟨σ7,H7,J,w⟩:=w;exact (J.dh.outX I6.ok).gone hN hi hk λs8 J8=>⟨_,H7,J8,w⟩
  | cont=>
   obtain ⟨σ7,H7,J,w⟩:=w;exact (J.dh.outX I6.ok).gone hN hi hk λs8 J8=>⟨_,H7,J8,w⟩
  | ret u=>
   obtain ⟨v,σ7,H7,J,r,w⟩:=w;exact (J.dh.outX I6.ok).gone hN hi hk λs8 J8=>⟨v,_,H7,J8,r,w⟩
end
section
variable {X:Cx} {E:XK} {k:Nat} {C:Addr} {bm:List Value} {ps:List Str} {sp:Sp} {x:Str} {p cpos pos:Pos} {e:Expr} {es:List Expr} {t:TA}
theorem G1 (h:m7 X.prog X.w X.K X.mg X.base k x ps sp) (hr:fj k X.A) (ha:PA X (e::es) t) (hg:Gl X x:=by rfl) (hdb:(x==("__debug__":Str))=false:=by decide+kernel)
  (he:starEach (e::es) X.env=(false,eval e X.env)::starEach es X.env:=by rfl) (hpl:(backTo pos (starEach es X.env)).any (·.1)=false:=by rfl):
  PE X (.Call (.Name x p) (e::es) [] pos) (Be sp [] E0 t):=by
 obtain ⟨f,fd,F,b,kp,m⟩:=h;refine Aq F hr hg m kp b .nil ?_ ha hdb he hpl;rintro pins σ H s e s' I ⟨H',a,cls,dx,rfl,os,bare,un,hok,F,q⟩;exact q.elim
end
end L2
namespace Pc
open PySem PySem.Spec L2 PyProof.Rows
structure Cl where
 cov:Addr
 noTerm:Addr
 noBox:Addr
 badCover:Addr
 noCover:Addr
 badRow:Addr
 noValue:Addr
 twice:Addr
 noName:Addr
 badShape:Addr
 badDeed:Addr
 unsound:Addr
noncomputable def Cl.all (c:Cl):List Addr:=[c.cov,c.noTerm,c.noBox,c.badCover,c.noCover,c.badRow,c.noValue,c.twice,c.noName,c.badShape,c.badDeed,c.unsound]
noncomputable abbrev vbm:List Value:=[.type "ValueError",.type "Exception",.type "BaseException",.type "object"]
noncomputable abbrev cbm (c:Cl):List Value:=.ref c.cov::vbm
structure Errs (K:PySem.W.Frag) (mg:Str→Option Value) (c:Cl):Prop where
 nd:c.all.Nodup
 m_cov:mg "CoverError"=some (.ref c.cov)
 m_noTerm:mg "NoTerm"=some (.ref c.noTerm)
 m_noBox:mg "NoBox"=some (.ref c.noBox)
 m_badCover:mg "BadCover"=some (.ref c.badCover)
 m_noCover:mg "NoCover"=some (.ref c.noCover)
 m_badRow:mg "BadRow"=some (.ref c.badRow)
 m_noValue:mg "NoValue"=some (.ref c.noValue)
 m_twice:mg "Twice"=some (.ref c.twice)
 m_noName:mg "NoName"=some (.ref c.noName)
 m_badShape:mg "BadShape"=some (.ref c.badShape)
 m_badDeed:mg "BadDeed"=some (.ref c.badDeed)
 m_unsound:mg "Unsound"=some (.ref c.unsound)
 x_cov:Xc K c.cov vbm
 x_noTerm:Xc K c.noTerm (cbm c)
 x_noBox:Xc K c.noBox (cbm c)
 x_badCover:Xc K c.badCover (cbm c)
 x_noCover:Xc K c.noCover (cbm c)
 x_badRow:Xc K c.badRow (cbm c)
 x_noValue:Xc K c.noValue (cbm c)
 x_twice:Xc K c.twice (cbm c)
 x_noName:Xc K c.noName (cbm c)
 x_badShape:Xc K c.badShape (cbm c)
 x_badDeed:Xc K c.badDeed (cbm c)
 x_unsound:Xc K c.unsound (cbm c)
 r_cov:PySem.W.readsIn K c.cov (.type "type")=true
 t_cov:PySem.W.typeIn K (.ref c.cov)=some (.type "type")
 f_cov:PySem.W.findCls K (.ref c.cov) (.type "type") "__init__"=some (.val (.builtin "ValueError.__init__"))
theorem Xc.mk' {K:PySem.W.Frag} {C:Addr} {bm:List Value} {nm q:Str} {N:Addr} {bs:List Value} {sn:List Str} {sub:List Value} {ab:Bool} {col:Option Bool} {dd:Option Addr} {k0 k1 k2 k3 k5:Option Value}
  (lk:K.lookup C=some (excClassObj nm q C N bs bm true sn sub ab col dd k0 k1 k2 k3 k5 "ValueError.__new__")) (kp:PySem.W.keepIn K (.ref C)=true) (fs:PySem.W.findIn K (.ref C) "__setattr__"=some (some (.builtin "object.__setattr__")))
  (fg:PySem.W.findIn K (.ref C) "__getattribute__"=some (some (.builtin "BaseException.__getattribute__"))) (fh:PySem.W.findIn K (.ref C) "__getattr__"=some none) (fc:PySem.W.findIn K (.ref C) "__class__"=some (some (.builtin "object.__class__")))
  (hb:bm=vbm∨∃D,bm=.ref D::vbm):Xc K C bm where
 lk:=⟨_,_,_,_,_,_,_,_,_,_,_,_,_,_,lk⟩
 hv:=by rcases hb with rfl | ⟨D,rfl⟩ <;> rfl
 hb:=by rcases hb with rfl | ⟨D,rfl⟩ <;> rfl
 ha:=by rcases hb with rfl | ⟨D,rfl⟩ <;> rfl
 hn:=by rcases hb with rfl | ⟨D,rfl⟩ <;> rfl
 ho:=by rcases hb with rfl | ⟨D,rfl⟩ <;> rfl
 kp:=kp
 sa:=λself=>by
  rcases hb with rfl | ⟨D,rfl⟩
  ·exact PySem.F.store_ValueError.passes self
  ·rw[refuseLoop_ref];exact PySem.F.store_ValueError.passes self
 fs:=fs
 fg:=fg
 fh:=fh
 fc:=fc
theorem isC {c:Cl} {C D:Addr}:(Value.ref C::cbm c).contains (.ref D)=(decide (D=C)||decide (D=c.cov)):=by
 rw[abb,abb];have e1:(Value.ref D==Value.ref C)=decide (D=C):=by
  by_cases h:D=C
  ·rw[h,decide_eq_true rfl];simp
  ·rw[decide_eq_false h];exact Bool.eq_false_iff.mpr λz=>h (Value.ref.inj (beq_iff_eq.mp z))
 have e2:(Value.ref D==Value.ref c.cov)=decide (D=c.cov):=by
  by_cases h:D=c.cov
  ·rw[h,decide_eq_true rfl];simp
  ·rw[decide_eq_false h];exact Bool.eq_false_iff.mpr λz=>h (Value.ref.inj (beq_iff_eq.mp z))
 have e3:(vbm.contains (Value.ref D))=false:=rfl;rw[e1,e2,e3,adq]
theorem anyC {c:Cl} {C:Addr} {cs:List Addr} (h:∀D∈cs,D≠C∧D≠c.cov):(cs.any λD=>(Value.ref C::cbm c).contains (.ref D))=false:=by
 rw[aet];intro D hD;rw[isC,decide_eq_false (h D hD).1,decide_eq_false (h D hD).2];decide
theorem Errs.ne {K:PySem.W.Frag} {mg:Str→Option Value} {κ:Cl} (er:Errs K mg κ) (i j:Nat) {C D:Addr} (hi:κ.all[i]?=some D) (hj:κ.all[j]?=some C) (hij:i≠j):D≠C:=λe=>by
 subst e;obtain ⟨h1,e1⟩:=List.getElem?_eq_some_iff.mp hi;obtain ⟨h2,e2⟩:=List.getElem?_eq_some_iff.mp hj;exact hij ((ad8 er.nd).mp (e1.trans e2.symm))
theorem An:bootBuiltins "ValueError"=some (.type "ValueError"):=by decide+kernel
end Pc
namespace Pc
open PySem PySem.Spec L2 PyProof.Rows Fm
noncomputable def prc (g:Ky→Option Int) (k:Ky):Nat:=((g k).getD 0).toNat
noncomputable def prs (g:Ky→Option Int) (ks:List Ky):Nat:=(ks.map (prc g)).sum
theorem vd (g:Ky→Option Int) (k:Ky) (ks:List Ky):prs g (k::ks)=prc g k+prs g ks:=by
 unfold prs;rw[aau,ad7]
theorem E1 (g:Ky→Option Int) (a b:List Ky):prs g (a++b)=prs g a+prs g b:=by
 unfold prs;rw[aa5,ae8]
def Prd (g:Ky→Option Int) (ks:List Ky):Prop:=∀k∈ks,∃v,g k=some v∧1≤v
theorem Bh {g:Ky→Option Int} (hpos:∀k v,g k=some v→1≤v):∀{hs:List Ky} {c v:Int},cost g c hs=some v→Prd g hs∧v=c+(prs g hs:Int)
 | [],c,v,h=>by
  have h:some c=some v:=h;have:=aa3 h;exact ⟨λk hk=>(aah hk).elim,by show v=c+((0:Nat):Int);omega⟩
 | k::hs,c,v,h=>by
  cases e:g k with
  | none=>rw[gk e] at h;cases h
  | some x=>
   rw[gb e] at h;obtain ⟨h1,h2⟩:=Bh hpos h;have hx:=hpos k x e;refine ⟨λk' hk'=>?_,?_⟩
   ·rcases List.mem_cons.mp hk' with rfl | hk'
    ·exact ⟨x,e,hx⟩
    ·exact h1 k' hk'
   ·rw[vd,h2];have:prc g k=x.toNat:=by unfold prc;rw[e];rfl
    rw[this];omega
noncomputable def pick (kinds:List Str) (rs:List Rl) (ws:List V) (g:Ky→Option Int) (k:Ky):Str:=(namesW (bj kinds rs ws k.1) g k.2 ((g k).getD 0)).headD ""
noncomputable def xq (kinds:List Str) (rs:List Rl) (ws:List V) (nm:Str) (p:Nat):List Ky:=match rs.find? (λr=>decide (r.name=nm)) with
 | some r=>match bz kinds ws r.shape p ⟨[],[],[]⟩ with
  | some u=>u.hs.zip (aq kinds r.shape)
  | none=>[]
 | none=>[]
theorem find_name {rs:List Rl} (nd:(rs.map (·.name)).Nodup):∀{i:Nat} {r:Rl},rs[i]?=some r→rs.find? (λx=>decide (x.name=r.name))=some r:=by
 induction rs with
 | nil=>intro i r h;simp at h
 | cons x rs ih=>
  intro i r h;have nd:(x.name::rs.map (·.name)).Nodup:=nd;obtain ⟨n1,n2⟩:=List.nodup_cons.mp nd;cases i with
  | zero=>
   cases h
   rw[List.find?_cons_of_pos (by simp)]
  | succ i=>
   have h:rs[i]?=some r:=h;have ne:¬x.name=r.name:=λe=>n1 (e ▸ List.mem_map.mpr ⟨r,aac h,rfl⟩);rw[List.find?_cons_of_neg (by simpa using ne)];exact ih n2 h
theorem tf {kinds:List Str} {rs:List Rl} {ws:List V} {g:Ky→Option Int} (bk:Bk kinds rs) (T:Tbl (dw kinds rs ws) g) {k:Ky} {v:Int} (h:g k=some v):
  ∃(i:Nat) (r:Rl) (u:Und),rs[i]?=some r∧r.name=pick kinds rs ws g k∧r.kind=k.2∧bz kinds ws r.shape k.1 ⟨[],[],[]⟩=some u∧xq kinds rs ws (pick kinds rs ws g k) k.1=u.hs.zip (aq kinds r.shape)∧Prd g (u.hs.zip (aq kinds r.shape))∧prs g (u.hs.zip (aq kinds r.shape))+1≤prc g k∧k.1 < ws.length:=by
 obtain ⟨ro,hro,h1,h2,h3⟩:=vo bk T h;obtain ⟨nm,hn⟩:=ml T hro;obtain ⟨m1,m2,m3⟩:=i5 hro;have ek:k=(ro.place,ro.kind):=by rw[h1,h2]
 have ep:pick kinds rs ws g k=nm:=by
  unfold pick;rw[ad2,ek];dsimp only;rw[m2];show (namesW (bj kinds rs ws ro.place) g ro.kind ro.price).head?.getD ""=nm
  rw[←m3,hn];rfl
 obtain ⟨i,r,u,r1,r2,r3,r4,r5⟩:=Kg bk hro (List.mem_of_head? hn);obtain ⟨c1,c2⟩:=Bh T.pos r5;have pr:=bk.pr r (aac r1);have r4':bz kinds ws r.shape k.1 ⟨[],[],[]⟩=some u:=by rw[←h1];exact r4
 refine ⟨i,r,u,r1,by rw[ep];exact r2,by rw[r3,h2],r4',?_,c1,?_,by rw[←h1];exact m1⟩
 ·rw[ep,←r2];unfold xq;rw[find_name bk.nd r1];dsimp only;rw[r4']
 ·have:prc g k=ro.price.toNat:=by unfold prc;rw[h,h3];rfl
  rw[this];omega
noncomputable def qa (kinds:List Str) (rs:List Rl) (ws:List V) (g:Ky→Option Int):Nat→List Ky→List Str
 | 0,_=>[]
 | _+1,[]=>[]
 | n+1,k::w=>pick kinds rs ws g k::qa kinds rs ws g n (xq kinds rs ws (pick kinds rs ws g k) k.1++w)
noncomputable def cov (kinds:List Str) (rs:List Rl) (ws:List V) (g:Ky→Option Int) (st:List Ky):List Str:=qa kinds rs ws g (prs g st) st
section
variable {kinds:List Str} {rs:List Rl} {ws:List V} {g:Ky→Option Int}
theorem Prd.step (bk:Bk kinds rs) (T:Tbl (dw kinds rs ws) g) {k:Ky} {w:List Ky} (h:Prd g (k::w)):Prd g (xq kinds rs ws (pick kinds rs ws g k) k.1++w)∧prs g (xq kinds rs ws (pick kinds rs ws g k) k.1++w)+1≤prs g (k::w):=by
 obtain ⟨v,hv,_⟩:=h k aa9;obtain ⟨i,r,u,_,_,_,_,e,c1,c2,_⟩:=tf bk T hv;rw[e];refine ⟨λk' hk'=>?_,?_⟩
 ·rcases List.mem_append.mp hk' with m | m
  ·exact c1 k' m
  ·exact h k' (aaa _ m)
 ·rw[E1,vd];omega
theorem sd (bk:Bk kinds rs) (T:Tbl (dw kinds rs ws) g):∀(n m:Nat) (st:List Ky),Prd g st→prs g st≤n→prs g st≤m→qa kinds rs ws g n st=qa kinds rs ws g m st
 | 0,0,_,_,_,_=>rfl
 | 0,_+1,[],_,_,_=>rfl
 | _+1,0,[],_,_,_=>rfl
 | _+1,_+1,[],_,_,_=>rfl
 | 0,_,k::w,h,h1,_=>by
  have:=(h.step bk T).2;omega
 | _+1,0,k::w,h,_,h2=>by
  have:=(h.step bk T).2;omega
 | n+1,m+1,k::w,h,h1,h2=>by
  obtain ⟨a,b⟩:=h.step bk T;show _::_=_::_
  rw[sd bk T n m _ a (by omega) (by omega)]
theorem Fg:cov kinds rs ws g []=[]:=by
 unfold cov;cases prs g ([]:List Ky) <;> rfl
theorem De (bk:Bk kinds rs) (T:Tbl (dw kinds rs ws) g) {k:Ky} {w:List Ky} (h:Prd g (k::w)):cov kinds rs ws g (k::w)=pick kinds rs ws g k::cov kinds rs ws g (xq kinds rs ws (pick kinds rs ws g k) k.1++w):=by
 obtain ⟨a,b⟩:=h.step bk T;unfold cov;obtain ⟨n,hn⟩:∃n,prs g (k::w)=n+1:=⟨prs g (k::w) - 1,by omega⟩;rw[hn];show _::_=_
 rw[sd bk T n _ _ a (by omega) (aa4 _)]
end
noncomputable def gx (r:Rw):List Key×V:=(kyK (je r),.str (r.names.headD ""))
theorem x5 {kinds:List Str} {rs:List Rl} {ws:List V} {g:Ky→Option Int} (bk:Bk kinds rs):(((rowsOf kinds rs ws g).map gx).map (·.1)).Nodup:=by
 have nd0:=(om bk.kn rs ws g ws.length).1;rw[ack];have e:((λp:List Key×V=>p.1) ∘ gx)=kyK ∘ je:=rfl;rw[e,←ack];exact i6 (λa b e=>il e) nd0
theorem Dl {kinds:List Str} {rs:List Rl} {ws:List V} {g:Ky→Option Int} (bk:Bk kinds rs) {i:Nat} {r:Rw} (h:(rowsOf kinds rs ws g)[i]?=some r):cj (((rowsOf kinds rs ws g).take i).map gx) (kyK (je r))=none:=by
 cases e:cj (((rowsOf kinds rs ws g).take i).map gx) (kyK (je r)) with
 | none=>rfl
 | some v=>
  have nd:=x5 (ws:=ws) (g:=g) bk;have hm:=sv e;have e2:((rowsOf kinds rs ws g).map gx).map (·.1)=(((rowsOf kinds rs ws g).take (i+1)).map gx).map (·.1)++(((rowsOf kinds rs ws g).drop (i+1)).map gx).map (·.1):=by
   rw[←aa5,←aa5,ac1]
  rw[e2,ab7,h,aa5,aa5] at nd;have nd:=(List.nodup_append.mp nd).1;exact absurd rfl ((List.nodup_append.mp nd).2.2 _ hm _ (by simp[gx]))
theorem Ow {kinds:List Str} {rs:List Rl} {ws:List V} {g:Ky→Option Int} (bk:Bk kinds rs) (T:Tbl (dw kinds rs ws) g) (k:Ky):cj ((rowsOf kinds rs ws g).map gx) (kyK k)=(g k).map λ_=>V.str (pick kinds rs ws g k):=by
 have nd:=x5 (ws:=ws) (g:=g) bk;cases e:g k with
 | some v=>
  obtain ⟨r,hr,h1,h2,h3⟩:=vo bk T e;obtain ⟨m1,m2,m3⟩:=i5 hr;have ek:k=(r.place,r.kind):=by rw[h1,h2]
  refine zu nd (List.mem_map.mpr ⟨r,hr,?_⟩);have ep:pick kinds rs ws g k=r.names.headD "":=by
   unfold pick;rw[ek];dsimp only;rw[m2];show (namesW (bj kinds rs ws r.place) g r.kind r.price).headD ""=_
   rw[←m3]
  rw[ep,ek];rfl
 | none=>
  cases e2:cj ((rowsOf kinds rs ws g).map gx) (kyK k) with
  | none=>rfl
  | some v=>
   obtain ⟨p,hp,ep⟩:=List.mem_map.mp (sv e2);obtain ⟨r,hr,rfl⟩:=List.mem_map.mp hp;have hk:je r=k:=il ep;have:=(i5 hr).2.1;rw[show (r.place,r.kind)=k from hk,e] at this;cases this
def m6 (H:Hp) (d:Addr) (kinds:List Str) (rs:List Rl) (ws:List V) (g:Ky→Option Int):Prop:=∃kvs:List (List Key×V),H d=some (.dT kvs)∧∀k,cj kvs (kyK k)=(g k).map λ_=>V.str (pick kinds rs ws g k)
theorem m6.same {H H':Hp} {d:Addr} {kinds:List Str} {rs:List Rl} {ws:List V} {g:Ky→Option Int} (h:m6 H d kinds rs ws g) (s:ak H H'):m6 H' d kinds rs ws g:=by
 obtain ⟨kvs,h1,h2⟩:=h;exact ⟨kvs,s _ _ h1,h2⟩
theorem m6.get {H:Hp} {d b:Addr} {kinds:List Str} {rs:List Rl} {ws:List V} {g:Ky→Option Int} (h:m6 H d kinds rs ws g) {k:Ky} (hb:H b=some (kyT k)):ib H d (.ref b) ((g k).map λ_=>V.str (pick kinds rs ws g k)):=by
 obtain ⟨kvs,h1,h2⟩:=h;rw[←h2 k];exact ib.t h1 hb
def zq (H:Hp) (t:Addr) (r:Rl) (u:Und):Prop:=∃ra ut:Addr,H t=some (.tup [.ref ra,.ref ut])∧dv H ra r∧uh H ut u
def KsAt (H:Hp) (l:Addr) (ks:List Ky):Prop:=∃as:List Addr,H l=some (.lst (as.map V.ref))∧as.length=ks.length∧∀(j:Nat) (k:Ky),ks[j]?=some k→∃a,as[j]?=some a∧H a=some (kyT k)
def zo:Sp:=λvs H Q _=>∃(b t:Addr) (kinds:List Str) (rs:List Rl) (r:Rl) (u:Und),vs=[.ref b,.ref t]∧br H b kinds rs∧Bk kinds rs∧r∈rs∧zq H t r u∧u.hs.length=(aq kinds r.shape).length∧∀(l:Addr) (H':Hp),ak H H'→H l=none→KsAt H' l (u.hs.zip (aq kinds r.shape)).reverse→Q (.ref l) H'
def sy:Sp:=λvs H Q _=>∃(b wt:Addr) (kinds:List Str) (rs:List Rl) (ws:List V),vs=[.ref b,.ref wt]∧br H b kinds rs∧H wt=some (.tup ws)∧Bk kinds rs∧Tw ws∧∀(d:Addr) (H':Hp) (g:Ky→Option Int),ak H H'→H d=none→Tbl (dw kinds rs ws) g→m6 H' d kinds rs ws g→Q (.ref d) H'
theorem Py {b wt:Addr} {kinds:List Str} {rs:List Rl} {ws:List V} {H:Hp} {Q:VK} {E:XK} (p0:br H b kinds rs) (p1:H wt=some (.tup ws)) (p2:Bk kinds rs) (p3:Tw ws) (p4:∀(d:Addr) (H':Hp) (g:Ky→Option Int),ak H H'→H d=none→Tbl (dw kinds rs ws) g→m6 H' d kinds rs ws g→Q (.ref d) H'):sy [.ref b,.ref wt] H Q E:=⟨b,wt,kinds,rs,ws,rfl,p0,p1,p2,p3,p4⟩
theorem mkLast {b t:Addr} {kinds:List Str} {rs:List Rl} {r:Rl} {u:Und} {H:Hp} {Q:VK} {E:XK} (p0:br H b kinds rs) (p1:Bk kinds rs) (p2:r∈rs) (p3:zq H t r u) (p4:u.hs.length=(aq kinds r.shape).length) (p5:∀(l:Addr) (H':Hp),ak H H'→H l=none→KsAt H' l (u.hs.zip (aq kinds r.shape)).reverse→Q (.ref l) H'):zo [.ref b,.ref t] H Q E:=⟨b,t,kinds,rs,r,u,rfl,p0,p1,p2,p3,p4,p5⟩
end Pc
namespace L2.Lrv
open PySem PySem.Spec PyProof.Rows PySem.W
theorem E6:typeLookup (.type "list_reverseiterator") "__len__"=pure none:=by rw[typeLookup_type,builtinLookup_eq_fast];kernel_rfl
theorem hint:typeLookup (.type "list_reverseiterator") "__length_hint__"=pure (some (.builtin "list_reverseiterator.__length_hint__")):=by rw[typeLookup_type,builtinLookup_eq_fast];kernel_rfl
section
variable {prog:Program} {w:World} {A:Around} {E:Value→Shared→Prop} {s:Shared} {r:Addr}
theorem Ks {Q:Bool→Shared→Prop} (hT:s.TypeIs (.ref r) "list_reverseiterator") (h:Q false s):wpAny (model prog w) A (Builtin.List.listLengthHint (.ref r)) Q E s:=by
 unfold Builtin.List.listLengthHint;refine wpAny_bind (wpAny_specialOf hT E6 ?_);show wpAny _ A (specialOf (Value.ref r) (Str.ofString "__length_hint__") >>=_) _ _ _
 refine wpAny_bind (wpAny_specialOf hT hint ?_);generalize hid:("list_reverseiterator.__length_hint__":String)=id0;wp_delta
 rw[show splitId id0=some ("list_reverseiterator","__length_hint__") from by subst hid;decide+kernel];subst hid;refine wpAny_bind (wpAny_isInstance (T:="list_reverseiterator") (b:=true) hT (by rw[isSubtype_type];kernel_rfl) ?_);refine wpAny_ite_split (λhab=>absurd hab (by decide)) (λ_=>?_);refine wpAny_ite_split (λ_=>?_) (λhab=>absurd (by decide+kernel) hab);refine wpAny_ite_split (λhab=>absurd hab (by decide+kernel)) (λ_=>?_);exact wpAny_pure h
theorem Dz {R:Result→Shared→Prop} {I l:Addr} {items:Array Value} (hh:A.handled=none) (hI:s.heap.IsRevIter I l ((items.size:Int) - 1)) (hl:s.heap.IsList l items) (hne:l≠I) (hn:items.size≤sizeLine) (S:Addr) (hSI:S≠I) (hSl:S≠l) (res:Value) (c₀:Nat) (hS:s.heap.get? S=some { cls:=.type "list",data:=.seq #[] c₀ })
  (hR:∀h' tk acc' c',(∀b o,b≠S→b≠I→s.heap.get? b=some o→h'.get? b=some o)→h'.get? S=some { cls:=.type "list",dict:=none,data:=.seq acc' c',slots:=#[] }→ItemsOf (λi v=>items[items.size - 1 - i]?=some v) acc' items.size→R (.ok (.ret res)) { s with heap:=h',toks:=tk }):
  wpAny (model prog w) A.in1 (Builtin.List.listExtendWith (.ref S) (.ref I) res)
   (λfin s'=>match fin with | .done f=>R (.ok f) s' | .again c'=>c'.quiet=true∧codeAny (model prog w) A c' R s') (λe s'=>R (.error e) s') s:=by
 have W:=Walks.listRev (prog:=prog) (w:=w) (A:=A.in1) hh I l hne items;have hSf:S∉[I,l]:=by simp only[aaq,aah,or_false,not_or];exact ⟨hSI,hSl⟩
 have key:∀(h:Heap) (c₁ tk:Nat),(0≤items.size∧h.IsRevIter I l ((items.size:Int) - 1 - ((0:Nat):Int))∧h.IsList l items)→(∀b o,b≠S→s.heap.get? b=some o→h.get? b=some o)→
   h.get? S=some { cls:=.type "list",data:=.seq #[] c₁ }→codeAny (model prog w) A (.builtin "list.extend.loop" ⟨[.ref S,.ref I,res],[]⟩) R { s with heap:=h,toks:=tk }:=by
  intro h c₁ tk hst hk hS₁;refine codeAny_extend_loopS W.toS hn S hSf res items.size 0 _ #[] c₁ rfl (aa7 _) hst hS₁ (ItemsOf.nil _) λs' acc' c' hm hS' hacc=>?_;rw[Moved.eq_with hm];refine hR s'.heap s'.toks acc' c' (λb o hb hbI e=>hm.heap b o (λhmem=>?_) (hk b o hb e)) hS' hacc;rcases List.mem_cons.mp hmem with e' | hmem
  ·exact hb e'
  ·exact hbI (List.mem_singleton.mp hmem)
 have hT:=hI.typeIs;unfold Builtin.List.listExtendWith;refine wpAny_bind (wpAny_typeOf (T:="list_reverseiterator") hT ?_);have h1:Builtin.List.listSameRef (.ref S) (.ref I)=false:=by simp[Builtin.List.listSameRef,hSI]
 have h2:(Value.type "list_reverseiterator"==Value.type "list")=false:=by decide
 have h3:(Value.type "list_reverseiterator"==Value.type "tuple")=false:=by decide
 simp only[h1,h2,h3,adq,aaz,if_false];refine wpAny_bind (wpAny_pyIter_revIter hI ?_);refine wpAny_bind (wpAny_holding (Ks hT ?_));refine wpAny_ite_split (λhab=>absurd hab (by decide)) (λ_=>wpAny_pure ⟨plainId_quiet PySem.F.plain_extend_loop _,key _ c₀ _ ⟨aa7 _,by rw[show (items.size:Int) - 1 - ((0:Nat):Int)=(items.size:Int) - 1 by omega];exact hI,hl⟩ (λb o _ e=>e) hS⟩)
theorem Ln {Q:Value→Shared→Prop} {I l:Addr} {items:Array Value} (hh:A.handled=none) (hI:s.heap.IsRevIter I l ((items.size:Int) - 1)) (hl:s.heap.IsList l items) (hne:l≠I) (hlI:I < s.heap.objs.size) (hll:l < s.heap.objs.size) (hn:items.size≤sizeLine)
  (hQ:∀h' tk acc c,(∀b o,b≠I→s.heap.get? b=some o→h'.get? b=some o)→h'.get? s.heap.objs.size=some { cls:=.type "list",dict:=none,data:=.seq acc c,slots:=#[] }→ItemsOf (λi v=>items[items.size - 1 - i]?=some v) acc items.size→Q (.ref s.heap.objs.size) { s with heap:=h',toks:=tk }):
  wpAny (model prog w) A (call (.type "list") [.ref I]) Q E s:=by
 refine callType_codes (Q₁:=λobj s₁=>obj=.ref s.heap.objs.size∧s₁={ s with heap:=s.heap.push { cls:=.type "list",data:=.seq #[] } }) PySem.F.called_list (PySem.F.typeCall_list_1 _) PySem.F.entry_list_init
  (code_list_new _ ⟨rfl,rfl⟩) λobj s₁ h₁=>?_
 obtain ⟨rfl,rfl⟩:=h₁;have hS:(s.heap.push { cls:=.type "list",data:=.seq #[] }).get? s.heap.objs.size=some { cls:=.type "list",data:=.seq #[] }:=Heap.get?_push_size _ rfl;refine ⟨⟨_,hS,rfl⟩,PySem.F.args_list_init_2 _ _,?_⟩;show wpAny _ _ (do let old ←Builtin.List.listItems (.ref s.heap.objs.size);Builtin.List.listUpdate (.ref s.heap.objs.size) (λ_=>#[]);letGo old.toList.reverse;Builtin.List.listExtendWith (.ref s.heap.objs.size) (.ref I) .none) _ _ _
 refine wpAny_bind ?_;unfold Builtin.List.listItems;refine wpAny_bind (wpAny_seqItems hS rfl (wpAny_pure ?_));show wpAny _ _ (updateSeq s.heap.objs.size (λ_=>#[]) >>=λ_=>letGo (#[]:Array Value).toList.reverse >>=λ_=>Builtin.List.listExtendWith (.ref s.heap.objs.size) (.ref I) .none) _ _ _
 refine wpAny_bind (wpAny_updateSeq hS rfl ?_);have hS₂:=Heap.get?_update_self (Obj.mapSeq (λ_=>(#[]:Array Value))) hS rfl;have oth:∀b o,b≠s.heap.objs.size→(s.heap.push { cls:=.type "list",data:=.seq #[] }).get? b=some o→((s.heap.push { cls:=.type "list",data:=.seq #[] }).update s.heap.objs.size (Obj.mapSeq (λ_=>(#[]:Array Value)))).get? b=some o:=λb o hb e=>(Heap.get?_update_other _ _ (Ne.symm hb)).trans e;refine wpAny_bind (wpAny_letGo ?_);have up:∀b o,b < s.heap.objs.size→s.heap.get? b=some o→((s.heap.push { cls:=.type "list",data:=.seq #[] }).update s.heap.objs.size (Obj.mapSeq (λ_=>(#[]:Array Value)))).get? b=some o:=λb o hb e=>oth b o (aam hb) (Heap.get?_push_of_some _ e);refine Dz (A:=A.in1) hh (hI.at λo e=>up I o hlI e) (hl.at λo e=>up l o hll e) hne hn s.heap.objs.size (ab9 hlI) (ab9 hll) .none _ hS₂ λh' tk acc c hk hS' hacc=>?_;exact ⟨rfl,hQ h' tk acc c (λb o hbI e=>hk b o (aam (Heap.lt_size e)) hbI (up b o (Heap.lt_size e) e)) hS' hacc⟩
end
end L2.Lrv
namespace L2
open PySem PySem.Spec PyProof.Rows
def tLR (K:PySem.W.Frag) (ta:TA):TE:=λσ H Q=>ta σ H λvs H1=>∃(l:Addr) (xs:List V),vs=[.ref l]∧SqL K H1 l xs∧∀p,H1 p=none→Q (.ref p) (upd H1 p (.lst xs.reverse))
section
variable {X:Cx}
theorem vn {a:Expr} {ta:TA} {p p2 pos pos2:Pos} (hc:X.calm=true) (hg:Gl X "list") (hm:X.mg "list"=none) (hg2:Gl X "reversed") (hm2:X.mg "reversed"=none) (ha:PA X [a] ta)
  (hs:starEach [.Call (.Name "reversed" p2) [a] [] pos2] X.env=[(false,eval (.Call (.Name "reversed" p2) [a] [] pos2) X.env)]:=by rfl) (hs2:starEach [a] X.env=[(false,eval a X.env)]:=by rfl):
  PE X (.Call (.Name "list" p) [.Call (.Name "reversed" p2) [a] [] pos2] [] pos) (tLR X.K ta):=by
 intro pins s σ H Q I h;refine wpAny_Call_Name_kw (ir I hg hm pw ?_);refine PyProof.Rows.callWith_type1 ?_ hs rfl;rw[hs];show wpAny _ _ (spliced ((false,eval _ X.env)::backTo pos [])) _ _ s
 refine Calls.spliced_cons ?_;refine wpAny_Call_Name_kw (ir I hg2 hm2 xb ?_);refine PyProof.Rows.callWith_type1 (thn (ha pos2 pins s σ H _ I h) λus s1 ⟨vs,H1,I1,r1,q1⟩=>?_) hs2 rfl;obtain ⟨l,xs,e,hq,q⟩:=q1;subst e;obtain ⟨u1,rfl,ru1⟩:=vals1 r1;cases ru1
 obtain ⟨its,rv,pl,hz⟩:=I1.list hq;have hlen:=rv.length;refine call_reversed_list pl.isList (Calls.spliced_nil ?_);have lt:l < s1.heap.objs.size:=by
  obtain ⟨o,ho,_⟩:=pl.isList;exact Heap.lt_size ho
 have hsz:(s1.heap.push (revObj l ((its.toArray.size:Int) - 1))).objs.size=s1.heap.objs.size+1:=Heap.size_push _ _;refine Lrv.Ln (s:={ s1 with heap:=s1.heap.push (revObj l ((its.toArray.size:Int) - 1)) }) (I:=s1.heap.objs.size) (l:=l) (items:=its.toArray) (I1.ok.hd hc) ⟨_,Heap.get?_push_size _ rfl,rfl,rfl⟩ (pl.isList.at λo e=>Heap.get?_push_of_some _ e) (aam lt) (by rw[hsz];exact ae2 _) (by rw[hsz];exact ach lt) (by rw[aa6,←hlen];exact hz) λh' tk acc c kp hL hacc=>?_;have k2:∀b o,s1.heap.get? b=some o→h'.get? b=some o:=λb o e=>kp b o (aam (Heap.lt_size e)) (Heap.get?_push_of_some _ e);have ea:acc.toList=its.reverse:=by
  apply aev
  intro j;have h1:acc.size=its.length:=by
   have h1:acc.size=its.toArray.size:=hacc.1;rw[h1,aa6]
  by_cases hj:j < its.length
  ·have hj2:j < acc.size:=by omega
   have g:its.toArray[its.toArray.size - 1 - j]?=some acc[j]:=hacc.2 j _ (abl hj2);rw[ad9,aa6] at g;rw[ac3 hj,g,aci,abl hj2]
  ·rw[abe (by rw[abt];omega),abe (by rw[aas];omega)]
 refine ⟨.ref _,_,I1.laid (t':=tk) k2 (show s1.heap.objs.size≤(s1.heap.push (revObj l ((its.toArray.size:Int) - 1))).objs.size by rw[hsz];exact ad5 _) (show bp X.prog X.w _ h' _ (.lst xs.reverse) from ⟨by rw[aas];exact hz,its.reverse,c,rv.reverse,by rw[←ea,aeh];exact hL⟩),rfl,q _ (I1.hok.fresh (by rw[hsz];exact ad5 _))⟩
end
section
open Builtin Builtin.Str
end
section
variable {X:Cx} {v o a:Expr} {tv to ta:TE} {p1 p2 pos apos cpos:Pos} {c y z:Str} {j j1 j2:Nat}
def tFmtR (tv:TE):TE:=λσ H Q=>tv σ H λx H1=>∃z,x=.str z∧(∀c∈z.cps.toList,c < 128)∧z.length≤1000000∧∀m,Q (.str m) H1
end
abbrev TF:=St→Hp→(Hp→Prop)→Prop
def PF (X:Cx) (es:List Expr) (n:Nat) (t:TF):Prop:=
 ∀(pins:List (Addr×Obj)) (s:Shared) (σ:St) (H:Hp) (Q:Hp→Prop) (acc:Str),Inv X pins σ H s→acc.length+n≤sizeLine→t σ H Q→
  Joins (model X.prog X.w) X.A X.xe (evalEach es X.env) acc (λout s1=>out.length≤sizeLine∧∃H1,Inv X pins σ H1 s1∧Q H1) s
noncomputable def tF0:TF:=λ_ H Q=>Q H
noncomputable def tFR (tv:TE) (t:TF):TF:=λσ H Q=>tv σ H λx H1=>∃z,x=.str z∧(∀c∈z.cps.toList,c < 128)∧z.length≤1000∧t σ H1 Q
noncomputable def tFI (tv:TE) (t:TF):TF:=λσ H Q=>tv σ H λx H1=>∃a,x=.int a∧a.natAbs.log2 < 1920∧t σ H1 Q
def tFmts (t:TF):TE:=λσ H Q=>t σ H λH1=>∀m,Q (.str m) H1
section
variable {X:Cx} {v e1 e2:Expr} {es:List Expr} {tv:TE} {t:TF} {p pos:Pos} {c:Str} {j n:Nat}
theorem pf_nil:PF X [] 0 tF0:=λpins s σ H Q acc I ha h=>⟨ha,H,I,h⟩
theorem pf_c (r:PF X es n t) (hc:c.length≤100:=by decide+kernel):PF X (.Constant (.str c) j p::es) (100+n) t:=λpins s σ H Q acc I ha h=>
 Calls.Constant_str ⟨c,_,rfl,by rw[strLen_append];omega,r pins _ σ H Q _ (I.tok _) (by rw[strLen_append];omega) h⟩
theorem pf_r (hv:PE X v tv) (r:PF X es n t):PF X (.FormattedValue v 114 none p::es) (20000+n) (tFR tv t):=λpins s σ H Q acc I ha h=>by
 refine wpAny_FormattedValue_repr (thn (hv pins s σ H _ I h) λu s1 ⟨x,H1,I1,r1,z,e,hz,hl,q⟩=>?_);subst e;obtain ⟨t,rfl⟩:=r1;have hl:=StrLaws.reprText_len z λc hc=>aen (hz c hc) (by decide);have sz:=sizeLine_eq;refine pyReprObj_str ?_ (by omega);exact formatField_str (λt' tk=>⟨_,t',rfl,by rw[strLen_append];omega,r pins _ σ H1 Q _ (I1.tok _) (by rw[strLen_append];omega) q⟩) (by omega)
theorem pf_i (hv:PE X v tv) (r:PF X es n t):PF X (.FormattedValue v (-1) none p::es) (2000+n) (tFI tv t):=λpins s σ H Q acc I ha h=>by
 refine wpAny_FormattedValue_plain (thn (hv pins s σ H _ I h) λu s1 ⟨x,H1,I1,r1,a,e,hl,q⟩=>?_);subst e;obtain ⟨t,rfl⟩:=r1;have hx:(Str.ofString (toString a)).length≤1921:=by rw[PySem.ofString_length];exact int_text_length_le (by decide) hl
 have sz:=sizeLine_eq;refine formatField_int_small hl ?_;exact ⟨_,_,rfl,by rw[strLen_append];show _+(Str.ofString (toString a)).length≤_;omega,r pins _ σ H1 Q _ (I1.tok _) (by rw[strLen_append];show _+(Str.ofString (toString a)).length+_≤_;omega) q⟩
theorem Of (h:PF X (e1::e2::es) n t) (hn:n≤1000000:=by decide):PE X (.JoinedStr (e1::e2::es) pos) (tFmts t):=by
 intro pins s σ H Q I hq;have sz:=sizeLine_eq;refine wpAny_JoinedStr ?_;have:=h pins s σ H _ Str.empty I (by show 0+n≤_;omega) hq;have mono:∀(xs:List (Sem Value)) (acc:Str) (Q Q':Str→Shared→Prop) (s:Shared),(∀o s,Q o s→Q' o s)→Joins (model X.prog X.w) X.A X.xe xs acc Q s→Joins (model X.prog X.w) X.A X.xe xs acc Q' s:=by
  intro xs;induction xs with
  | nil=>intro acc Q Q' s hQ h;exact hQ _ _ h
  | cons x r ih=>intro acc Q Q' s hQ h;exact thn h λu s1 ⟨y,t,e,hl,hj⟩=>⟨y,t,e,hl,ih _ _ _ _ hQ hj⟩
 exact mono _ _ _ _ _ (λo s1 ⟨hl,H1,I1,q⟩=>⟨hl,.str o,H1,I1.tok _,⟨_,rfl⟩,q o⟩) this
end
section
variable {X:Cx}
def wz (K:PySem.W.Frag) (neg:Bool):R2:=λx y H Q=>∃a b xs,x=.ref a∧y=.ref b∧SqL K H a xs∧SqL K H b []∧Q (.bl (if neg then !xs.isEmpty else xs.isEmpty)) H
theorem Nj (hu:X.A.units < cLine):OpR X (compareOp .NotEq) (wz X.K true):=by
 intro pins s σ H x y v u Q I rx ry h;obtain ⟨a,b,xs,rfl,rfl,ha,hb,q⟩:=h;cases rx
 cases ry
 obtain ⟨its,r1,p1,_⟩:=I.list ha;obtain ⟨its2,r2,p2,_⟩:=I.list hb;have l1:=r1.length;have l2:0=its2.length:=r2.length;by_cases hl:xs.length=0
 ·have e1:its.toArray.size=0:=by rw[aa6,←l1,hl]
  refine SeqAt.RcNeAt.lists (e:=λ_=>true) p1.isList p2.isList (by rw[aa6,aa6,←l1,←l2,hl]) hu (λj h1 h2=>absurd h1 (by rw[e1];exact ac2 _)) _ _ _ _ ?_;refine bq I q ?_;rw[e1,List.length_eq_zero_iff.mp hl];rfl
 ·refine SeqAt.RcNeAt.lists_lengths p1.isList p2.isList (by rw[aa6,aa6,←l1,←l2];simpa using hl) hu _ _ _ _ ?_;refine bq I q ?_;cases xs with
  | nil=>exact absurd rfl hl
  | cons _ _=>rfl
end
end L2
namespace Pc
open PySem PySem.Spec L2 PyProof.Rows Fm
theorem Fx {kinds:List Str} {ws:List V} (hk:Kinds kinds) (hw:∀v∈ws,isW v):∀(sh:List V) (p:Nat) (u u':Und) (d m:Nat),(∀v∈sh,isW v)→pend d (sh.map arV)=some 0→eat d ((ws.drop p).map arV)=some m→(∀h∈u.hs,h < ws.length)→bz kinds ws sh p u=some u'→∀h∈u'.hs,h < ws.length
 | [],p,u,u',d,m,_,_,_,hu,h=>by
  have h:some u=some u':=h;cases h
  exact hu
 | v::r,p,u,u',0,m,_,hp,_,_,_=>nomatch hp
 | v::r,p,u,u',d+1,m,hs,hp,he,hu,h=>by
  have hpl:p < ws.length:=by
   rcases aer p ws.length with g | g
   ·exact g
   ·rw[abz g] at he;cases he
  have hx:ws[p]?=some ws[p]:=aa1 hpl;rw[fw] at h;have eg:ws.getD p .non=ws[p]:=by rw[aad,hx];rfl
  rw[eg] at h;by_cases c:lies (bu kinds v) v ws[p]=true
  ·rw[if_pos c] at h;obtain ⟨d',m',h1,h2⟩:=gm hk (hs v aa9) hx (hw _ (ab3 hpl)) hp he c;refine Fx hk hw r _ _ u' d' m' (λx hx=>hs x (aaa _ hx)) h1 h2 (λy hy=>?_) h;unfold Und.put at hy;split at hy
   ·rcases List.mem_append.mp hy with z | z
    ·exact hu y z
    ·rw[List.mem_singleton.mp z];exact hpl
   ·split at hy
    ·exact hu y hy
    ·split at hy
     ·exact hu y hy
     ·exact hu y hy
  ·rw[if_neg c] at h;cases h
noncomputable def jv (kinds:List Str) (rs:List Rl) (ws:List V) (nm kd:Str) (p:Nat):Option (Rl×Und):=
 match rs.find? (λr=>decide (r.name=nm)) with
 | some r=>if r.kind=kd then (bz kinds ws r.shape p ⟨[],[],[]⟩).map (λu=>(r,u)) else none
 | none=>none
theorem Jq {K:PySem.W.Frag} {H:Hp} {a b:Addr} {xs:List V} {neg:Bool} {Q:VK} (h1:H a=some (.lst xs)) (h2:H b=some (.lst [])) (q:Q (.bl (if neg then !xs.isEmpty else xs.isEmpty)) H):wz K neg (.ref a) (.ref b) H Q:=⟨a,b,xs,rfl,rfl,SqL.of h1,SqL.of h2,q⟩
theorem Bd {kinds:List Str} {rs:List Rl} {ws:List V} {p i:Nat} {r:Rl} (bk:Bk kinds rs) (h:rs[i]?=some r):jv kinds rs ws r.name r.kind p=(bz kinds ws r.shape p ⟨[],[],[]⟩).map (λu=>(r,u)):=by
 unfold jv;rw[find_name bk.nd h];dsimp only;rw[if_pos rfl]
theorem Hr {kinds:List Str} {rs:List Rl} {ws:List V} {p:Nat} {nm kd:Str} (h:∀(i:Nat) (x:Rl),rs[i]?=some x→x.name=nm→x.kind=kd→bz kinds ws x.shape p ⟨[],[],[]⟩=none):jv kinds rs ws nm kd p=none:=by
 unfold jv;cases e:rs.find? (λr=>decide (r.name=nm)) with
 | none=>rfl
 | some r=>
  dsimp only;by_cases c:r.kind=kd
  ·obtain ⟨i,hi⟩:=List.mem_iff_getElem?.mp (adw e);rw[if_pos c,h i r hi (by simpa using List.find?_some e) c];rfl
  ·rw[if_neg c]
def KsL (H:Hp) (as:List Addr) (ks:List Ky):Prop:=as.length=ks.length∧∀(j:Nat) (k:Ky),ks[j]?=some k→∃a,as[j]?=some a∧H a=some (kyT k)
theorem KsL.tk {H H':Hp} {as:List Addr} {ks:List Ky} (h:KsL H as ks) (s:TK H H'):KsL H' as ks:=⟨h.1,λj d e=>by obtain ⟨a,a1,a2⟩:=h.2 j d e;exact ⟨a,a1,s _ _ a2⟩⟩
theorem KsL.app {H:Hp} {as bs:List Addr} {ks js:List Ky} (h:KsL H as ks) (g:KsL H bs js):KsL H (as++bs) (ks++js):=by
 refine ⟨by rw[aa2,aa2,h.1,g.1],λj x hj=>?_⟩;by_cases c:j < ks.length
 ·rw[aaf c] at hj;obtain ⟨a',h1,h2⟩:=h.2 j x hj;exact ⟨a',by rw[aaf (by rw[h.1];exact c)];exact h1,h2⟩
 ·rw[aab (by omega)] at hj;obtain ⟨a',h1,h2⟩:=g.2 _ x hj;exact ⟨a',by rw[aab (by rw[h.1];omega),h.1];exact h1,h2⟩
theorem KsL.one {H:Hp} {a:Addr} {k:Ky} (h:H a=some (kyT k)):KsL H [a] [k]:=⟨rfl,λj x hj=>by
 cases j with
 | zero=>cases hj;exact ⟨a,rfl,h⟩
 | succ j=>simp at hj⟩
theorem KsL.rev {H:Hp} {as:List Addr} {ks:List Ky} (h:KsL H as ks):KsL H as.reverse ks.reverse:=by
 refine ⟨by rw[aas,aas,h.1],λj k hj=>?_⟩;have hjl:=(List.getElem?_eq_some_iff.mp hj).1;rw[aas] at hjl;rw[ac3 hjl] at hj;obtain ⟨a,a1,a2⟩:=h.2 _ k hj;refine ⟨a,?_,a2⟩;rw[ac3 (by rw[h.1];exact hjl),h.1];exact a1
theorem KsL.zip {H:Hp} {as:List Addr} {hs:List Nat} {zs:List Str} (hl:hs.length=zs.length) (ha:as.length=(hs.map plV).length) (h:∀(j:Nat) (x y:V),(hs.map plV)[j]?=some x→(zs.map V.str)[j]?=some y→∃a,as[j]?=some a∧H a=some (.tup [x,y])):KsL H as (hs.zip zs):=by
 refine ⟨by rw[ha,aa0,adk];omega,λj k hj=>?_⟩;obtain ⟨k1,k2⟩:=List.getElem?_zip_eq_some.mp (show (hs.zip zs)[j]?=some (k.1,k.2) from hj);exact h j _ _ (by rw[aa8,k1];rfl) (by rw[aa8,k2];rfl)
theorem KsL.pop {H:Hp} {as:List Addr} {k:Ky} {st:List Ky} (h:KsL H as (k::st).reverse):∃(bs:List Addr) (a:Addr),as=bs++[a]∧KsL H bs st.reverse∧H a=some (kyT k):=by
 obtain ⟨h1,h2⟩:=h;rw[acg] at h1 h2;rw[aa2,aag] at h1;have hne:as≠[]:=λe=>by rw[e] at h1;simp at h1
 obtain ⟨a,ha,hk⟩:=h2 st.reverse.length k (by rw[aab (aa4 _),ad0];rfl);have el:as.length - 1=st.reverse.length:=by omega
 have ea:as.getLast hne=a:=by
  rw[List.getLast_eq_getElem];have:=(List.getElem?_eq_some_iff.mp ha).2;rw[←this];congr 1
 refine ⟨as.dropLast,a,by rw[←ea,adn],⟨by rw[adg];omega,λj x hj=>?_⟩,hk⟩;have hjl:=(List.getElem?_eq_some_iff.mp hj).1;obtain ⟨a',h3,h4⟩:=h2 j x (by rw[aaf hjl];exact hj);refine ⟨a',?_,h4⟩;rw[List.getElem?_dropLast,if_pos (by omega)];exact h3
theorem KsAt.l {H:Hp} {l:Addr} {ks:List Ky} (h:KsAt H l ks):∃as:List Addr,H l=some (.lst (as.map V.ref))∧KsL H as ks:=by
 obtain ⟨as,h1,h2,h3⟩:=h;exact ⟨as,h1,h2,h3⟩
theorem Qy {H:Hp} {a b:Addr} {xs ys:List Str} {Q:VK} (ha:H a=some (.tup (xs.map V.str))) (hb:H b=some (.tup (ys.map V.str))) (hz:xs.length+ys.length≤1000) (q:∀(p:Addr) (H':Hp),ak H H'→H' p=some (.tup ((xs++ys).map V.str))→Q (.ref p) H'):M3 (.ref a) (.ref b) H Q:=by
 have sz:=sizeLine_eq;exact Bv ha hb (by rw[aa0,aa0];omega) λp H' s hp=>q p H' s (by rw[aa5];exact hp)
theorem Nt {P:Str→Prop} {xs ys:List Str} (h:∀z∈xs,P z) (g:∀z∈ys,P z):∀z∈xs++ys,P z:=λz hz=>(List.mem_append.mp hz).elim (h z) (g z)
theorem Jj {K:PySem.W.Frag} {i:Nat} {σ:L2.St} {H:Hp} {Q Q':Bool→Hp→Prop} (h:∀b H1,Q b H1→Q' b H1) (c:tBD (tOp (wz K true) (ka i) (tLst By)) σ H Q):tBD (tOp (wz K true) (ka i) (tLst By)) σ H Q':=by
 simp only[iu,tB,tOp,fo,tLst,By,wz] at c ⊢;obtain ⟨v,hv,hz,c⟩:=c;refine ⟨v,hv,hz,λp hp=>?_⟩;obtain ⟨a,b,xs,e1,e2,h1,h2,cc,e,hq⟩:=c p hp;exact ⟨a,b,xs,e1,e2,h1,h2,cc,e,h _ _ hq⟩
def ou (κ:Cl):Sp:=λvs H Q E=>∃(b wt:Addr) (kinds:List Str) (rs:List Rl) (ws:List V) (p:Nat) (nm kd:Str),vs=[.ref b,.str nm,.ref wt,.int (p:Int),.str kd]∧br H b kinds rs∧H wt=some (.tup ws)∧Bk kinds rs∧Tw ws∧p < ws.length∧gr nm∧gr kd∧(∀d,jv kinds rs ws nm kd p=some d→∀(t:Addr) (H':Hp),ak H H'→zq H' t d.1 d.2→Q (.ref t) H')∧(jv kinds rs ws nm kd p=none→∀H',ak H H'→E (.ref κ.badCover) none H')
theorem J7 {κ:Cl} {b wt:Addr} {kinds:List Str} {rs:List Rl} {ws:List V} {p:Nat} {nm kd:Str} {H:Hp} {Q:VK} {E:XK} (p0:br H b kinds rs) (p1:H wt=some (.tup ws)) (p2:Bk kinds rs) (p3:Tw ws) (p4:p < ws.length) (p5:gr nm) (p6:gr kd) (p7:∀d,jv kinds rs ws nm kd p=some d→∀(t:Addr) (H':Hp),ak H H'→zq H' t d.1 d.2→Q (.ref t) H') (p8:jv kinds rs ws nm kd p=none→∀H',ak H H'→E (.ref κ.badCover) none H'):ou κ [.ref b,.str nm,.ref wt,.int (p:Int),.str kd] H Q E:=⟨b,wt,kinds,rs,ws,p,nm,kd,rfl,p0,p1,p2,p3,p4,p5,p6,p7,p8⟩
noncomputable def b9 (ws:List V) (p:Nat):Nat:=(eat 1 ((ws.drop p).map arV)).getD 0
noncomputable def Ei (kinds:List Str) (sh:List V):Nat:=(sh.filter λv=>decide (bu kinds v≠lH)).length
theorem yw (kinds:List Str) (v:V) (r:List V):Ei kinds (v::r)=(if bu kinds v=lH then 0 else 1)+Ei kinds r:=by
 unfold Ei;rw[aan];by_cases c:bu kinds v=lH
 ·rw[if_neg (by simpa using c),if_pos c,ad1]
 ·rw[if_pos (by simpa using c),if_neg c,aap,ady]
theorem Cv {r:List Nat} {n:Nat} (h:eat 1 r=some n):1≤n:=by
 cases r with
 | nil=>cases h
 | cons a r=>
  obtain ⟨k,_,e⟩:=Option.map_eq_some_iff.mp (show (eat (0+a) r).map (·+1)=some n from h);have e:k+1=n:=e;omega
theorem E5 {kinds:List Str} {ws r:List V} {v x:V} {q d m:Nat} (hk:Kinds kinds) (hv:isW v) (hx:ws[q]?=some x) (hxw:isW x) (hp:pend (d+1) (arV v::r.map arV)=some 0) (he:eat (d+1) ((ws.drop q).map arV)=some m)
  (hl:lies (bu kinds v) v x=true):∃d' m',pend d' (r.map arV)=some 0∧eat d' ((ws.drop (if bu kinds v=lH then endAt ws q else q+1)).map arV)=some m'∧m=m'+(if bu kinds v=lH then b9 ws q else 1):=by
 have hq:q < ws.length:=(List.getElem?_eq_some_iff.mp hx).1;have ed:ws.drop q=x::ws.drop (q+1):=by
  rw[aaw hq];congr 1
  rw[aa1 hq] at hx;exact aa3 hx
 obtain ⟨e1,e2,e3,e4,e5,e6⟩:=lets;have hp:pend (d+arV v) (r.map arV)=some 0:=hp;have one:arV v=arV x→bu kinds v≠lH→∃d' m',pend d' (r.map arV)=some 0∧eat d' ((ws.drop (if bu kinds v=lH then endAt ws q else q+1)).map arV)=some m'∧m=m'+(if bu kinds v=lH then b9 ws q else 1):=λh n=>by
  rw[if_neg n,if_neg n];rw[ed,aau,dj] at he;obtain ⟨k,hk',e⟩:=Option.map_eq_some_iff.mp he;exact ⟨d+arV v,k,hp,by rw[h];exact hk',e.symm⟩
 unfold lies at hl;rcases dk (kinds:=kinds) hv with ⟨rfl,h⟩ | ⟨rfl,h⟩ | ⟨⟨z,hz,rfl⟩,h⟩ | ⟨h,_⟩
 ·refine one ?_ (by rw[h];exact e1);rw[h,if_neg e1,if_pos rfl] at hl;rw[qh];obtain ⟨k,rfl⟩:=hxw;cases k with
  | inl i=>rfl
  | inr y=>cases hl
 ·refine one ?_ (by rw[h];exact e2);rw[h,if_neg e2,if_neg e4,if_pos rfl,ac9] at hl;rw[qc];exact (of_decide_eq_true hl.2).symm
 ·rw[if_pos h,if_pos h];have a0:arV (.str z)=0:=(hk z hz).1;rw[a0] at hp;rw[show d+1=1+d by omega,tq] at he;cases h1:eat 1 ((ws.drop q).map arV) with
  | none=>rw[h1] at he;cases he
  | some n=>
   rw[h1] at he;obtain ⟨k,hk',e⟩:=Option.map_eq_some_iff.mp (show (eat d (((ws.drop q).map arV).drop n)).map (n+·)=some m from he);refine ⟨d,k,hp,?_,?_⟩
   ·unfold endAt;rw[h1,show (some n).getD 0=n from rfl,←adl];rw[←ac4] at hk';exact hk'
   ·unfold b9;rw[h1];have e:n+k=m:=e;show m=k+n
    omega
 ·refine one ?_ (by rw[h];exact e3);rw[h,if_neg e3,if_neg e5,if_neg e6] at hl;rw[of_decide_eq_true hl]
noncomputable def szs (ws:List V) (hs:List Nat):Nat:=(hs.map (b9 ws)).sum
theorem Od (ws:List V) (a b:List Nat):szs ws (a++b)=szs ws a+szs ws b:=by
 unfold szs;rw[aa5,ae8]
theorem y9 {kinds:List Str} {ws:List V} (hk:Kinds kinds) (hw:∀v∈ws,isW v):∀(sh:List V) (p:Nat) (u u':Und) (d m:Nat),(∀v∈sh,isW v)→pend d (sh.map arV)=some 0→eat d ((ws.drop p).map arV)=some m→bz kinds ws sh p u=some u'→szs ws u'.hs+Ei kinds sh=szs ws u.hs+m
 | [],p,u,u',d,m,_,hp,he,h=>by
  have h:some u=some u':=h;cases h
  have hp:some d=some 0:=hp;cases hp
  have he:some 0=some m:=by rw[←he];cases (ws.drop p).map arV <;> rfl
  cases he
  rfl
 | v::r,p,u,u',0,m,_,hp,_,_=>nomatch hp
 | v::r,p,u,u',d+1,m,hs,hp,he,h=>by
  have hpl:p < ws.length:=by
   rcases aer p ws.length with g | g
   ·exact g
   ·rw[abz g] at he;cases he
  have hx:ws[p]?=some ws[p]:=aa1 hpl;rw[fw] at h;have eg:ws.getD p .non=ws[p]:=by rw[aad,hx];rfl
  rw[eg] at h;by_cases c:lies (bu kinds v) v ws[p]=true
  ·rw[if_pos c] at h;obtain ⟨d',m',h1,h2,h3⟩:=E5 hk (hs v aa9) hx (hw _ (ab3 hpl)) hp he c;have ih:=y9 hk hw r _ _ u' d' m' (λx hx=>hs x (aaa _ hx)) h1 h2 h;rw[yw];by_cases cH:bu kinds v=lH
   ·rw[if_pos cH] at h3 ⊢;have e:(u.put (bu kinds v) p ws[p]).hs=u.hs++[p]:=by unfold Und.put;rw[if_pos cH]
    rw[e,Od] at ih;have e2:szs ws [p]=b9 ws p:=by unfold szs;simp
    omega
   ·rw[if_neg cH] at h3 ⊢;have e:(u.put (bu kinds v) p ws[p]).hs=u.hs:=by
     unfold Und.put;rw[if_neg cH];split
     ·rfl
     ·split <;> rfl
    rw[e] at ih;omega
  ·rw[if_neg c] at h;cases h
noncomputable def yg (kinds:List Str) (g:Ky→Option Int) (p:Nat) (v:Int):Nat:=(kinds.filter λk=>match g (p,k) with | some x=>decide (x < v) | none=>false).length
theorem Pl (kinds:List Str) (g:Ky→Option Int) (p:Nat) (v:Int):yg kinds g p v≤kinds.length:=ab8 _ _
theorem filter_lt {α:Type} {P R:α→Bool}:∀{l:List α} {x:α},(∀y∈l,P y=true→R y=true)→x∈l→P x=false→R x=true→(l.filter P).length < (l.filter R).length
 | [],x,_,h,_,_=>nomatch h
 | y::l,x,hs,h,hp,hr=>by
  have le:(l.filter P).length≤(l.filter R).length:=by
   clear h hp hr;induction l with
   | nil=>exact aa4 _
   | cons z l ih=>
    have ih:=ih λw hw=>hs w (by
     rcases List.mem_cons.mp hw with rfl | hw
     ·exact aa9
     ·exact aaa _ (aaa _ hw))
    rw[aan,aan];by_cases c:P z=true
    ·rw[if_pos c,if_pos (hs z (aaa _ aa9) c),aap,aap];omega
    ·rw[if_neg c];split
     ·rw[aap];omega
     ·exact ih
  rw[aan,aan];rcases List.mem_cons.mp h with rfl | h
  ·rw[if_neg (by rw[hp];decide),if_pos hr,aap];omega
  ·have ih:=filter_lt (λw hw=>hs w (aaa _ hw)) h hp hr;by_cases c:P y=true
   ·rw[if_pos c,if_pos (hs y aa9 c),aap,aap];omega
   ·rw[if_neg c];split
    ·rw[aap];omega
    ·exact ih
theorem Pk {kinds:List Str} {g:Ky→Option Int} {p:Nat} {v w:Int} {z:Str} (hz:z∈kinds) (hg:g (p,z)=some w) (h:w < v):yg kinds g p w < yg kinds g p v:=by
 refine filter_lt (x:=z) (λy _ hy=>?_) hz ?_ ?_
 ·cases e:g (p,y) with
  | none=>rw[e] at hy;cases hy
  | some x=>
   rw[e] at hy;have:x < w:=of_decide_eq_true hy;exact decide_eq_true (by omega)
 ·rw[hg];exact decide_eq_false (by omega)
 ·rw[hg];exact decide_eq_true h
noncomputable def phi (kinds:List Str) (ws:List V) (g:Ky→Option Int) (k:Ky):Nat:=(kinds.length+1)*(b9 ws k.1 - 1)+1+yg kinds g k.1 ((g k).getD 0)
noncomputable def jl (kinds:List Str) (ws:List V) (g:Ky→Option Int) (ks:List Ky):Nat:=(ks.map (phi kinds ws g)).sum
theorem i9 (kinds:List Str) (ws:List V) (g:Ky→Option Int) (k:Ky) (ks:List Ky):jl kinds ws g (k::ks)=phi kinds ws g k+jl kinds ws g ks:=by
 unfold jl;rw[aau,ad7]
theorem J3 (kinds:List Str) (ws:List V) (g:Ky→Option Int) (a b:List Ky):jl kinds ws g (a++b)=jl kinds ws g a+jl kinds ws g b:=by
 unfold jl;rw[aa5,ae8]
theorem Jp (kinds:List Str) (ws:List V) (g:Ky→Option Int) (k:Ky) (h:1≤b9 ws k.1):phi kinds ws g k≤(kinds.length+1)*b9 ws k.1:=by
 unfold phi;have:=Pl kinds g k.1 ((g k).getD 0);obtain ⟨n,hn⟩:∃n,b9 ws k.1=n+1:=⟨b9 ws k.1 - 1,by omega⟩;rw[hn,acz,Nat.mul_add,Nat.mul_one];omega
theorem wd (kinds:List Str) (ws:List V) (g:Ky→Option Int):∀ks:List Ky,ks.length≤jl kinds ws g ks
 | []=>aa7 _
 | k::ks=>by
  have:=wd kinds ws g ks;rw[i9,aap];have:1≤phi kinds ws g k:=by unfold phi;omega
  omega
theorem Br (kinds:List Str) (ws:List V) (g:Ky→Option Int):∀(hs:List Nat) (zs:List Str),(∀h∈hs,1≤b9 ws h)→jl kinds ws g (hs.zip zs)≤(kinds.length+1)*szs ws hs
 | [],zs,_=>by show (0:Nat)≤_;omega
 | h::hs,[],_=>by show (0:Nat)≤_;omega
 | h::hs,z::zs,hp=>by
  have ih:=Br kinds ws g hs zs λx hx=>hp x (aaa _ hx);have h1:=Jp kinds ws g (h,z) (hp h aa9);have e:szs ws (h::hs)=b9 ws h+szs ws hs:=by unfold szs;rw[aau,ad7]
  rw[adp,i9,e,Nat.mul_add];have h1:phi kinds ws g (h,z)≤(kinds.length+1)*b9 ws h:=h1;omega
theorem size_pos {ws:List V} (tw:Tw ws) {p:Nat} (h:p < ws.length):1≤b9 ws p:=by
 obtain ⟨n,hn⟩:=tw.eat h;unfold b9;rw[hn];exact Cv hn
theorem Kp {kinds:List Str} {rs:List Rl} {ws:List V} {g:Ky→Option Int} (bk:Bk kinds rs) (tw:Tw ws) (T:Tbl (dw kinds rs ws) g) {k:Ky} {v:Int} (h:g k=some v):jl kinds ws g (xq kinds rs ws (pick kinds rs ws g k) k.1)+1≤phi kinds ws g k:=by
 obtain ⟨i,r,u,h1,h2,h3,h4,h5,h6,h7,h8⟩:=tf bk T h;rw[h5];obtain ⟨w1,w2,w3⟩:=bk.sh r (aac h1);obtain ⟨n,hn⟩:=tw.eat h8;have hww:∀v∈ws,isW v:=λv hv=>(tw.w v hv).1;have hs:=y9 bk.kd hww _ _ _ _ 1 n w1 w2 hn h4;have hin:=Fx bk.kd hww _ _ _ _ 1 n w1 w2 hn (λ_ z=>(aah z).elim) h4;have hsz:b9 ws k.1=n:=by unfold b9;rw[hn];rfl
 have hs:szs ws u.hs+Ei kinds r.shape=n:=by
  have:szs ws ([]:List Nat)=0:=rfl;have hs:szs ws u.hs+Ei kinds r.shape=szs ws []+n:=hs;omega
 have zp:=Br kinds ws g u.hs (aq kinds r.shape) λx hx=>size_pos tw (hin x hx);cases e:r.shape with
 | nil=>rw[e] at w2;exact absurd rfl w2.ne
 | cons v0 sh=>
  by_cases c:bu kinds v0=lH
  ·-- a bare hole
   have wv:isW v0:=w1 v0 (by rw[e];exact aa9);rcases dk (kinds:=kinds) wv with ⟨_,hh⟩ | ⟨_,hh⟩ | ⟨⟨z,hz,rfl⟩,_⟩ | ⟨hh,_⟩
   ·rw[hh] at c;exact absurd c lets.1
   ·rw[hh] at c;exact absurd c lets.2.1
   ·have a0:arV (.str z)=0:=(bk.kd z hz).1;have w2':pend 1 (arV (V.str z)::sh.map arV)=some 0:=by rw[e] at w2;exact w2
    rw[a0] at w2';have w2':pend 0 (sh.map arV)=some 0:=w2';have hsh:sh=[]:=by
     cases sh with
     | nil=>rfl
     | cons=>cases w2'
    subst hsh;have ho:aq kinds [V.str z]=[z]:=by
     unfold aq;rw[abh];simp[hz]
    have hu:u.hs=[k.1]:=by
     rw[e,fw,if_pos (by unfold lies;rw[if_pos c])] at h4;have h4:some _=some u:=h4;cases h4
     unfold Und.put;rw[if_pos c];rfl
    rw[e,ho,hu] at h6 h7;rw[ho,hu];have h6:=h6 (k.1,z) aa9;obtain ⟨x,hx,_⟩:=h6;have h7:prs g [(k.1,z)]+1≤prc g k:=h7;rw[vd] at h7;have p0:prs g []=0:=rfl;have lt:x < v:=by
     unfold prc at h7;rw[h,hx] at h7;have h7:x.toNat+prs g []+1≤v.toNat:=h7;omega
    have rk:=Pk hz hx lt;show jl kinds ws g [(k.1,z)]+1≤_
    rw[i9];have q0:jl kinds ws g []=0:=rfl;unfold phi;rw[hx,h];show _*(b9 ws k.1 - 1)+1+yg kinds g k.1 x+_+1≤_*(b9 ws k.1 - 1)+1+yg kinds g k.1 v
    omega
   ·rw[hh] at c;exact absurd c lets.2.2.1
  ·have nh:1≤Ei kinds r.shape:=by
    rw[e,yw,if_neg c];omega
   rw[←e];unfold phi;rw[hsz];have:(kinds.length+1)*szs ws u.hs≤(kinds.length+1)*(n - 1):=Nat.mul_le_mul_left _ (by omega);omega
theorem qe {kinds:List Str} {rs:List Rl} {ws:List V} {g:Ky→Option Int} (bk:Bk kinds rs) (tw:Tw ws) (T:Tbl (dw kinds rs ws) g) {k:Ky} {w:List Ky} (h:Prd g (k::w)):jl kinds ws g (xq kinds rs ws (pick kinds rs ws g k) k.1++w)+1≤jl kinds ws g (k::w):=by
 obtain ⟨v,hv,_⟩:=h k aa9;have:=Kp bk tw T hv;rw[J3,i9];omega
theorem vi {kinds:List Str} {rs:List Rl} {ws:List V} (bk:Bk kinds rs) (tw:Tw ws) (g:Ky→Option Int) (kd:Str) (h0:0 < ws.length):jl kinds ws g [(0,kd)]≤61000:=by
 have h1:=Jp kinds ws g (0,kd) (size_pos tw h0);have h2:b9 ws 0≤1000:=by
  obtain ⟨n,hn⟩:=tw.eat h0;have:=qd _ _ _ hn;unfold b9;rw[hn];rw[aa0,aao] at this;have:=tw.len;show n≤1000
  omega
 have h3:=bk.kl;rw[i9];have q0:jl kinds ws g []=0:=rfl;have:(kinds.length+1)*b9 ws 0≤61*1000:=Nat.mul_le_mul (by omega) h2;have h1:phi kinds ws g (0,kd)≤(kinds.length+1)*b9 ws 0:=h1;omega
theorem m6.at {H H':Hp} {d:Addr} {kinds:List Str} {rs:List Rl} {ws:List V} {g:Ky→Option Int} (h:m6 H d kinds rs ws g) (s:∀o,H d=some o→H' d=some o):m6 H' d kinds rs ws g:=by
 obtain ⟨kvs,h1,h2⟩:=h;exact ⟨kvs,s _ h1,h2⟩
theorem m6.ne {H:Hp} {d a:Addr} {kinds:List Str} {rs:List Rl} {ws:List V} {g:Ky→Option Int} (h:m6 H d kinds rs ws g) {xs:List V} (e:H a=some (.lst xs)):d≠a:=by
 obtain ⟨kvs,h1,h2⟩:=h;exact eh h1 e (by intro z;cases z)
theorem Ml {K:PySem.W.Frag} {i:Nat} {σ:L2.St} {H:Hp} {Q Q':Bool→Hp→Prop} (h:∀b H1,Q b H1→Q' b H1) (c:tBD (tOp (As λi j=>V.bl (decide (j < i))) (tCB (y3 K) (Cq (ka i) By)) (tC (V.int 0))) σ H Q):tBD (tOp (As λi j=>V.bl (decide (j < i))) (tCB (y3 K) (Cq (ka i) By)) (tC (V.int 0))) σ H Q':=by
 simp only[iu,tB,tOp,ij,rI0,y3,tCB,Cq,By,fo,tC] at c ⊢;obtain ⟨v,hv,c⟩:=c;refine ⟨v,hv,?_⟩;cases v with
 | ref p=>
  obtain ⟨ys,h1,i,j,e2,e3,cc,e4,hq⟩:=c;exact ⟨ys,h1,i,j,e2,e3,cc,e4,h _ _ hq⟩
 | _=>exact c.elim
def jb (κ:Cl):Sp:=λvs H Q E=>∃(b wt:Addr) (kd:Str) (kinds:List Str) (rs:List Rl) (ws:List V),vs=[.ref b,.ref wt,.str kd]∧br H b kinds rs∧H wt=some (.tup ws)∧Bk kinds rs∧Tw ws∧gr kd∧(∀z∈kinds,gr z)∧(∀r∈rs,gr r.name)∧(∀(t:Addr) (H':Hp) (g:Ky→Option Int) (v:Int),ak H H'→H t=none→Tbl (dw kinds rs ws) g→g (0,kd)=some v→H' t=some (.tup ((cov kinds rs ws g [(0,kd)]).map V.str))→Q (.ref t) H')∧∀(H':Hp) (g:Ky→Option Int),ak H H'→Tbl (dw kinds rs ws) g→g (0,kd)=none→E (.ref κ.noCover) none H'
theorem Dc {κ:Cl} {b wt:Addr} {kd:Str} {kinds:List Str} {rs:List Rl} {ws:List V} {H:Hp} {Q:VK} {E:XK} (p0:br H b kinds rs) (p1:H wt=some (.tup ws)) (p2:Bk kinds rs) (p3:Tw ws) (p4:gr kd) (p5:∀z∈kinds,gr z) (p6:∀r∈rs,gr r.name) (p7:∀(t:Addr) (H':Hp) (g:Ky→Option Int) (v:Int),ak H H'→H t=none→Tbl (dw kinds rs ws) g→g (0,kd)=some v→H' t=some (.tup ((cov kinds rs ws g [(0,kd)]).map V.str))→Q (.ref t) H') (p8:∀(H':Hp) (g:Ky→Option Int),ak H H'→Tbl (dw kinds rs ws) g→g (0,kd)=none→E (.ref κ.noCover) none H'):jb κ [.ref b,.ref wt,.str kd] H Q E:=⟨b,wt,kd,kinds,rs,ws,rfl,p0,p1,p2,p3,p4,p5,p6,p7,p8⟩
def Ao:Sp:=λvs H Q _=>∃(b wt rd:Addr) (kd:Str) (kinds:List Str) (rs:List Rl) (ws:List V) (ks:List Ky) (ls:List Addr) (g:Ky→Option Int),vs=[.ref b,.ref wt,.str kd,.ref rd]∧br H b kinds rs∧H wt=some (.tup ws)∧Bk kinds rs∧Tw ws∧RcAt H rd ks ls (ee (kj kinds rs ws) g)∧ks.Nodup∧(∀k,k∈ks↔(g k).isSome=true)∧Tbl (dw kinds rs ws) g∧(g (0,kd)=none→∀H',ak H H'→Q .non H')∧∀(v:Int) (t:Addr) (H':Hp),g (0,kd)=some v→ak H H'→H' t=some (.tup ((cov kinds rs ws g [(0,kd)]).map V.str))→Q (.ref t) H'
theorem mkLDue {b wt rd:Addr} {kd:Str} {kinds:List Str} {rs:List Rl} {ws:List V} {ks:List Ky} {ls:List Addr} {g:Ky→Option Int} {H:Hp} {Q:VK} {E:XK} (p0:br H b kinds rs) (p1:H wt=some (.tup ws)) (p2:Bk kinds rs) (p3:Tw ws) (p4:RcAt H rd ks ls (ee (kj kinds rs ws) g)) (p5:ks.Nodup) (p6:∀k,k∈ks↔(g k).isSome=true) (p7:Tbl (dw kinds rs ws) g) (p8:g (0,kd)=none→∀H',ak H H'→Q .non H') (p9:∀(v:Int) (t:Addr) (H':Hp),g (0,kd)=some v→ak H H'→H' t=some (.tup ((cov kinds rs ws g [(0,kd)]).map V.str))→Q (.ref t) H'):Ao [.ref b,.ref wt,.str kd,.ref rd] H Q E:=⟨b,wt,rd,kd,kinds,rs,ws,ks,ls,g,rfl,p0,p1,p2,p3,p4,p5,p6,p7,p8,p9⟩
def zy:Sp:=λvs H Q _=>∃(b wt:Addr) (kd:Str) (kinds:List Str) (rs:List Rl) (ws:List V) (g:Ky→Option Int),vs=[.ref b,.ref wt,.str kd]∧br H b kinds rs∧H wt=some (.tup ws)∧Bk kinds rs∧Tw ws∧gr kd∧(∀z∈kinds,gr z)∧(∀r∈rs,gr r.name)∧Tbl (dw kinds rs ws) g∧g (0,kd)=none∧∀H',ak H H'→Q (.bl true) H'
theorem mkLRef {b wt:Addr} {kd:Str} {kinds:List Str} {rs:List Rl} {ws:List V} {g:Ky→Option Int} {H:Hp} {Q:VK} {E:XK} (p0:br H b kinds rs) (p1:H wt=some (.tup ws)) (p2:Bk kinds rs) (p3:Tw ws) (p4:gr kd) (p5:∀z∈kinds,gr z) (p6:∀r∈rs,gr r.name) (p7:Tbl (dw kinds rs ws) g) (p8:g (0,kd)=none) (p9:∀H',ak H H'→Q (.bl true) H'):zy [.ref b,.ref wt,.str kd] H Q E:=⟨b,wt,kd,kinds,rs,ws,g,rfl,p0,p1,p2,p3,p4,p5,p6,p7,p8,p9⟩
def gw:Sp:=λvs H Q _=>∃(f d:Addr) (xs:List V),vs=[.ref f,.ref d]∧H f=some (.tup xs)∧H d=some (.tup xs)∧(∀v∈xs,isW v)∧xs.length≤100000∧∀H',ak H H'→Q (.bl true) H'
theorem M8 {f d:Addr} {xs:List V} {H:Hp} {Q:VK} {E:XK} (p0:H f=some (.tup xs)) (p1:H d=some (.tup xs)) (p2:(∀v∈xs,isW v)) (p3:xs.length≤100000) (p4:∀H',ak H H'→Q (.bl true) H'):gw [.ref f,.ref d] H Q E:=⟨f,d,xs,rfl,p0,p1,p2,p3,p4⟩
theorem Gf {kinds:List Str} {rs:List Rl} {ws:List V} {g:Ky→Option Int} (bk:Bk kinds rs) (tw:Tw ws) (T:Tbl (dw kinds rs ws) g):∀(n:Nat) (st:List Ky),Prd g st→(qa kinds rs ws g n st).length≤jl kinds ws g st
 | 0,_,_=>aa7 _
 | _+1,[],_=>aa7 _
 | n+1,k::w,h=>by
  have ih:=Gf bk tw T n _ (h.step bk T).1;have:=qe bk tw T h;show (qa kinds rs ws g n _).length+1≤_
  omega
theorem RcAt.miss {H:Hp} {fd b:Addr} {ks:List Ky} {ls:List Addr} {nm:Ky→List Str} (h:RcAt H fd ks ls nm) {k:Ky} (hb:H b=some (kyT k)) (hk:k∉ks):ib H fd (.ref b) none:=by
 have e:cj ((ks.zip ls).map λp=>(kyK p.1,V.ref p.2)) (kyK k)=none:=by
  cases e:cj ((ks.zip ls).map λp=>(kyK p.1,V.ref p.2)) (kyK k) with
  | none=>rfl
  | some v=>
   obtain ⟨p,hp,ep⟩:=List.mem_map.mp (sv e);obtain ⟨y,hy,rfl⟩:=List.mem_map.mp hp;have ek:y.1=k:=il ep;exact absurd (ek ▸ (acv (show (y.1,y.2)∈_ from hy)).1) hk
 rw[←e];exact ib.t h.1 hb
theorem Hh {kinds:List Str} {rs:List Rl} {ws:List V} {g:Ky→Option Int} (bk:Bk kinds rs) (T:Tbl (dw kinds rs ws) g) {k:Ky} {v:Int} (h:g k=some v):(ee (kj kinds rs ws) g k)[0]?=some (pick kinds rs ws g k):=by
 obtain ⟨ro,hro,h1,h2,h3⟩:=vo bk T h;obtain ⟨nm,n1,n2⟩:=Bx T hro;obtain ⟨m1,m2,m3⟩:=i5 hro;have ek:k=(ro.place,ro.kind):=by rw[h1,h2]
 have ep:pick kinds rs ws g k=nm:=by
  unfold pick;rw[ad2,ek];dsimp only;rw[m2];show (namesW (bj kinds rs ws ro.place) g ro.kind ro.price).head?.getD ""=nm
  rw[←m3,n1];rfl
 rw[ep,←List.head?_eq_getElem?,ek];exact n2
end Pc
namespace L2
open PySem PySem.Spec PyProof.Rows
section
variable {X:Cx} {v:Expr} {tv:TE} {p1 p2 pos:Pos} {c:Str} {j:Nat}
theorem Pq (hv:PE X v tv) (hc:c.length≤100:=by decide+kernel):PE X (.JoinedStr [.Constant (.str c) j p2,.FormattedValue v 114 none p1] pos) (tFmtR tv):=by
 intro pins s σ H Q I h;refine wpAny_JoinedStr ?_;have e0:∀w:Str,(Str.empty++w).length=w.length:=λw=>by rw[strLen_append];exact ad1 _
 have sz:=sizeLine_eq;refine Calls.Constant_str ⟨c,_,rfl,by rw[e0];omega,?_⟩;refine wpAny_FormattedValue_repr (thn (hv pins _ σ H _ (I.tok _) h) λu s1 ⟨x,H1,I1,r1,z,e,ha,hz,q⟩=>?_);subst e;obtain ⟨t,rfl⟩:=r1;have hl:=StrLaws.reprText_len z λc hc=>aen (ha c hc) (by decide);refine pyReprObj_str ?_ (by omega);refine formatField_str (λt' tk=>⟨_,t',rfl,by rw[strLen_append,e0];omega,by rw[strLen_append,e0];omega,?_⟩) (by omega);exact ⟨.str _,H1,I1.tok _,⟨_,rfl⟩,q _⟩
end
end L2
namespace K52
open PySem PySem.Spec L2 PyProof.Rows Pc
set_option hygiene false
set_option compiler.extract_closed false
local macro_rules | `(tactic| push_cast [$xs,*])=>`(tactic| simp only [↓Ja,↓Nr,↓Np,↓Qr,↓exists_eq_left,↓exists_eq_left',↓int_ex,↓ref_ex,↓bl_ex,↓Og,ka,As,rID,rUD,tBD,Ep,y3,Kv,Kh,tSeq,tIfS,tRet,tRetN,tNext,tVar,tC,Ct,tB,tOp,tUn,rI,rI0,rU,rEq,rNe,Be,tCB,Cq,By,tAnd,tOr,tNot,tAndV,tOrV,tNotV,tIf,cv,tAsg,tBM,tBM0,tSl,Gi,Lr,rSlS,rSlL,tLst,tTup,tDrop,tNoIf,iStr,iList,iTup,iRng1,iRng2,tLC,Ki,xw,List.set_cons_zero,List.set_cons_succ,List.getElem?_cons_zero,List.getElem?_cons_succ,Option.some.injEq,V.int.injEq,V.str.injEq,V.bl.injEq,V.ref.injEq,List.cons.injEq,exists_eq_left,exists_eq_left',exists_eq_right,exists_eq_right',exists_and_left,exists_and_right,and_true,true_and,List.cons_append,List.nil_append,List.append_nil,reduceCtorEq,false_and,exists_false,false_or,or_false,decide_eq_true_eq,eq_self,if_true,if_false,Bool.false_eq_true,Bool.true_eq_false,cxOf_K,cxOf_P,cxOf_w,Pr,cxOf_b,List.map_cons,List.map_nil,Option.getD_some,Option.getD_none,exists_const,nox_K,and_assoc,exists_eq,exists_eq',V.ty.injEq,tVals,Int.reduceLT,Int.reduceLE,Int.reduceNeg,Int.reducePow,Nat.reduceLT,Nat.reduceLeDiff,Qn,Q6,qb,tCallV,tDIn,Gg,tDGet,iRev,tDNewK,sDPut,and_self,exists_prop,$xs,*])
set_option hygiene true
set_option compiler.extract_closed true
noncomputable def top (i:Nat):Stmt:=PySem.Challenge.pw_pricecover_k52_cheapest.main.body.getD i (.Pass ⟨0,0,0,0⟩)
structure Gs (w:World) (K:PySem.W.Frag) (mg:Str→Option Value) (κ:Cl):Prop where
 er:Errs K mg κ
 i_BadCover:PySem.W.findIn K (.ref κ.badCover) "__init__"=some (some (.builtin "ValueError.__init__"))
 i_NoCover:PySem.W.findIn K (.ref κ.noCover) "__init__"=some (some (.builtin "ValueError.__init__"))
 m_ValueError:mg "ValueError"=none
 m_all:mg "all"=none
 m_bool:mg "bool"=none
 m_dict:mg "dict"=none
 m_int:mg "int"=none
 m_isinstance:mg "isinstance"=none
 m_len:mg "len"=none
 m_list:mg "list"=none
 m_range:mg "range"=none
 m_reversed:mg "reversed"=none
 m_sorted:mg "sorted"=none
 m_str:mg "str"=none
 m_tuple:mg "tuple"=none
 m_zip:mg "zip"=none
 m_PARTS_BELOW:∃a,mg "PARTS_BELOW"=some (.ref a)∧ModD w K a [(Sum.inr "add",.int 2),(Sum.inr "sub",.int 2),(Sum.inr "mul",.int 2),(Sum.inr "neg",.int 1)]
def Gr (K:PySem.W.Frag):Sp:=λvs H Q _=>∃(a:Addr) (ns:List Int),vs=[.ref a]∧SqL K H a (ns.map V.int)∧ns.length≤63∧∀H',Q (.bl true) H'
def spT:Sp:=λvs H Q _=>False
set_option hygiene false
local macro_rules
 | `(A0 $a)=>`(@pl _ $a _ _ rfl rfl (by decide))
 | `(A1 $a $b)=>`(@Bc _ _ _ _ _ $a $b rfl)
 | `(A2 $_)=>`(@K2 _)
 | `(A3 $_)=>`(@Mz _ _ _ _)
 | `(A4 $a $b)=>`(@Mx _ _ _ _ _ $a $b)
 | `(A5 $a $b $c)=>`(@pe_op _ _ _ _ _ _ _ _ $a $b $c)
 | `(A6 $a)=>`(@Q3 _ _ _ $a)
 | `(A7 $a $b $c)=>`(@K9 _ _ $a _ _ _ _ $b rfl (ab4 rfl) $c rfl (.inl rfl))
 | `(A8 $a $b $c)=>`(@pe_ix _ _ _ _ _ _ _ $a $b $c (λ_ _=>rfl))
 | `(A9 $a)=>`(@pk _ $a _ _ rfl rfl (by decide))
 | `(AA $_)=>`(@nomark _ _ (by decide) (by decide))
 | `(AB $a)=>`(@ps_ret _ _ _ _ $a)
 | `(AC $a $b $c $d)=>`(@Kr _ _ _ _ _ _ _ _ _ $a rfl $b $c $d (by decide) (by decide) rfl rfl)
 | `(AD $a $b $c)=>`(@ps_if _ _ _ _ _ _ _ _ $a $b $c)
 | `(AE $a $b $c)=>`(@pe_has _ _ _ _ _ _ _ _ _ _ $a $b $c rfl (by decide+kernel) rfl rfl)
 | `(AF $a $b $c $d)=>`(@Bt _ _ _ _ _ _ _ _ $a $b $c $d)
 | `(AG $a)=>`(@pe_lst _ _ _ _ $a)
 | `(AH $_)=>`(@K3 _)
 | `(AI $a)=>`(@pe_tup _ _ _ _ _ $a)
 | `(AJ $_)=>`(@O4 _)
 | `(AK $a)=>`(@Ay.str _ _ _ _ _ $a)
 | `(AL $_)=>`(@Q5 _)
 | `(AM $_)=>`(@op_eq _)
 | `(AN $_)=>`(@K7 _ _ _ _)
 | `(AO $a $b $c)=>`(@G2 _ _ $a _ $b rfl $c (.inl rfl))
 | `(AQ $a)=>`(@Nu _ _ _ _ $a rfl)
 | `(AR $_)=>`(@O1 _)
 | `(AS $a $b $c $d $e $f)=>`(@pe_bm _ _ _ _ _ _ _ _ _ _ _ _ $a $b $c $d $e $f rfl rfl rfl rfl rfl)
 | `(AT $a $b)=>`(@pe_gty _ _ _ _ $a $b rfl (by decide+kernel) (by decide+kernel))
 | `(AU $_)=>`(@Fn _)
 | `(AV $a $b)=>`(@M1 _ _ _ _ _ $a $b rfl)
 | `(AW $_)=>`(@Mo _)
 | `(AX $_)=>`(@yq _)
 | `(AY $_)=>`(@xv _)
 | `(AZ $_)=>`(@Dh _)
 | `(B0 $a $b $c)=>`(@Lo _ _ _ _ _ _ _ _ PassesOwn.never rfl $a $b $c (by intro _;rfl))
 | `(B6 $a $b $c $d)=>`(@Iv _ _ _ _ _ _ _ _ _ $a rfl $b $c $d (by decide) (by decide) rfl rfl)
 | `(B7 $_)=>`(@Po _)
 | `(B9 $a)=>`(@P9 _ _ _ $a (by intro _;rfl))
 | `(BA $a $b)=>`(@G2 _ _ $a _ $b rfl (ab4 rfl) (.inr rfl))
 | `(BB $a)=>`(@PW.pt _ _ _ $a)
 | `(BC $_)=>`(@uu _)
 | `(BD $_)=>`(@pe_bl _ _ _ _)
 | `(BE $a $b $c)=>`(@Oc _ _ _ _ _ _ $a $b $c (λ_ _=>rfl))
 | `(BF $a)=>`(@Nd _ _ _ $a)
 | `(BG $_)=>`(@Ay.nil)
 | `(BH $a)=>`(@O6 _ _ _ _ $a rfl (by decide+kernel))
 | `(BI $a $b)=>`(@pe_and _ _ _ _ _ _ _ $a $b)
 | `(BJ $a $b $c $d)=>`(@zv _ _ _ _ _ _ _ _ $a $b $c $d)
 | `(BK $a $b)=>`(@N4 _ _ _ _ _ _ $a $b)
 | `(BL $a $b)=>`(@pw_and _ _ _ _ _ _ _ $a $b)
 | `(BM $a $b)=>`(@Pe _ _ _ _ _ $a $b)
 | `(BN $a $b $c $d $e)=>`(@j0.mk _ _ $a $b $c _ rfl rfl rfl rfl $d rfl $e)
 | `(BO $a)=>`(@Pw _ _ _ _ $a)
 | `(BP $a)=>`(@Qo _ _ _ _ $a)
 | `(BQ $a $b $c)=>`(@Bt _ _ _ _ _ _ _ _ $a $b $c (by with_unfolding_all rfl))
 | `(BR $a)=>`(@pe_one _ _ _ _ _ $a)
 | `(BS $a)=>`(@pi_tup _ _ _ _ $a)
 | `(BT $a $b $c $d $e)=>`(@pe_lc _ _ _ _ _ _ _ _ _ _ _ _ _ _ _ $a rfl $b $c $d $e (by intro _;rfl))
 | `(BU $a $b)=>`(@Iq _ _ _ _ _ _ rfl $a $b rfl)
 | `(BV $_)=>`(@Ez _)
 | `(BW $_)=>`(@yl _)
 | `(BX $a)=>`(@Ay.int _ _ _ _ _ $a)
 | `(BY $a)=>`(@pt_not _ _ _ _ $a)
 | `(BZ $a)=>`(@pif1 _ _ _ $a)
 | `(C0 $a $b)=>`(@Bu _ _ _ _ _ _ PassesOwn.never $a $b)
 | `(C3 $a $b)=>`(@Js _ _ _ _ _ $a rfl $b rfl rfl)
 | `(C4 $a $b $c)=>`(@Jb _ _ _ _ _ $a $b $c)
 | `(C7 $a $b)=>`(@pw_or _ _ _ _ _ _ _ $a $b)
 | `(C8 $a)=>`(@pw_or1 _ _ _ _ $a)
 | `(C9 $a $b)=>`(@pe_un _ _ _ _ _ _ $a $b)
 | `(CC $a $b $c $d $e)=>`(@pe_bm0 _ _ _ _ _ _ _ _ _ $a $b $c $d $e rfl rfl)
 | `(CF $a $b $c)=>`(@K9 _ _ $a _ _ _ _ $b rfl (ab6 rfl) $c rfl (.inl rfl))
 | `(CG $a $b $c $d)=>`(@J2 _ _ _ _ _ _ _ _ _ _ $a $b $c $d)
 | `(CH $a)=>`(@La _ _ _ $a)
 | `(CI $a)=>`(@Qx _ $a rfl)
 | `(CJ $a)=>`(@O2 _ _ _ _ _ $a)
 | `(CK $a $b $c)=>`(@Li _ _ _ _ _ _ _ _ $a $b $c)
 | `(CL $a $b $c)=>`(@L8 _ _ _ _ _ _ _ _ _ $a $b $c)
 | `(CM $a $b $c)=>`(@Ek _ _ _ _ _ _ _ _ rfl rfl $a rfl $b $c rfl rfl rfl)
 | `(CN $a $b $c $d)=>`(@O0 _ _ _ _ _ _ _ _ _ $a $b $c $d rfl)
set_option hygiene true
section
variable {P:Program} {w:World} {K:PySem.W.Frag} {mg:Str→Option Value} {base:Heap} {k:Nat} {κ:Cl}
noncomputable abbrev Ee:Stmt:=top 15
theorem scHow:ax ["word"] ["word"] (ag Ee):=⟨rfl,rfl,rfl,by decide+kernel,rfl,by decide+kernel,by decide+kernel⟩
theorem hasHow (G:Gs w K mg κ) (D:Def K mg "how_many_below" Ee ["word"]):Has P w K mg base (k+1) "how_many_below" ["word"] xn:=by
 refine D.has scHow (λvs H Q E h=>?_) (λf cdv A outer s H vs Q E hr h=>?_)
 ·obtain ⟨_,rfl,_,_⟩:=h;rfl
 have nd:=scHow.nd;have hu:=bx hr;have hu0:=aae hu;obtain ⟨v,rfl,hw,q⟩:=h;obtain ⟨a_PARTS_BELOW,m_PARTS_BELOW,s_PARTS_BELOW⟩:=G.m_PARTS_BELOW;refine ⟨_,(A6 (AB (@Nb _ _ _ _ _ _ _ _ _ _ (BH m_PARTS_BELOW) s_PARTS_BELOW (A0 0) (A3 0) (@M2.mk _ _ _ _ _ _ _ rfl rfl rfl rfl)))),?_⟩;rw[show start ["word"] [v]=[some (v)] from rfl];clear hu hu0 nd hr;push_cast [K0];obtain ⟨k,rfl⟩:=hw;refine ⟨k,rfl,?_⟩;show Q ((cj parts k).getD (V.int 0)) H
 rw[Jd];exact q
noncomputable abbrev jr:Stmt:=top 16
theorem Bn:ax ["words","place","lacking","at"] ["words","place"] (ag jr):=⟨rfl,rfl,rfl,by decide+kernel,rfl,by decide+kernel,by decide+kernel⟩
theorem Ij (G:Gs w K mg κ) (h_how_many_below:Has P w K mg base k "how_many_below" ["word"] xn) (D:Def K mg "place_behind" jr ["words","place"]):Has P w K mg base (k+1) "place_behind" ["words","place"] (ur K):=by
 refine D.has Bn (λvs H Q E h=>?_) (λf cdv A outer s H vs Q E hr h=>?_)
 ·obtain ⟨_,_,_,_,rfl,_,_,_,_,_⟩:=h;rfl
 have nd:=Bn.nd;have hu:=bx hr;have hu0:=aae hu;obtain ⟨t,ws,p,n,rfl,hT,hw,hl,he,q⟩:=h;refine ⟨_,(A4 (A7 2 nd (A3 0)) (A4 (A7 3 nd (A0 1)) (A4 (C0 (AF (@iq _) (A0 2) (A3 0) (AA 0)) (A4 (A7 2 nd (A5 (AR 0) (A5 (B7 0) (A0 2) (A3 0)) (AE h_how_many_below hr (A1 (A8 (AH 0) (A0 0) (A0 3)) (A2 0))))) (A6 (A7 3 nd (A5 (AR 0) (A0 3) (A3 0)))))) (A6 (AB (A0 3)))))),?_⟩;rw[show start ["words","place","lacking","at"] [.ref t,.int (p:Int)]=[some (.ref t),some (.int (p:Int)),none,none] from rfl];clear hu hu0 nd hr;push_cast [xn];have hn:=qd _ _ _ he;rw[aa0,aao] at hn;refine gn (λσ H'=>∃(d j:Nat),σ=[some (.ref t),some (.int (p:Int)),some (.int (d:Int)),some (.int ((p+j:Nat):Int))]∧H'=H∧j≤n∧eat d ((ws.drop (p+j)).map arV)=some (n - j))
  (λσ _=>p+n - intAt σ 3) ⟨1,0,rfl,rfl,aa7 _,he⟩ ?_ ?_
 ·rintro σ H' ⟨d,j,rfl,rfl,hj,hd⟩;push_cast [xn];refine cf (λc=>?_) λc=>?_
  ·obtain ⟨d',rfl⟩:∃d',d=d'+1:=⟨d - 1,by omega⟩;have hpos:=Az _ _ _ hd;have hlt:p+j < ws.length:=by omega
   have ed:ws.drop (p+j)=ws[p+j]::ws.drop (p+j+1):=aaw hlt;rw[ed,aau,dj] at hd;obtain ⟨m,hm,em⟩:=Option.map_eq_some_iff.mp hd;refine ⟨t,ws,((p+j:Nat):Int),ws[p+j],rfl,rfl,hT,bb (aa1 hlt),hw _ (ab3 hlt),⟨d'+arV ws[p+j],by omega,j+1,by omega,rfl,by omega,?_⟩,?_⟩
   ·rw[show n - (j+1)=m by omega];exact hm
   ·show p+n - (((p+j:Nat):Int)+1).toNat < p+n - (((p+j:Nat):Int)).toNat
    omega
  ·have d0:d=0:=by omega
   subst d0;rw[kf] at hd;have:n - j=0:=(aa3 hd).symm;have e:((p+j:Nat):Int)=(p:Int)+(n:Int):=by omega
   rw[e];exact q H' (ak.refl _)
 ·intro σ H' Q1 Q2 hq h;simp only[Ct,tOp,rI0,fo,tC,iu,ij,tB] at h ⊢;obtain ⟨v,hv,i,j,e1,e2,k,e3,h⟩:=h;exact ⟨v,hv,i,j,e1,e2,k,e3,hq _ _ h⟩
noncomputable abbrev va:Stmt:=top 18
theorem Lh:ax ["word","kinds"] ["word","kinds"] (ag va):=⟨rfl,rfl,rfl,by decide+kernel,rfl,by decide+kernel,by decide+kernel⟩
theorem Qm (G:Gs w K mg κ) (D:Def K mg "leaf_letter" va ["word","kinds"]):Has P w K mg base (k+1) "leaf_letter" ["word","kinds"] (jk K):=by
 refine D.has Lh (λvs H Q E h=>?_) (λf cdv A outer s H vs Q E hr h=>?_)
 ·obtain ⟨_,_,_,rfl,_,_,_⟩:=h;rfl
 have nd:=Lh.nd;have hu:=bx hr;have hu0:=aae hu;obtain ⟨v,kt,kinds,rfl,hv,hK,q⟩:=h;refine ⟨_,(A4 (AD (AF (AM 0) (A0 0) (AN 0) (AA 0)) (A6 (AB (AN 0))) (AL 0)) (A4 (AD (AF (AM 0) (A0 0) (AN 0) (AA 0)) (A6 (AB (AN 0))) (AL 0)) (A6 (AB (CK (BQ (BW 0) (A0 0) (A0 1)) (AN 0) (AN 0)))))),?_⟩;rw[show start ["word","kinds"] [v,.ref kt]=[some (v),some (.ref kt)] from rfl];clear hu hu0 nd hr;push_cast [rIn];have fl:(kinds.map V.str).all ik=true:=List.all_eq_true.mpr λx hx=>by obtain ⟨z,_,rfl⟩:=List.mem_map.mp hx;rfl
 unfold bu ia gg lN lV lH lO at q;refine ⟨hv.sc _,cf (λe=>?_) λn1=>⟨hv.sc _,cf (λe=>?_) λn2=>⟨_,.inr hK,hv.flat,fl,cf (λe=>?_) λe=>?_⟩⟩⟩
 ·rw[if_pos e] at q;exact q
 ·rw[if_neg n1,if_pos e] at q;exact q
 ·rw[if_neg n1,if_neg n2,if_pos e] at q;exact q
 ·rw[if_neg n1,if_neg n2,if_neg e] at q;exact q
noncomputable abbrev xg:Stmt:=top 20
theorem Lw:ax ["letter","shape_word","word"] ["letter","shape_word","word"] (ag xg):=⟨rfl,rfl,rfl,by decide+kernel,rfl,by decide+kernel,by decide+kernel⟩
theorem Qe (G:Gs w K mg κ) (h_how_many_below:Has P w K mg base k "how_many_below" ["word"] xn) (D:Def K mg "lies_upon" xg ["letter","shape_word","word"]):Has P w K mg base (k+1) "lies_upon" ["letter","shape_word","word"] zw:=by
 refine D.has Lw (λvs H Q E h=>?_) (λf cdv A outer s H vs Q E hr h=>?_)
 ·obtain ⟨_,_,_,rfl,_,_,_⟩:=h;rfl
 have nd:=Lw.nd;have hu:=bx hr;have hu0:=aae hu;obtain ⟨l,v,x,rfl,hv,hx,q⟩:=h;have m_isinstance:=G.m_isinstance;have m_str:=G.m_str;refine ⟨_,(A4 (AD (AF (AM 0) (A0 0) (AN 0) (AA 0)) (A6 (AB (BD 0))) (AL 0)) (A4 (AD (AF (AM 0) (A0 0) (AN 0) (AA 0)) (A6 (AB (@Dr _ _ _ _ (AC (AZ 0) m_isinstance ao (A1 (A0 2) (A1 (AT m_str qz) (A2 0))))))) (AL 0)) (A4 (AD (AF (AM 0) (A0 0) (AN 0) (AA 0)) (A6 (AB (BI (AC (AZ 0) m_isinstance ao (A1 (A0 2) (A1 (AT m_str qz) (A2 0)))) (BR (BJ (AM 0) (AE h_how_many_below hr (A1 (A0 2) (A2 0))) (A3 0) (AA 0)))))) (AL 0)) (A6 (AB (BJ (AM 0) (A0 1) (A0 2) (AA 0))))))),?_⟩;rw[show start ["letter","shape_word","word"] [.str l,v,x]=[some (.str l),some (v),some (x)] from rfl];clear hu hu0 nd hr;push_cast [xn];unfold lies lH lN lV at q;refine ⟨rfl,cf (λe=>?_) λn1=>⟨rfl,cf (λe=>?_) λn2=>⟨rfl,cf (λe=>?_) λn3=>⟨hv.sc2 hx,?_⟩⟩⟩⟩
 ·rw[if_pos e] at q;exact q
 ·rw[if_neg n1,if_pos e] at q;obtain ⟨k',rfl⟩:=hx;cases k' with
  | inl i=>exact ⟨_,.int i,false,rfl,q⟩
  | inr z=>exact ⟨_,.str z,true,rfl,q⟩
 ·rw[if_neg n1,if_neg n2,if_pos e] at q;have hx':=hx;obtain ⟨k',rfl⟩:=hx;cases k' with
  | inl i=>exact ⟨_,.int i,false,rfl,qf q⟩
  | inr z=>
   refine ⟨_,.str z,true,rfl,sg ⟨hx',rfl,?_⟩⟩;rw[show decide (((arV (kV (Sum.inr z)):Nat):Int)=0)=decide (arV (kV (Sum.inr z))=0) from decide_eq_decide.mpr (by omega)];exact q
 ·rw[if_neg n1,if_neg n2,if_neg n3] at q;exact q
noncomputable abbrev vc:Stmt:=top 21
theorem Kc:ax ["shape","kinds","words","place","under","at","shape_word","letter"] ["shape","kinds","words","place"] (ag vc):=⟨rfl,rfl,rfl,by decide+kernel,rfl,by decide+kernel,by decide+kernel⟩
theorem O8 (G:Gs w K mg κ) (h_leaf_letter:Has P w K mg base k "leaf_letter" ["word","kinds"] (jk K)) (h_lies_upon:Has P w K mg base k "lies_upon" ["letter","shape_word","word"] zw) (h_place_behind:Has P w K mg base k "place_behind" ["words","place"] (ur K)) (D:Def K mg "laid" vc ["shape","kinds","words","place"]):Has P w K mg base (k+1) "laid" ["shape","kinds","words","place"] (wx K):=by
 refine D.has Kc (λvs H Q E h=>?_) (λf cdv A outer s H vs Q E hr h=>?_)
 ·obtain ⟨_,_,_,_,_,_,_,_,rfl,_,_,_,_,_,_,_,_,_,_,_⟩:=h;rfl
 have nd:=Kc.nd;have hu:=bx hr;have hu0:=aae hu;obtain ⟨st,kt,wt,sh,kinds,ws,p,n,rfl,hS,hK,hW,hk,hs,hw,hTm,he,hl1,hl2,q⟩:=h;have m_tuple:=G.m_tuple;refine ⟨_,(A4 (A7 4 nd (@Oj _ _ _ _ _ (CL (AN 0) (AG (A2 0)) (CL (AN 0) (AG (A2 0)) (CL (AN 0) (AG (A2 0)) (@Qi _ _)))) rfl rfl (λe=>nomatch e) (by decide))) (A4 (A7 5 nd (A0 3)) (A4 (B0 (BS (A0 0)) (AO 6 nd (by first | exact ab4 rfl | exact ab6 rfl)) (A4 (A7 7 nd (AE h_leaf_letter hr (A1 (A0 6) (A1 (A0 1) (A2 0))))) (A4 (AD (BY (B9 (AE h_lies_upon hr (A1 (A0 7) (A1 (A0 6) (A1 (A8 (AH 0) (A0 2) (A0 5)) (A2 0))))))) (A6 (AB (@vq _ _ _))) (AL 0)) (BM (AD (AF (@Ff _) (A0 7) (AN 0) (AA 0)) (A6 (AQ (AS PySem.F.plainAttrs_list PySem.F.slot_list_append PySem.F.type_list_append (AX 0) (BE hu (A0 4) (A0 7)) (A1 (CK (AF (AM 0) (A0 7) (AN 0) (AA 0)) (A0 5) (A8 (AH 0) (A0 2) (A0 5))) (A2 0))))) (AL 0)) (A6 (A7 5 nd (CK (AF (AM 0) (A0 7) (AN 0) (AA 0)) (AE h_place_behind hr (A1 (A0 2) (A1 (A0 5) (A2 0)))) (A5 (AR 0) (A0 5) (A3 0))))))))) (A6 (AB (AI (A1 (B6 (BC 0) m_tuple bw (A1 (BE hu (A0 4) (AN 0)) (A2 0))) (A1 (B6 (BC 0) m_tuple bw (A1 (BE hu (A0 4) (AN 0)) (A2 0))) (A1 (B6 (BC 0) m_tuple bw (A1 (BE hu (A0 4) (AN 0)) (A2 0))) (A2 0)))))))))),?_⟩;rw[show start ["shape","kinds","words","place","under","at","shape_word","letter"] [.ref st,.ref kt,.ref wt,.int (p:Int)]=[some (.ref st),some (.ref kt),some (.ref wt),some (.int (p:Int)),none,none,none,none] from rfl];clear hu hu0 nd hr;push_cast [tDisp,zg];have sz:=sizeLine_eq;refine λu0 h0=>⟨aa7 _,λl1 h1=>⟨aa7 _,λl2 h2=>⟨aa7 _,λl3 h3=>⟨aa h3 _ _ _ (aa h2 _ _ _ (aa h1 _ _ _ ae)),[(Sum.inr lH,.ref l1),(Sum.inr lN,.ref l2),(Sum.inr lV,.ref l3)],rfl,by show (3:Nat)≤15;decide,?_⟩⟩⟩⟩;rw[show qu [] [(Sum.inr lH,V.ref l1),(Sum.inr lN,V.ref l2),(Sum.inr lV,V.ref l3)]=[(Sum.inr lH,V.ref l1),(Sum.inr lN,V.ref l2),(Sum.inr lV,V.ref l3)] from rfl];have n10:l1≠u0:=(ah ae h1).symm;have n20:l2≠u0:=(ah (aa h1 _ _ _ ae) h2).symm;have n30:l3≠u0:=(ah (aa h2 _ _ _ (aa h1 _ _ _ ae)) h3).symm;have n21:l2≠l1:=(ah ae h2).symm;have n31:l3≠l1:=(ah (aa h2 _ _ _ ae) h3).symm;have n32:l3≠l2:=(ah ae h3).symm;have S1:=aa h0 (.dK []);have f1:=S1.free h1;have S2:=S1.trans (aa h1 (.lst []));have f2:=S2.free h2;have S3:=S2.trans (aa h2 (.lst []));have f3:=S3.free h3;have S4:=(S3.trans (aa h3 (.lst []))).upd h0 (.dK [(Sum.inr lH,V.ref l1),(Sum.inr lN,V.ref l2),(Sum.inr lV,V.ref l3)]);have U4:UAt (upd (upd (upd (upd (upd H u0 (.dK [])) l1 (.lst [])) l2 (.lst [])) l3 (.lst [])) u0 (.dK [(Sum.inr lH,V.ref l1),(Sum.inr lN,V.ref l2),(Sum.inr lV,V.ref l3)])) u0 l1 l2 l3 ⟨[],[],[]⟩:=
  ⟨ae,by rw[af n10,af n31.symm,af n21.symm,ae];rfl,by rw[af n20,af n32.symm,ae],by rw[af n30,ae]⟩
 generalize upd (upd (upd (upd (upd H u0 (.dK [])) l1 (.lst [])) l2 (.lst [])) l3 (.lst [])) u0 (.dK [(Sum.inr lH,V.ref l1),(Sum.inr lN,V.ref l2),(Sum.inr lV,V.ref l3)])=H4 at S4 U4 ⊢;obtain ⟨P1,eP1⟩:∃P1:Nat→L2.St→Hp→Prop,∀i σ H',P1 i σ H'↔∃(q':Nat) (u:Und) (v6 v7:Option V),σ=[some (.ref st),some (.ref kt),some (.ref wt),some (.int (p:Int)),some (.ref u0),some (.int (q':Int)),v6,v7]∧ak H H'∧UAt H' u0 l1 l2 l3 u∧bz kinds ws (sh.drop i) q' u=bz kinds ws sh p ⟨[],[],[]⟩∧(u.hs.length≤i∧u.ns.length≤i∧u.vs.length≤i)∧E9 u∧∃d m,pend d ((sh.drop i).map arV)=some 0∧eat d ((ws.drop q').map arV)=some m:=⟨_,λ_ _ _=>abg⟩;refine ⟨⟨sh,S4.tup hS⟩,jf (xs:=sh) P1 ((eP1 _ _ _).mpr ⟨p,⟨[],[],[]⟩,none,none,rfl,S4,U4,rfl,⟨aa7 _,aa7 _,aa7 _⟩,⟨(λ_ h=>nomatch h),(λ_ h=>nomatch h)⟩,1,n,hTm,he⟩) (λi σ H' _ h=>by obtain ⟨_,_,_,_,_,s,_⟩:=(eP1 _ _ _).mp h;exact s.tup hS) ?_ ?_⟩
 ·intro i v σ H5 hvi hh;refine ob4 ((eP1 _ _ _).mp hh) λq' u v6 v7 hh=>?_;have s5:=hh.2.1;have U5:=hh.2.2.1;have e5:=hh.2.2.2.1;have hul:=hh.2.2.2.2.1;have huw:=hh.2.2.2.2.2.1;have hdm:=hh.2.2.2.2.2.2;obtain rfl:=hh.1;clear hh;obtain ⟨d,m,hp5,he5⟩:=hdm;have fin:∀(q2:Nat) (z:Int) (u2:Und) (w6 w7:Option V) (H':Hp),z=(q2:Int)→ak H H'→UAt H' u0 l1 l2 l3 u2→bz kinds ws (sh.drop (i+1)) q2 u2=bz kinds ws sh p ⟨[],[],[]⟩→(u2.hs.length≤i+1∧u2.ns.length≤i+1∧u2.vs.length≤i+1)→E9 u2→(∃d m,pend d ((sh.drop (i+1)).map arV)=some 0∧eat d ((ws.drop q2).map arV)=some m)→P1 (i+1) [some (.ref st),some (.ref kt),some (.ref wt),some (.int (p:Int)),some (.ref u0),some (.int z),w6,w7] H':=λq2 z u2 w6 w7 H' ez a1 a2 a3 a4 a5 a6=>(eP1 _ _ _).mpr ⟨q2,u2,w6,w7,by rw[ez],a1,a2,a3,a4,a5,a6⟩;have hil:i < sh.length:=(List.getElem?_eq_some_iff.mp hvi).1;have ed:sh.drop i=v::sh.drop (i+1):=by
   rw[aaw hil];congr 1
   rw[aa1 hil] at hvi;exact aa3 hvi
  rw[ed] at e5 hp5;obtain ⟨d',rfl⟩:∃d',d=d'+1:=by
   cases d with
   | zero=>cases hp5
   | succ d'=>exact ⟨d',rfl⟩
  have hq:q' < ws.length:=by
   have a1:=Az _ _ _ he5;have a2:=qd _ _ _ he5;rw[aa0,aao] at a2;omega
  have hx:ws[q']?=some ws[q']:=aa1 hq;have hxw:=hw _ (ab3 hq);have hat:atI ws (q':Int)=some ws[q']:=bb hx;have hvw:=hs v (aac hvi);have hgd:ws.getD q' .non=ws[q']:=by rw[aad,hx];rfl
  rw[fw,hgd] at e5;generalize ws[q']=x at hx hxw hat hgd e5;push_cast [and_true];refine Qd hvw (s5.tup hK) ?_;push_cast [and_true];refine ⟨wt,ws,(q':Int),x,rfl,rfl,s5.tup hW,hat,mkLies hvw hxw ?_⟩;push_cast [and_true];cases hli:lies (bu kinds v) v x with
  | false=>
   rw[hli,if_neg (by decide)] at e5;rw[if_pos (show (!false)=true from rfl)];have z:=q H5 s5;rw[←e5] at z;exact z
  | true=>
   rw[hli,if_pos rfl] at e5;rw[if_neg (show ¬(!true)=true by decide)];obtain ⟨d2,m2,hp6,he6⟩:=gm hk hvw hx hxw hp5 he5 hli;have hul':=u.Fi (bu kinds v) q' x hul;have huw':=huw.put hxw (bu kinds v) q';obtain ⟨b1,b2,b3,b4,b5,b6⟩:=lets;refine ei (λσ' H6=>σ'=[some (.ref st),some (.ref kt),some (.ref wt),some (.int (p:Int)),some (.ref u0),some (.int (q':Int)),some v,some (.str (bu kinds v))]∧ak H H6∧UAt H6 u0 l1 l2 l3 (u.put (bu kinds v) q' x)) ?_ ?_
   ·push_cast [and_true];refine ⟨rfl,?_⟩;rcases dk (kinds:=kinds) hvw with ⟨_,h⟩ | ⟨_,h⟩ | ⟨_,h⟩ | ⟨h,_⟩
    ·rw[h,if_pos (by decide+kernel)];refine ⟨_,U5.get2,az U5.2.2.1,rfl,?_⟩;rw[if_neg (show ¬lN=Str.ofString "h" from b1)];exact ⟨wt,ws,_,x,rfl,rfl,s5.tup hW,hat,(bg (K:=K) U5.2.2.1 (by omega) ⟨s5.upd f2 _,U5.put2 n20 n21 n32 q' x⟩).2⟩
    ·rw[h,if_pos (by decide+kernel)];refine ⟨_,U5.get3,az U5.2.2.2,rfl,?_⟩;rw[if_neg (show ¬lV=Str.ofString "h" from b2)];exact ⟨wt,ws,_,x,rfl,rfl,s5.tup hW,hat,(bg (K:=K) U5.2.2.2 (by omega) ⟨s5.upd f3 _,U5.put3 n30 n31 n32 q' x⟩).2⟩
    ·rw[h,if_pos (by decide+kernel)];refine ⟨_,U5.get1,az U5.2.1,rfl,?_⟩;rw[if_pos (show lH=Str.ofString "h" from rfl)];exact (bg (K:=K) U5.2.1 (by rw[aa0];omega) ⟨s5.upd f1 _,U5.put1 n10 n21 n31 q' x⟩).2
    ·rw[h,if_neg (by decide+kernel),u.put0];exact ⟨s5,U5⟩
   ·rintro _ H6 ⟨rfl,s6,U6⟩;push_cast [and_true];refine ⟨rfl,cf (λhH=>?_) λhH=>?_⟩
    ·have hH:bu kinds v=lH:=hH;rw[if_pos hH] at e5 he6;obtain ⟨n1,hn1⟩:=Ga he5;have en:endAt ws q'=q'+n1:=by unfold endAt;rw[hn1];rfl
     rw[en] at e5 he6;exact ⟨wt,ws,q',n1,rfl,s6.tup hW,hw,by omega,hn1,λH7 s7=>fin (q'+n1) _ _ _ _ _ (by omega) (s6.trans s7) (U6.same s7) e5 hul' huw' ⟨d2,m2,hp6,he6⟩⟩
    ·have hH:¬bu kinds v=lH:=hH;rw[if_neg hH] at e5 he6;exact fin (q'+1) _ _ _ _ _ (by omega) s6 U6 e5 hul' huw' ⟨d2,m2,hp6,he6⟩
 ·intro σ H5 hh;refine ob4 ((eP1 _ _ _).mp hh) λq' u v6 v7 hh=>?_;have s5:=hh.2.1;have U5:=hh.2.2.1;have e5:=hh.2.2.2.1;have hul:=hh.2.2.2.2.1;have huw:=hh.2.2.2.2.2.1;have hdm:=hh.2.2.2.2.2.2;obtain rfl:=hh.1;clear hh;obtain ⟨d,m,hp5,he5⟩:=hdm;rw[aca] at e5;have z:=q H5 s5;rw[←e5] at z;push_cast [and_true];refine ⟨_,U5.get1,_,.inl ⟨SqL.of U5.2.1,λt1 ht1=>?_⟩⟩;have U6:=U5.same (aa ht1 (.tup (u.hs.map plV)));refine ⟨_,U6.get2,_,.inl ⟨SqL.of U6.2.2.1,λt2 ht2=>?_⟩⟩;have U7:=U6.same (aa ht2 (.tup u.ns));refine ⟨_,U7.get3,_,.inl ⟨SqL.of U7.2.2.2,λt3 ht3=>⟨by show (3:Nat)≤sizeLine;decide,λt ht=>?_⟩⟩⟩;exact z t _ ((aa ht1 _).trans ((aa ht2 _).trans ((aa ht3 _).trans (aa ht _)))) ⟨t1,t2,t3,ae,aa ht _ _ _ (aa ht3 _ _ _ (aa ht2 _ _ _ ae)),aa ht _ _ _ (aa ht3 _ _ _ ae),aa ht _ _ _ ae⟩ ⟨⟨huw.1,by omega⟩,⟨huw.2,by omega⟩,by omega⟩
noncomputable abbrev jj:Stmt:=top 22
theorem B2:ax ["shape","kinds","under","hole_kinds"] ["shape","kinds","under"] (ag jj):=⟨rfl,rfl,rfl,by decide+kernel,rfl,by decide+kernel,by decide+kernel⟩
theorem Ik (G:Gs w K mg κ) (h_leaf_letter:Has P w K mg base k "leaf_letter" ["word","kinds"] (jk K)) (D:Def K mg "holes_under" jj ["shape","kinds","under"]):Has P w K mg base (k+1) "holes_under" ["shape","kinds","under"] (kg K):=by
 refine D.has B2 (λvs H Q E h=>?_) (λf cdv A outer s H vs Q E hr h=>?_)
 ·obtain ⟨_,_,_,_,_,_,rfl,_,_,_,_,_,_,_,_⟩:=h;rfl
 have nd:=B2.nd;have hu:=bx hr;have hu0:=aae hu;obtain ⟨st,kt,ut,sh,kinds,u,rfl,hS,hK,hU,hk,hw,hl,hn,q⟩:=h;have m_list:=G.m_list;have m_zip:=G.m_zip;refine ⟨_,(A4 (@K8 _ _ _ _ _ _ _ _ _ _ _ _ _ _ _ 3 _ _ _ nd rfl (ab4 rfl) (BN ["word"] ["kinds"] [1] (aal rfl trivial) (aal (aal rfl (aal rfl rfl)) trivial)) rfl (BS (A0 0)) (λ_ _ _=>(BA 0 (show abf (["word","kinds"]:List Str) by decide+kernel))) (λ_ _ _=>(BZ (AF (AM 0) (AE h_leaf_letter hr (A1 (A0 0) (A1 (A9 1) (A2 0)))) (AN 0) (AA 0)))) (λ_ _ _=>(A0 0)) rfl (by intro _;rfl) (.inl rfl)) (A6 (AB (CM m_list m_zip (A1 (A8 (AH 0) (A0 2) (A3 0)) (A1 (A0 3) (A2 0))))))),?_⟩;rw[show start ["shape","kinds","under","hole_kinds"] [.ref st,.ref kt,.ref ut]=[some (.ref st),some (.ref kt),some (.ref ut),none] from rfl];clear hu hu0 nd hr;push_cast [jk];have sz:=sizeLine_eq;refine ⟨⟨sh,hS⟩,λl hl'=>?_⟩;refine Ar (xs:=sh) (λi ys=>ys=(sh.take i).filter (isH kinds)) hS (by omega) hl' rfl (λi x ys H3 G' K' hx hP hl2 hS' hG hK'=>?_) λys H3 hP hl2 hS' hD2=>?_
 ·have hxw:=hw x (aac hx);have et:sh.take (i+1)=sh.take i++[x]:=by rw[ab7,hx];rfl
  push_cast [jk];refine ⟨hxw,kinds,hS'.tup hK,rfl,cf (λe=>?_) λe=>?_⟩
  ·refine hK' _ _ (ak.refl _) ?_;rw[et,aba,←hP,aan,if_pos ((pf hk hxw).mp e)];rfl
  ·refine hG _ (ak.refl _) ?_;rw[et,aba,←hP,aan,if_neg λz=>e ((pf hk hxw).mpr z)];exact (aay _).symm
 ·rw[abm,←iz] at hP;subst hP;obtain ⟨t1,t2,t3,h1,h2,_⟩:=hU;push_cast [tLZ];refine au (hS' _ _ h1) rfl ⟨t1,rfl,u.hs.map plV,SqT.of (hS' _ _ h2),(aq kinds sh).map V.str,SqL.of hD2,by rw[aa0,aa0,hn],λl2 as H2 s2 hl2 hal hL hA=>q l2 H2 (hS'.trans s2) (hS'.free hl2) ⟨as,hL,?_,λj k hj=>?_⟩⟩
  ·rw[hal,aa0,adk,hn,Nat.min_self]
  ·obtain ⟨g1,g2⟩:=List.getElem?_zip_eq_some.mp (show (u.hs.zip (aq kinds sh))[j]?=some (k.1,k.2) from hj);exact hA j _ _ (by rw[aa8,g1];rfl) (by rw[aa8,g2];rfl)
noncomputable abbrev gq:Stmt:=top 23
theorem x8:ax ["book","words","place","fitting","name","kind","price","shape","deeds","under"] ["book","words","place"] (ag gq):=⟨rfl,rfl,rfl,by decide+kernel,rfl,by decide+kernel,by decide+kernel⟩
theorem E7 (G:Gs w K mg κ) (h_holes_under:Has P w K mg base k "holes_under" ["shape","kinds","under"] (kg K)) (h_laid:Has P w K mg base k "laid" ["shape","kinds","words","place"] (wx K)) (D:Def K mg "fitting_rules" gq ["book","words","place"]):Has P w K mg base (k+1) "fitting_rules" ["book","words","place"] lg:=by
 refine D.has x8 (λvs H Q E h=>?_) (λf cdv A outer s H vs Q E hr h=>?_)
 ·obtain ⟨_,_,_,_,_,_,rfl,_,_,_,_,_,_⟩:=h;rfl
 have nd:=x8.nd;have hu:=bx hr;have hu0:=aae hu;obtain ⟨b,wt,kinds,rs,ws,p,rfl,hB,hW,bk,tw,hp,q⟩:=h;refine ⟨_,(A4 (A7 3 nd (AG (A2 0))) (A4 (B0 (BS (A8 (AH 0) (A0 0) (A3 0))) (C3 5 (AV (AO 4 nd (by first | exact ab4 rfl | exact ab6 rfl)) (AV (AO 5 nd (by first | exact ab4 rfl | exact ab6 rfl)) (AV (AO 6 nd (by first | exact ab4 rfl | exact ab6 rfl)) (AV (AO 7 nd (by first | exact ab4 rfl | exact ab6 rfl)) (AV (AO 8 nd (by first | exact ab4 rfl | exact ab6 rfl)) (@ig _))))))) (A4 (A7 9 nd (AE h_laid hr (A1 (A0 7) (A1 (A8 (AH 0) (A0 0) (A3 0)) (A1 (A0 1) (A1 (A0 2) (A2 0))))))) (A6 (AD (BK (CJ (A0 9)) (by first | exact cn _ (by decide) (by decide) | rfl)) (A6 (AQ (AS PySem.F.plainAttrs_list PySem.F.slot_list_append PySem.F.type_list_append (AX 0) (A0 3) (A1 (AI (A1 (A0 4) (A1 (A0 5) (A1 (A0 6) (A1 (AE h_holes_under hr (A1 (A0 7) (A1 (A8 (AH 0) (A0 0) (A3 0)) (A1 (A0 9) (A2 0))))) (A2 0)))))) (A2 0))))) (AL 0))))) (A6 (AB (A0 3))))),?_⟩;rw[show start ["book","words","place","fitting","name","kind","price","shape","deeds","under"] [.ref b,.ref wt,.int (p:Int)]=[some (.ref b),some (.ref wt),some (.int (p:Int)),none,none,none,none,none,none,none] from rfl];clear hu hu0 nd hr;push_cast [and_true];have sz:=sizeLine_eq;have rl:=bk.len;refine ⟨aa7 _,λfl hfl=>?_⟩;have S1:=aa hfl (.lst []);obtain ⟨kt,rt,ra,hb,hkt,hrt,hRA⟩:=hB;refine au (S1 _ _ hb) rfl ⟨rt,rfl,⟨_,SqT.of (S1 _ _ hrt)⟩,?_⟩;obtain ⟨P1,eP1⟩:∃P1:Nat→L2.St→Hp→Prop,∀j σ H',P1 j σ H'↔∃(as:List Addr) (v4 v5 v6 v7 v8 v9:Option V),σ=[some (.ref b),some (.ref wt),some (.int (p:Int)),some (.ref fl),v4,v5,v6,v7,v8,v9]∧ak H H'∧H' fl=some (.lst (as.map V.ref))∧de H' (λx=>H x≠none∨x=fl) as ((rs.take j).filterMap (kh kinds ws p)):=⟨_,λ_ _ _=>abg⟩;refine jf (xs:=ra.map V.ref) P1 ((eP1 _ _ _).mpr ⟨[],none,none,none,none,none,none,rfl,S1,ae,de.nil _ _⟩) (λj σ H' _ h=>by obtain ⟨_,_,_,_,_,_,_,_,s,_⟩:=(eP1 _ _ _).mp h;exact SqT.of (s _ _ hrt)) ?_ ?_
 ·intro j y σ H5 hy hh;refine ob7 ((eP1 _ _ _).mp hh) λas v4 v5 v6 v7 v8 v9 hh=>?_;have s5:=hh.2.1;have f5:=hh.2.2.1;have F5:=hh.2.2.2;obtain rfl:=hh.1;clear hh;rw[aa8] at hy;obtain ⟨aj,haj,rfl⟩:=Option.map_eq_some_iff.mp hy;have hjl:j < rs.length:=by rw[←hRA.1];exact (List.getElem?_eq_some_iff.mp haj).1
  have hrj:rs[j]?=some rs[j]:=aa1 hjl;obtain ⟨a',ha',sa,da,ds,g1,g2,g3⟩:=hRA.2 j _ hrj;obtain rfl:a'=aj:=aa3 (ha'.symm.trans haj);generalize rs[j]=r at hrj g1 g2;have hrm:=aac hrj;obtain ⟨n,hn⟩:=tw.eat hp;obtain ⟨w1,w2,w3⟩:=bk.sh r hrm;have twl:=tw.len;have et:(rs.take (j+1)).filterMap (kh kinds ws p)=(rs.take j).filterMap (kh kinds ws p)++(kh kinds ws p r).toList:=by
   rw[ab7,hrj,ada];congr 1
  refine Ke (s5 _ _ g1) rfl ?_;push_cast [and_true];refine au (s5 _ _ hb) rfl (Jt (n:=n) (SqT.of (s5 _ _ g2)) (SqT.of (s5 _ _ hkt)) (SqT.of (s5 _ _ hW)) bk.kd w1 (λv hv=>(tw.w v hv).1) w2 hn (by omega) twl λH6 s6=>?_);have S6:=s5.trans s6;cases hu:bz kinds ws r.shape p ⟨[],[],[]⟩ with
  | none=>
   have ef:kh kinds ws p r=none:=by unfold kh;rw[hu];rfl
   refine qi ?_;push_cast [pe];rw[if_neg (by simp)];refine (eP1 _ _ _).mpr ⟨as,_,_,_,_,_,_,rfl,S6,s6 _ _ f5,?_⟩;rw[et,ef,show (none:Option Pc.Fr).toList=[] from rfl,aay];exact F5.kx (Kx.same s6)
  | some u=>
   intro t H7 s7 hu7 ok7;have ef:kh kinds ws p r=some ⟨r.name,r.kind,r.price,u.hs.zip (aq kinds r.shape)⟩:=by unfold kh;rw[hu];rfl
   have S7:=S6.trans s7;push_cast [pe];rw[if_pos (by simp)];have s57:=s6.trans s7;have f7:=s57 _ _ f5;refine ⟨az f7,au (S7 _ _ hb) rfl (Cm (SqT.of (S7 _ _ g2)) (SqT.of (S7 _ _ hkt)) hu7 bk.kd w1 (by omega) (by have:=(ku bk.kd r.shape p _ u w1 hu).1;simpa using this) λl H8 s8 hl8 hh8=>⟨by show (4:Nat)≤sizeLine;decide,λpr hpr=>?_⟩)⟩;have s9:=aa hpr (.tup [V.str r.name,V.str r.kind,V.int r.price,V.ref l]);have e9:upd H8 pr (.tup [V.str r.name,V.str r.kind,V.int r.price,V.ref l]) pr=some (.tup [V.str r.name,V.str r.kind,V.int r.price,V.ref l]):=ae;generalize upd H8 pr (.tup [V.str r.name,V.str r.kind,V.int r.price,V.ref l])=H9 at s9 e9 ⊢;have s79:=s8.trans s9;have f9:=s79 _ _ f7;have fal:as.length≤100:=by
    rw[F5.1];exact aar (abo _ _) (by rw[ab0];omega)
   refine (bg (K:=K) f9 (by rw[aa0];omega) ((eP1 _ _ _).mpr ⟨as++[pr],_,_,_,_,_,_,rfl,(S7.trans s79).upd hfl _,by rw[ae,aa5];rfl,?_⟩)).2;rw[et,ef];refine de.kx (de.snoc (F5.kx (Kx.same (s57.trans s79))) ⟨l,?_,e9,hh8.same s9⟩) ((Kx.upd f9).weak λx hx=>.inr hx);rintro (z | z)
   ·exact z (S7.free hl8)
   ·exact (ah f7 hl8) z.symm
 ·intro σ H5 hh;refine ob7 ((eP1 _ _ _).mp hh) λas v4 v5 v6 v7 v8 v9 hh=>?_;have s5:=hh.2.1;have f5:=hh.2.2.1;have F5:=hh.2.2.2;obtain rfl:=hh.1;clear hh;push_cast [and_true];rw[aa0,aby (by rw[hRA.1];exact aa4 _)] at F5;exact q fl as H5 s5 hfl f5 (F5.weak λx hx=>.inl hx)
noncomputable abbrev m4:Stmt:=top 24
theorem Fe:ax ["own","holes","least","total","hole"] ["own","holes","least"] (ag m4):=⟨rfl,rfl,rfl,by decide+kernel,rfl,by decide+kernel,by decide+kernel⟩
theorem M7 (G:Gs w K mg κ) (D:Def K mg "price_there" m4 ["own","holes","least"]):Has P w K mg base (k+1) "price_there" ["own","holes","least"] jt:=by
 refine D.has Fe (λvs H Q E h=>?_) (λf cdv A outer s H vs Q E hr h=>?_)
 ·obtain ⟨_,_,_,_,_,_,rfl,_,_,_⟩:=h;rfl
 have nd:=Fe.nd;have hu:=bx hr;have hu0:=aae hu;obtain ⟨own,hl,d,hs,g,n,rfl,hH,hT,q⟩:=h;refine ⟨_,(A4 (A7 3 nd (A0 0)) (A4 (B0 (BO (A0 1)) (AO 4 nd (by first | exact ab4 rfl | exact ab6 rfl)) (A4 (AD (BK (C4 hu (A0 4) (A0 2)) (by first | exact cn _ (by decide) (by decide) | rfl)) (A6 (AB (@vq _ _ _))) (AL 0)) (A6 (A7 3 nd (A5 (AR 0) (A0 3) (BE hu (A0 2) (A0 4))))))) (A6 (AB (A0 3))))),?_⟩;rw[show start ["own","holes","least","total","hole"] [.int own,.ref hl,.ref d]=[some (.int own),some (.ref hl),some (.ref d),none,none] from rfl];clear hu hu0 nd hr;push_cast [and_true];obtain ⟨as,h1,h2,h3⟩:=hH;refine ⟨⟨_,SqL.of h1⟩,dz (xs:=as.map V.ref) (λi σ H'=>∃(c:Int) (v4:Option V),σ=[some (.int own),some (.ref hl),some (.ref d),some (.int c),v4]∧H=H'∧cost g c (hs.drop i)=cost g own hs) ⟨own,none,rfl,rfl,rfl⟩ (λi σ H' _ h=>by obtain ⟨_,_,_,rfl,_⟩:=h;exact SqL.of h1) ?_ ?_⟩
 ·rintro i y σ H' hy ⟨c,v4,rfl,rfl,hc⟩;rw[aa8] at hy;obtain ⟨a,ha,rfl⟩:=Option.map_eq_some_iff.mp hy;have hil:i < hs.length:=by rw[←h2];exact (List.getElem?_eq_some_iff.mp ha).1
  have hk:hs[i]?=some hs[i]:=aa1 hil;obtain ⟨a',ha',hA⟩:=h3 i _ hk;obtain rfl:a'=a:=aa3 (ha'.symm.trans ha);rw[aaw hil] at hc;push_cast [and_true];refine ⟨_,hT.get hA,?_⟩;cases e:g hs[i] with
  | none=>
   rw[gk e] at hc;rw[←hc] at q;exact q
  | some v=>
   rw[gb e] at hc;have hG:=hT.val hA e;rw[if_neg (by simp)];exact ⟨_,hG,hc⟩
 ·rintro σ H' ⟨c,v4,rfl,rfl,hc⟩;rw[aa0,h2,aca] at hc;have hc:some c=cost g own hs:=hc;push_cast [and_true];rw[←hc] at q;exact q
noncomputable abbrev jx:Stmt:=top 25
theorem Bq:ax ["place","fitting","least","settled","name","kind","own","holes","price"] ["place","fitting","least"] (ag jx):=⟨rfl,rfl,rfl,by decide+kernel,rfl,by decide+kernel,by decide+kernel⟩
theorem Ib (G:Gs w K mg κ) (h_price_there:Has P w K mg base k "price_there" ["own","holes","least"] jt) (D:Def K mg "settle_part" jx ["place","fitting","least"]):Has P w K mg base (k+1) "settle_part" ["place","fitting","least"] pq:=by
 refine D.has Bq (λvs H Q E h=>?_) (λf cdv A outer s H vs Q E hr h=>?_)
 ·obtain ⟨_,_,_,_,_,_,_,rfl,_,_,_,_,_,_,_,_⟩:=h;rfl
 have nd:=Bq.nd;have hu:=bx hr;have hu0:=aae hu;obtain ⟨p,fl,d,as,fs,g,n,rfl,hF,hFs,hT,hn,ho,hpos,hnew,q⟩:=h;refine ⟨_,(A4 (A7 3 nd (BD 0)) (A6 (C0 (BY (B9 (A0 3))) (A4 (A7 3 nd (BD 0)) (A6 (B0 (BO (A0 1)) (C3 4 (AV (AO 4 nd (by first | exact ab4 rfl | exact ab6 rfl)) (AV (AO 5 nd (by first | exact ab4 rfl | exact ab6 rfl)) (AV (AO 6 nd (by first | exact ab4 rfl | exact ab6 rfl)) (AV (AO 7 nd (by first | exact ab4 rfl | exact ab6 rfl)) (@ig _)))))) (A4 (A7 8 nd (AE h_price_there hr (A1 (A0 6) (A1 (A0 7) (A1 (A0 2) (A2 0)))))) (A6 (AD (BB (BL (BK (CJ (A0 8)) (by first | exact cn _ (by decide) (by decide) | rfl)) (BP (BB (C7 (BK (C4 hu (AI (A1 (A0 0) (A1 (A0 5) (A2 0)))) (A0 2)) (by first | exact cn _ (by decide) (by decide) | rfl)) (C8 (AF (@pz _) (A0 8) (BE hu (A0 2) (AI (A1 (A0 0) (A1 (A0 5) (A2 0))))) (AA 0)))))))) (A4 (CN hu (A0 2) (AI (A1 (A0 0) (A1 (A0 5) (A2 0)))) (A0 8)) (A6 (A7 3 nd (BD 0)))) (AL 0)))))))))),?_⟩;rw[show start ["place","fitting","least","settled","name","kind","own","holes","price"] [.int (p:Int),.ref fl,.ref d]=[some (.int (p:Int)),some (.ref fl),some (.ref d),none,none,none,none,none,none] from rfl];clear hu hu0 nd hr;push_cast [and_true];have sz:=sizeLine_eq;have hal:=hFs.1;have own:∀f∈fs.map (eo p),1≤f.own:=λf hf=>by
  obtain ⟨f',hf',rfl⟩:=List.mem_map.mp hf;exact ho f' hf'
 obtain ⟨μ,Ok,ok0,okpos,okstep⟩:=ends (F:=fs.map (eo p)) hpos own hT.bound;have cl:∀g',cnt (fs.map (eo p)) g'≤fs.length:=λg'=>by have:=E3 (fs.map (eo p)) g';rw[aa0] at this;exact this
 have keep:∀{H':Hp},ay d H H'→H' fl=some (.lst (as.map V.ref))∧de H' (λ_=>False) as fs:=λs'=>⟨(Kx.tb (no:=λ_=>False) hT s').l id hF,hFs.kx (Kx.tb hT s')⟩;obtain ⟨P1,eP1⟩:∃P1:L2.St→Hp→Prop,∀σ H',P1 σ H'↔∃(g':Ky→Option Int) (b:Bool) (v4 v5 v6 v7 v8:Option V),σ=[some (.int (p:Int)),some (.ref fl),some (.ref d),some (.bl b),v4,v5,v6,v7,v8]∧ay d H H'∧cu H' d g' (n+cnt (fs.map (eo p)) g')∧SetI p fs g Ok g'∧(b=true→ji (fs.map (eo p)) g'):=⟨_,λ_ _=>abg⟩;refine gn P1 (λσ H'=>2*μ (gOf H' d)+blAt σ) ((eP1 _ _).mpr ⟨g,false,none,none,none,none,none,rfl,ay.refl _ _,hT.mono (abj _ _),⟨ok0,λ_ _=>rfl,λk v hk hv=>by rw[hnew k hk] at hv;cases hv⟩,λe=>nomatch e⟩) ?_ ?_
 ·intro σ H1 hh;refine ob7 ((eP1 _ _).mp hh) λg1 b v4 v5 v6 v7 v8 hh=>?_;have s1:=hh.2.1;have T1:=hh.2.2.1;have I1:=hh.2.2.2.1;have st1:=hh.2.2.2.2;obtain rfl:=hh.1;clear hh;push_cast [and_true];cases b with
  | true=>
   rw[if_neg (by simp)];exact q H1 g1 s1 (T1.mono (by have:=cl g1;omega)) (st1 rfl) I1.far I1.due (okpos g1 I1.ok)
  | false=>
   rw[if_pos (by simp)];obtain ⟨f1,F1⟩:=keep s1;have e1:=Ap T1;obtain ⟨Pv,ePv⟩:∃Pv:Nat→L2.St→Hp→Prop,∀i σ H',Pv i σ H'↔∃(g':Ky→Option Int) (b:Bool) (v4 v5 v6 v7 v8:Option V),σ=[some (.int (p:Int)),some (.ref fl),some (.ref d),some (.bl b),v4,v5,v6,v7,v8]∧ay d H H'∧cu H' d g' (n+cnt (fs.map (eo p)) g')∧SetI p fs g Ok g'∧(b=true→g'=g1∧∀(j:Nat) (f:Pc.Fr),j < i→fs[j]?=some f→Kn p g1 f)∧(b=false→μ g' < μ g1):=⟨_,λ_ _ _=>abg⟩;refine ⟨⟨_,SqL.of f1⟩,dz (xs:=as.map V.ref) Pv ((ePv _ _ _).mpr ⟨g1,true,v4,v5,v6,v7,v8,rfl,s1,T1,I1,λ_=>⟨rfl,λj f h=>absurd h (ac2 _)⟩,λe=>nomatch e⟩) (λi σ H' _ h=>by obtain ⟨_,_,_,_,_,_,_,_,s,_⟩:=(ePv _ _ _).mp h;exact SqL.of (keep s).1) ?_ ?_⟩
   ·intro i y σ H2 hy hh;refine ob7 ((ePv _ _ _).mp hh) λg2 b v4 v5 v6 v7 v8 hh=>?_;have s2:=hh.2.1;have T2:=hh.2.2.1;have I2:=hh.2.2.2.1;have bt2:=hh.2.2.2.2.1;have bf2:=hh.2.2.2.2.2;obtain rfl:=hh.1;clear hh;rw[aa8] at hy;obtain ⟨a,ha,rfl⟩:=Option.map_eq_some_iff.mp hy;have hil:i < fs.length:=by rw[←hal];exact (List.getElem?_eq_some_iff.mp ha).1
    have hfi:fs[i]?=some fs[i]:=aa1 hil;obtain ⟨f2,F2⟩:=keep s2;obtain ⟨a',ha',hl,_,h3,h4⟩:=F2.2 i _ hfi;obtain rfl:a'=a:=aa3 (ha'.symm.trans ha);generalize fs[i]=f at hfi h3 h4;have hfm:=aac hfi;refine Cp h3 rfl ?_;push_cast [and_true];refine Oh h4 T2 ?_;have no:∀H' w4 w5 w6 w7 w8,ak H2 H'→Kn p g2 f→Pv (i+1) [some (.int (p:Int)),some (.ref fl),some (.ref d),some (.bl b),w4,w5,w6,w7,w8] H':=λH' w4 w5 w6 w7 w8 s' so=>(ePv _ _ _).mpr ⟨g2,b,w4,w5,w6,w7,w8,rfl,s2.trans (ay.of s'),T2.same s',I2,λe=>⟨(bt2 e).1,λj f' hj hf'=>by
     obtain ⟨e1',h⟩:=bt2 e;by_cases c:j < i
     ·exact h j f' c hf'
     ·obtain rfl:j=i:=by omega
      obtain rfl:f=f':=aa3 (hfi.symm.trans hf');rw[←e1'];exact so⟩,bf2⟩
    have yes:∀(H':Hp) (b':Addr) (c:Int) w4 w5 w6 w7 w8,ak H2 H'→H' b'=some (kyT (p,f.kind))→cost g2 f.own f.hs=some c→Imp g2 (p,f.kind) c→∃H'',sj H' d (.ref b') (.int c) H''∧Pv (i+1) [some (.int (p:Int)),some (.ref fl),some (.ref d),some (.bl false),w4,w5,w6,w7,w8] H'':=λH' b' c w4 w5 w6 w7 w8 s' hb hc im=>by
     obtain ⟨o,hput,htb⟩:=(T2.same s').put (v:=c) hb (by have:=cl g2;omega);obtain ⟨ok',lt⟩:=okstep g2 (eo p f) c I2.ok (List.mem_map.mpr ⟨f,hfm,rfl⟩) hc im;refine ⟨upd H' d o,hput,(ePv _ _ _).mpr ⟨fb g2 (p,f.kind) c,false,w4,w5,w6,w7,w8,rfl,(s2.trans (ay.of s')).trans (ay.tb o),htb.mono (cnt_up hfm),I2.put hfm hc im ok',(λe=>nomatch e),λ_=>?_⟩⟩;have lt:μ (fb g2 (p,f.kind) c) < μ g2:=lt;cases b with
     | true=>
      obtain ⟨rfl,_⟩:=bt2 rfl;exact lt
     | false=>
      have:=bf2 rfl;omega
    cases e:cost g2 f.own f.hs with
    | none=>
     push_cast [pe];rw[if_neg (by simp)];exact no H2 _ _ _ _ _ (ak.refl _) (λc hc=>by rw[e] at hc;cases hc)
    | some c=>
     push_cast [pe];rw[if_pos (by simp)];refine ⟨by show (2:Nat)≤sizeLine;decide,λp1 hp1=>⟨_,(T2.same (aa hp1 _)).get (k:=(p,f.kind)) ae,?_⟩⟩;cases e2:g2 (p,f.kind) with
     | none=>
      rw[if_pos (by simp)];exact ⟨by show (2:Nat)≤sizeLine;decide,λp2 hp2=>yes _ p2 c _ _ _ _ _ ((aa hp1 _).trans (aa hp2 _)) ae e (.inl e2)⟩
     | some v=>
      rw[if_neg (by simp)];refine ⟨by show (2:Nat)≤sizeLine;decide,λp2 hp2=>⟨_,(T2.same ((aa hp1 _).trans (aa hp2 _))).val (k:=(p,f.kind)) ae e2,cf (λlt=>⟨by show (2:Nat)≤sizeLine;decide,λp3 hp3=>yes _ p3 c _ _ _ _ _ ((aa hp1 _).trans ((aa hp2 _).trans (aa hp3 _))) ae e (.inr ⟨v,e2,lt⟩)⟩) λnlt=>no _ _ _ _ _ _ ((aa hp1 _).trans (aa hp2 _)) λc' hc'=>⟨v,e2,?_⟩⟩⟩;rw[e] at hc';have:=aa3 hc';omega
   ·intro σ H2 hh;refine ob7 ((ePv _ _ _).mp hh) λg2 b v4 v5 v6 v7 v8 hh=>?_;have s2:=hh.2.1;have T2:=hh.2.2.1;have I2:=hh.2.2.2.1;have bt2:=hh.2.2.2.2.1;have bf2:=hh.2.2.2.2.2;obtain rfl:=hh.1;clear hh;refine ⟨(eP1 _ _).mpr ⟨g2,b,v4,v5,v6,v7,v8,rfl,s2,T2,I2,λe=>?_⟩,?_⟩
    ·obtain ⟨rfl,h⟩:=bt2 e;exact Ig λj f hf=>h j f (by rw[aa0,hal];exact (List.getElem?_eq_some_iff.mp hf).1) hf
    ·rw[e1,Ap T2];cases b with
     | true=>
      obtain ⟨rfl,_⟩:=bt2 rfl;show 2*μ g2+0 < 2*μ g2+1
      omega
     | false=>
      have:=bf2 rfl;show 2*μ g2+1 < 2*μ g1+1
      omega
 ·intro σ H1 Q1 Q2 h c;simp only[tNot,iu,tB,fo] at c ⊢;obtain ⟨v,hv,cc,e,hq⟩:=c;exact ⟨v,hv,cc,e,h _ _ hq⟩
noncomputable abbrev uk:Stmt:=top 26
theorem Jl:ax ["kind","price","fitting","least"] ["kind","price","fitting","least"] (ag uk):=⟨rfl,rfl,rfl,by decide+kernel,rfl,by decide+kernel,by decide+kernel⟩
theorem hasWith (G:Gs w K mg κ) (h_price_there:Has P w K mg base k "price_there" ["own","holes","least"] jt) (D:Def K mg "rules_with_price" uk ["kind","price","fitting","least"]):Has P w K mg base (k+1) "rules_with_price" ["kind","price","fitting","least"] Bb:=by
 refine D.has Jl (λvs H Q E h=>?_) (λf cdv A outer s H vs Q E hr h=>?_)
 ·obtain ⟨_,_,_,_,_,_,_,_,rfl,_,_,_,_,_⟩:=h;rfl
 have nd:=Jl.nd;have hu:=bx hr;have hu0:=aae hu;obtain ⟨k,v,fl,d,as,fs,g,n,rfl,hF,hFs,hn,hT,q⟩:=h;refine ⟨_,(A6 (AB (BT (BN ["name","other","own","holes"] ["kind","least","price"] [0,3,1] (aal rfl (aal rfl (aal rfl trivial))) (aal (aal rfl (aal rfl rfl)) (aal (aal rfl (aal rfl rfl)) (aal (aal rfl (aal rfl rfl)) trivial)))) (BO (A0 2)) (λ_ _ _=>(@G9 _ _ K rfl _ _ _ 4 rfl (AV (BA 0 (show abf (["name","other","own","holes","kind","least","price"]:List Str) by decide+kernel)) (AV (BA 1 (show abf (["name","other","own","holes","kind","least","price"]:List Str) by decide+kernel)) (AV (BA 2 (show abf (["name","other","own","holes","kind","least","price"]:List Str) by decide+kernel)) (AV (BA 3 (show abf (["name","other","own","holes","kind","least","price"]:List Str) by decide+kernel)) (@ig _))))) rfl rfl)) (λ_ _ _=>(BZ (BB (BL (AF (AM 0) (A0 1) (A9 4) (AA 0)) (BP (AF (AM 0) (AE h_price_there hr (A1 (A0 2) (A1 (A0 3) (A1 (A9 5) (A2 0))))) (A9 6) (AA 0))))))) (λ_ _ _=>(A0 0))))),?_⟩;rw[show start ["kind","price","fitting","least"] [.str k,.int v,.ref fl,.ref d]=[some (.str k),some (.int v),some (.ref fl),some (.ref d)] from rfl];clear hu hu0 nd hr;push_cast [jt];have sz:=sizeLine_eq;have hal:=hFs.1;have one:∀(i:Nat) (t:Addr),as[i]?=some t→∃f hl,fs[i]?=some f∧H t=some (.tup [.str f.name,.str f.kind,.int f.own,.ref hl])∧mf H hl f.hs:=λi t ht=>by
  have hi:i < fs.length:=by rw[←hal];exact (List.getElem?_eq_some_iff.mp ht).1
  obtain ⟨a,h1,hl,_,h3,h4⟩:=hFs.2 i _ (aa1 hi);obtain rfl:a=t:=aa3 (h1.symm.trans ht);exact ⟨_,hl,aa1 hi,h3,h4⟩
 refine ⟨⟨_,SqL.of hF⟩,λD hD=>Cw (as:=as) (λi ys _=>ys=(namesW (fs.take i) g k v).map V.str) (λ_ _ _ _ _ h=>h) rfl (SqL.of hF) (λi t ht=>?_) (by omega) hD rfl (λi t x0 x1 x2 x3 ys H3 G' K' ht hx hP hl2 hS' hG hK'=>?_) λys H3 hP hl2 hS' hD2=>?_⟩
 ·obtain ⟨f,hl,_,h,_⟩:=one i t ht;exact ⟨_,_,_,_,h⟩
 ·obtain ⟨f,hl,hf,h,hh⟩:=one i t ht;rw[hx] at h;simp only[adv,HO.tup.injEq,ace,and_true] at h;obtain ⟨rfl,rfl,rfl,rfl⟩:=h;have et:namesW (fs.take (i+1)) g k v=namesW (fs.take i) g k v++if f.kind=k∧cost g f.own f.hs=some v then [f.name] else []:=by
   unfold namesW;rw[ab7,hf,aba,aa5];congr 1
   show (List.filter _ [f]).map _=_
   rw[aan];by_cases c:f.kind=k∧cost g f.own f.hs=some v
   ·rw[if_pos c,if_pos (decide_eq_true c)];rfl
   ·rw[if_neg c,if_neg (by simpa using c)];rfl
  push_cast [jt];refine ⟨rfl,cf (λe=>?_) λe=>?_⟩
  ·refine ⟨_,hh.same hS',g,⟨n,hT.same hS'⟩,?_⟩;cases e2:cost g f.own f.hs with
   | none=>
    refine ⟨rfl,?_⟩;rw[if_neg (by intro z;cases z)];refine hG _ (ak.refl _) ?_;rw[et,if_neg (λz=>by rw[e2] at z;cases z.2),aay];exact hP
   | some c=>
    refine ⟨rfl,cf (λe3=>?_) λe3=>?_⟩
    ·have e3:c=v:=V.int.inj e3;refine hK' _ _ (ak.refl _) ?_;rw[et,if_pos ⟨e,by rw[e2,e3]⟩,aa5,←hP];rfl
    ·refine hG _ (ak.refl _) ?_;rw[et,if_neg (λz=>e3 (by rw[e2] at z;rw[aa3 z.2])),aay];exact hP
  ·refine hG _ (ak.refl _) ?_;rw[et,if_neg (λz=>e z.1),aay];exact hP
 ·rw[aby (by omega)] at hP;exact q D H3 hS' hD (by rw[←hP];exact hD2)
noncomputable abbrev nu:Stmt:=top 27
theorem Fj:ax ["book","place","fitting","least","rows","kind","price"] ["book","place","fitting","least"] (ag nu):=⟨rfl,rfl,rfl,by decide+kernel,rfl,by decide+kernel,by decide+kernel⟩
theorem J0 (G:Gs w K mg κ) (h_rules_with_price:Has P w K mg base k "rules_with_price" ["kind","price","fitting","least"] Bb) (D:Def K mg "rows_of_part" nu ["book","place","fitting","least"]):Has P w K mg base (k+1) "rows_of_part" ["book","place","fitting","least"] ud:=by
 refine D.has Fj (λvs H Q E h=>?_) (λf cdv A outer s H vs Q E hr h=>?_)
 ·obtain ⟨_,_,_,_,_,_,_,_,_,_,rfl,_,_,_,_,_,_,_⟩:=h;rfl
 have nd:=Fj.nd;have hu:=bx hr;have hu0:=aae hu;obtain ⟨b,fl,d,p,kinds,rs,as,fs,g,n,rfl,hB,hkl,hF,hFs,hn,hT,q⟩:=h;have m_sorted:=G.m_sorted;refine ⟨_,(A4 (A7 4 nd (AG (A2 0))) (A4 (B0 (BO (AC (@Ba _) m_sorted Mh (A1 (A8 (AH 0) (A0 0) (A3 0)) (A2 0)))) (AO 5 nd (by first | exact ab4 rfl | exact ab6 rfl)) (A6 (AD (BK (@pc_din _ _ _ _ _ hu (AI (A1 (A0 1) (A1 (A0 5) (A2 0)))) (A0 3)) (by first | exact cn _ (by decide) (by decide) | rfl)) (A4 (A7 6 nd (BE hu (A0 3) (AI (A1 (A0 1) (A1 (A0 5) (A2 0)))))) (A6 (AQ (AS PySem.F.plainAttrs_list PySem.F.slot_list_append PySem.F.type_list_append (AX 0) (A0 4) (A1 (AI (A1 (A0 1) (A1 (A0 5) (A1 (A0 6) (A1 (AE h_rules_with_price hr (A1 (A0 5) (A1 (A0 6) (A1 (A0 2) (A1 (A0 3) (A2 0)))))) (A2 0)))))) (A2 0)))))) (AL 0)))) (A6 (AB (A0 4))))),?_⟩;rw[show start ["book","place","fitting","least","rows","kind","price"] [.ref b,.int (p:Int),.ref fl,.ref d]=[some (.ref b),some (.int (p:Int)),some (.ref fl),some (.ref d),none,none,none] from rfl];clear hu hu0 nd hr;push_cast [and_true];have sz:=sizeLine_eq;refine ⟨aa7 _,λrl hrl=>?_⟩;have S1:=aa hrl (.lst []);obtain ⟨kt,rt,ra,hb,hkt,hrt,hRA⟩:=hB;refine au (S1 _ _ hb) rfl ⟨kt,rfl,kinds.map V.str,.inr (SqT.of (S1 _ _ hkt)),by rw[aa0];omega,_,Ji,λkl is hpm hin hk=>?_⟩;rw[zh hpm hin];have S2:=S1.trans (aa hk (.lst ((cy kinds).map V.str)));have k2:upd (upd H rl (.lst [])) kl (.lst ((cy kinds).map V.str)) kl=some (.lst ((cy kinds).map V.str)):=ae;have r2:upd (upd H rl (.lst [])) kl (.lst ((cy kinds).map V.str)) rl=some (.lst []):=aa hk _ _ _ ae;generalize upd (upd H rl (.lst [])) kl (.lst ((cy kinds).map V.str))=H2 at S2 k2 r2 ⊢;have hks:(cy kinds).length≤60:=by rw[qo];exact hkl
 have nrk:rl≠kl:=(ah (ae (H:=H) (a:=rl) (o:=.lst [])) hk);obtain ⟨P1,eP1⟩:∃P1:Nat→L2.St→Hp→Prop,∀i σ H',P1 i σ H'↔∃(bs:List Addr) (v5 v6:Option V),σ=[some (.ref b),some (.int (p:Int)),some (.ref fl),some (.ref d),some (.ref rl),v5,v6]∧ak H H'∧H' kl=some (.lst ((cy kinds).map V.str))∧H' rl=some (.lst (bs.map V.ref))∧cm H' (λx=>H x≠none∨x=rl) bs (dm ((cy kinds).take i) fs p g):=⟨_,λ_ _ _=>abg⟩;refine ⟨⟨_,SqL.of k2⟩,dz (xs:=(cy kinds).map V.str) P1 ((eP1 _ _ _).mpr ⟨[],none,none,rfl,S2,k2,r2,cm.nil _ _⟩) (λi σ H' _ h=>by obtain ⟨_,_,_,_,_,hk',_⟩:=(eP1 _ _ _).mp h;exact SqL.of hk') ?_ ?_⟩
 ·intro i y σ H5 hy hh;refine ob3 ((eP1 _ _ _).mp hh) λbs v5 v6 hh=>?_;have s5:=hh.2.1;have k5:=hh.2.2.1;have r5:=hh.2.2.2.1;have R5:=hh.2.2.2.2;obtain rfl:=hh.1;clear hh;rw[aa8] at hy;obtain ⟨z,hz,rfl⟩:=Option.map_eq_some_iff.mp hy;have et:dm ((cy kinds).take (i+1)) fs p g=dm ((cy kinds).take i) fs p g++((g (p,z)).map λv=>(⟨p,z,v,namesW fs g z v⟩:Rw)).toList:=by
   unfold dm;rw[ab7,hz,ada];congr 1
  have hbl:bs.length≤60:=by
   rw[R5.1];exact aar (abo _ _) (by rw[ab0];omega)
  push_cast [and_true];refine ⟨by show (2:Nat)≤sizeLine;decide,λp1 hp1=>⟨_,(hT.same (s5.trans (aa hp1 _))).get (k:=(p,z)) ae,?_⟩⟩;have s6:=aa hp1 (.tup [V.int (p:Int),V.str z]);generalize upd H5 p1 (.tup [V.int (p:Int),V.str z])=H6 at s6 ⊢;have S6:=s5.trans s6;cases e:g (p,z) with
  | none=>
   rw[if_neg (by simp)];refine (eP1 _ _ _).mpr ⟨bs,_,_,rfl,S6,s6 _ _ k5,s6 _ _ r5,?_⟩;rw[et,e];show cm H6 _ bs (_++[])
   rw[aay];exact R5.kx (Kx.same s6)
  | some v=>
   rw[if_pos (by simp)];refine ⟨by show (2:Nat)≤sizeLine;decide,λp2 hp2=>⟨_,(hT.same (S6.trans (aa hp2 _))).val (k:=(p,z)) ae e,?_⟩⟩;have s7:=aa hp2 (.tup [V.int (p:Int),V.str z]);generalize upd H6 p2 (.tup [V.int (p:Int),V.str z])=H7 at s7 ⊢;have S7:=S6.trans s7;have s57:=s6.trans s7;refine ⟨az (s57 _ _ r5),mkWith (S7 _ _ hF) (hFs.kx (Kx.same S7)) hn (hT.same S7) λl H8 s8 hl8 h8=>⟨by show (4:Nat)≤sizeLine;decide,λp3 hp3=>?_⟩⟩;have s9:=aa hp3 (.tup [V.int (p:Int),V.str z,V.int v,V.ref l]);have e9:upd H8 p3 (.tup [V.int (p:Int),V.str z,V.int v,V.ref l]) p3=some (.tup [V.int (p:Int),V.str z,V.int v,V.ref l]):=ae;generalize upd H8 p3 (.tup [V.int (p:Int),V.str z,V.int v,V.ref l])=H9 at s9 e9 ⊢;have s59:=s57.trans (s8.trans s9);have r9:=s59 _ _ r5;refine (bg (K:=K) r9 (by rw[aa0];omega) ((eP1 _ _ _).mpr ⟨bs++[p3],_,_,rfl,(s5.trans s59).upd hrl _,by rw[af nrk.symm];exact s59 _ _ k5,by rw[ae,aa5];rfl,?_⟩)).2;rw[et,e];refine cm.kx (cm.append (R5.kx (Kx.same s59)) (cm.one ⟨l,?_,e9,s9 _ _ h8⟩)) ((Kx.upd r9).weak λx hx=>.inr hx);rintro (y | y)
   ·exact y (S7.free hl8)
   ·exact (ah (s57 _ _ r5) hl8) y.symm
 ·intro σ H5 hh;refine ob3 ((eP1 _ _ _).mp hh) λbs v5 v6 hh=>?_;have s5:=hh.2.1;have k5:=hh.2.2.1;have r5:=hh.2.2.2.1;have R5:=hh.2.2.2.2;obtain rfl:=hh.1;clear hh;push_cast [and_true];rw[aa0,abm] at R5;exact q rl bs H5 s5 hrl r5 (R5.weak λx hx=>.inl hx)
noncomputable abbrev m9:Stmt:=top 28
theorem G7:ax ["book","words","least","parts","place","fitting","rows","part"] ["book","words"] (ag m9):=⟨rfl,rfl,rfl,by decide+kernel,rfl,by decide+kernel,by decide+kernel⟩
theorem Ku (G:Gs w K mg κ) (h_fitting_rules:Has P w K mg base k "fitting_rules" ["book","words","place"] lg) (h_rows_of_part:Has P w K mg base k "rows_of_part" ["book","place","fitting","least"] ud) (h_settle_part:Has P w K mg base k "settle_part" ["place","fitting","least"] pq) (D:Def K mg "rows_with_all_rules" m9 ["book","words"]):Has P w K mg base (k+1) "rows_with_all_rules" ["book","words"] zr:=by
 refine D.has G7 (λvs H Q E h=>?_) (λf cdv A outer s H vs Q E hr h=>?_)
 ·obtain ⟨_,_,_,_,_,rfl,_,_,_,_,_⟩:=h;rfl
 have nd:=G7.nd;have hu:=bx hr;have hu0:=aae hu;obtain ⟨b,wt,kinds,rs,ws,rfl,hB,hW,bk,tw,q⟩:=h;have m_len:=G.m_len;have m_range:=G.m_range;have m_reversed:=G.m_reversed;refine ⟨_,(A4 (A7 2 nd (@ue _ _)) (A4 (A7 3 nd (AG (A2 0))) (A4 (B0 (@Hs _ _ _ _ _ _ _ _ rfl m_range (A1 (A5 (B7 0) (AC (AY 0) m_len cw (A1 (A0 1) (A2 0))) (A3 0)) (A1 (C9 (@kq _) (A3 0)) (A1 (C9 (@kq _) (A3 0)) (A2 0)))) rfl rfl) (AO 4 nd (by first | exact ab4 rfl | exact ab6 rfl)) (A4 (A7 5 nd (AE h_fitting_rules hr (A1 (A0 0) (A1 (A0 1) (A1 (A0 4) (A2 0)))))) (A4 (AQ (AE h_settle_part hr (A1 (A0 4) (A1 (A0 5) (A1 (A0 2) (A2 0)))))) (A6 (AQ (AS PySem.F.plainAttrs_list PySem.F.slot_list_append PySem.F.type_list_append (AX 0) (A0 3) (A1 (AE h_rows_of_part hr (A1 (A0 0) (A1 (A0 4) (A1 (A0 5) (A1 (A0 2) (A2 0)))))) (A2 0)))))))) (A4 (A7 6 nd (AG (A2 0))) (A4 (B0 (@pi_rev _ _ _ _ _ _ rfl m_reversed (A1 (A0 3) (A2 0)) rfl) (AO 7 nd (by first | exact ab4 rfl | exact ab6 rfl)) (A6 (AQ (AS PySem.F.plainAttrs_list PySem.F.slot_list_extend PySem.F.type_list_extend (@lj _) (A0 6) (A1 (A0 7) (A2 0)))))) (A6 (AB (A0 6)))))))),?_⟩;rw[show start ["book","words","least","parts","place","fitting","rows","part"] [.ref b,.ref wt]=[some (.ref b),some (.ref wt),none,none,none,none,none,none] from rfl];clear hu hu0 nd hr;push_cast [and_true];have sz:=sizeLine_eq;have wl:=tw.len;have rl:=bk.len;push_cast [Ew,iDn];intro d hd;refine ⟨aa7 _,λpl hpl=>?_⟩;have S1:=aa hd (.dT []);have S2:=S1.trans (aa hpl (.lst []));have npd:pl≠d:=(ah (ae (H:=H) (a:=d) (o:=.dT [])) hpl).symm;have d2:cu (upd (upd H d (.dT [])) pl (.lst [])) d (λ_=>none) 0:=(cu.nil (H:=H) (d:=d)).same (aa hpl _);have p2:upd (upd H d (.dT [])) pl (.lst []) pl=some (.lst []):=ae;have fpl:H pl=none:=S1.free hpl;generalize upd (upd H d (.dT [])) pl (.lst [])=H2 at S2 d2 p2 ⊢;refine ⟨ws,.inr (SqT.of (S2 _ _ hW)),ws.length,rfl,by omega,?_⟩;have fl100:∀i,(bj kinds rs ws i).length≤100:=λi=>aar (Kk kinds rs ws i) rl;obtain ⟨P1,eP1⟩:∃P1:Nat→L2.St→Hp→Prop,∀i σ H',P1 i σ H'↔∃(g:Ky→Option Int) (pa:List Addr) (v4 v5:Option V),σ=[some (.ref b),some (.ref wt),some (.ref d),some (.ref pl),v4,v5,none,none]∧ak H H'∧cu H' d g ((ws.length - i)*100)∧xy kinds rs ws i g∧H' pl=some (.lst (pa.map V.ref))∧gi H H' pl pa kinds rs ws i g:=⟨_,λ_ _ _=>abg⟩;refine Nz (n:=ws.length) P1 ((eP1 _ _ _).mpr ⟨λ_=>none,[],none,none,rfl,S2,d2.mono (aa7 _),xy.start kinds rs ws,p2,⟨by simp,λq h1 h2=>by omega⟩⟩) ?_ ?_
 ·intro i σ H5 hi hh;refine ob4 ((eP1 _ _ _).mp hh) λg pa v4 v5 hh=>?_;have s5:=hh.2.1;have T5:=hh.2.2.1;have O5:=hh.2.2.2.1;have p5:=hh.2.2.2.2.1;have P5:=hh.2.2.2.2.2;obtain rfl:=hh.1;clear hh;have fi:=fl100 i;push_cast [and_true];refine Hq (hB.same s5) (s5 _ _ hW) bk tw hi λfl as H6 s6 hfl f6 F6=>?_;refine Mw f6 (F6.weak (λ_ h=>h.elim)) (T5.same s6) (by omega) (λf hf=>(jd bk hf).1) O5.pos (λk hk=>?_) λH7 g' s7 T7 st7 far7 due7 pos7=>?_
  ·cases e:g k with
   | none=>rfl
   | some v=>
    have:=(O5.at' k v e).1;omega
  have S7:ak H H7:=λc o h=>s7 c o (ah h hd) ((s5.trans s6) c o h);have x7:∀{no:Addr→Prop},Kx no H6 H7:=Kx.tb (T5.same s6) s7;have p7:=x7.l (no:=λ_=>False) id (s6 _ _ p5);have f7:=x7.l (no:=λ_=>False) id f6;refine ⟨az p7,Oq (hB.same S7) bk.kl f7 ((F6.weak (no':=λ_=>False) (λ_ h=>h.elim)).kx x7) (by omega) T7 λl bs H8 s8 hl8 h8 R8=>?_⟩;have p8:=s8 _ _ p7;have pal:=P5.1;refine (bg (K:=K) p8 (by rw[aa0];omega) ((eP1 _ _ _).mpr ⟨g',pa++[l],_,_,rfl,(S7.trans s8).upd fpl _,((T7.same s8).at λo e=>by rw[af npd.symm];exact e).mono (by omega),xy.step bk O5 hi st7 far7 due7 pos7,by rw[ae,aa5];rfl,?_⟩)).2;refine gi.kx (gi.snoc bk (P5.kx ((Kx.same s6).trans (x7.trans (Kx.same s8)))) hi far7 ?_ h8 (R8.weak λx hx=>?_)) ((Kx.upd p8).weak λx hx=>.inr hx)
  ·rintro (y | y)
   ·exact y (S7.free hl8)
   ·exact (ah p7 hl8) y.symm
  ·rcases hx with y | y
   ·intro z;exact y (S7.free z)
   ·intro z;rw[y,p7] at z;cases z
 ·intro σ H5 hh;refine ob4 ((eP1 _ _ _).mp hh) λg pa v4 v5 hh=>?_;have s5:=hh.2.1;have T5:=hh.2.2.1;have O5:=hh.2.2.2.1;have p5:=hh.2.2.2.2.1;have P5:=hh.2.2.2.2.2;obtain rfl:=hh.1;clear hh;have pal:=P5.1;push_cast [and_true];refine ⟨aa7 _,λrl2 hrl=>⟨_,SqL.of (aa hrl _ _ _ p5),?_⟩⟩;refine Jm (xs:=pa.map V.ref) (λi σ H'=>∃(bs:List Addr) (v7:Option V),σ=[some (.ref b),some (.ref wt),some (.ref d),some (.ref pl),v4,v5,some (.ref rl2),v7]∧ak H5 H'∧H' rl2=some (.lst (bs.map V.ref))∧cm H5 (λx=>H x≠none) bs (mi kinds rs ws g i)) ⟨[],none,rfl,aa hrl _,ae,cm.nil _ _⟩ (λi σ H' _ h=>by obtain ⟨_,_,_,s,_⟩:=h;exact SqL.of (s _ _ p5)) ?_ ?_
  ·rintro i y σ H6 hi hy ⟨bs,v7,rfl,s6,r6,R6⟩;rw[aa0] at hi hy;have hiw:i < ws.length:=by omega
   obtain ⟨a,bs2,g1,g2,g3,g4⟩:=P5.2 i (aa7 _) hiw;rw[aa8,pal,show ws.length - 0 - 1 - i=ws.length - 1 - i by omega,g1] at hy;have hy:V.ref a=y:=aa3 hy;subst hy;push_cast [and_true];have bl:bs.length≤60*i:=by rw[R6.1];exact mj kinds rs ws g bk.kl i
   have bl2:bs2.length≤60:=by rw[g4.1];exact aar (wc _ _ _ _) (by rw[qo];exact bk.kl)
   refine ⟨az r6,rl2,a,bs.map V.ref,bs2.map V.ref,rfl,rfl,r6,s6 _ _ g3,by rw[aa0,aa0];omega,?_⟩;refine ⟨s6.upd hrl _,bs++bs2,by rw[ae,aa5],?_⟩;rw[j7];exact R6.append (g4.weak λx hx=>.inl hx)
  ·rintro σ H6 ⟨bs,v7,rfl,s6,r6,R6⟩;push_cast [and_true];rw[aa0,pal,acm] at R6;exact q rl2 bs H6 g (s5.trans s6) (s5.free hrl) r6 O5.tbl (R6.kx (Kx.same s6))
noncomputable abbrev jh:Stmt:=top 29
theorem Ck:ax ["book","words"] ["book","words"] (ag jh):=⟨rfl,rfl,rfl,by decide+kernel,rfl,by decide+kernel,by decide+kernel⟩
theorem Ii (G:Gs w K mg κ) (h_rows_with_all_rules:Has P w K mg base k "rows_with_all_rules" ["book","words"] zr) (D:Def K mg "prices" jh ["book","words"]):Has P w K mg base (k+1) "prices" ["book","words"] pj:=by
 refine D.has Ck (λvs H Q E h=>?_) (λf cdv A outer s H vs Q E hr h=>?_)
 ·obtain ⟨_,_,_,_,_,rfl,_,_,_,_,_⟩:=h;rfl
 have nd:=Ck.nd;have hu:=bx hr;have hu0:=aae hu;obtain ⟨b,wt,kinds,rs,ws,rfl,hB,hW,bk,tw,q⟩:=h;refine ⟨_,(A6 (AB (BT (BN ["place","kind","price","rules"] [] [] trivial trivial) (BO (AE h_rows_with_all_rules hr (A1 (A0 0) (A1 (A0 1) (A2 0))))) (λ_ _ _=>(@G9 _ _ K rfl _ _ _ 4 rfl (AV (BA 0 (show abf (["place","kind","price","rules"]:List Str) by decide+kernel)) (AV (BA 1 (show abf (["place","kind","price","rules"]:List Str) by decide+kernel)) (AV (BA 2 (show abf (["place","kind","price","rules"]:List Str) by decide+kernel)) (AV (BA 3 (show abf (["place","kind","price","rules"]:List Str) by decide+kernel)) (@ig _))))) rfl rfl)) (λ_ _ _=>(@pif0 _)) (λ_ _ _=>(AI (A1 (A0 0) (A1 (A0 1) (A1 (A0 2) (A1 (A8 (@o8 _ K rfl) (A0 3) (A3 0)) (A2 0)))))))))),?_⟩;rw[show start ["book","words"] [.ref b,.ref wt]=[some (.ref b),some (.ref wt)] from rfl];clear hu hu0 nd hr;push_cast [and_true];have sz:=sizeLine_eq;refine ⟨b,wt,kinds,rs,ws,rfl,hB,hW,bk,tw,λl as H1 g s1 hl h1 T R=>⟨l,rfl,⟨_,SqL.of h1⟩,λD hD=>?_⟩⟩;have rl:=xl (g:=g) bk tw;have hal:=R.1;refine Cw (as:=as) (λi ys H'=>∃bs:List Addr,ys=bs.map V.ref∧sk H' bs ((rowsOf kinds rs ws g).take i)) (λi ys H' H'' tk h=>by obtain ⟨bs,h1,h2⟩:=h;exact ⟨bs,h1,h2.tk tk⟩) rfl (SqL.of h1) (λi t ht=>?_) (by omega) hD ⟨[],rfl,rfl,λj r h=>by simp at h⟩ (λi t x0 x1 x2 x3 ys H3 G' K' ht hx hP hl2 hS' hG hK'=>?_) λys H3 hP hl2 hS' hD2=>?_
 ·obtain ⟨r,nl,_,h,_⟩:=R.get ht;exact ⟨_,_,_,_,h⟩
 ·obtain ⟨r,nl,hr,h,hn⟩:=R.get ht;rw[hx] at h;simp only[adv,HO.tup.injEq,ace,and_true] at h;obtain ⟨rfl,rfl,rfl,rfl⟩:=h;obtain ⟨nm,hnm⟩:=ml T (aac hr);obtain ⟨bs,rfl,hb⟩:=hP;push_cast [and_true];refine aw (v:=.str nm) (hS' _ _ hn) ?_ ⟨by show (4:Nat)≤sizeLine;decide,λpr hpr=>?_⟩
  ·cases e:r.names with
   | nil=>rw[e] at hnm;cases hnm
   | cons y ys=>rw[e] at hnm;cases hnm;exact bb (j:=0) rfl
  ·refine hK' _ _ (aa hpr _) ⟨bs++[pr],by rw[aa5];rfl,?_⟩;rw[ab7,hr];exact (hb.same (aa hpr _)).snoc hnm ae
 ·obtain ⟨bs,rfl,hb⟩:=hP;rw[aby (by omega)] at hb;exact q D bs H3 g (s1.trans hS') (s1.free hD) hD2 T hb
noncomputable abbrev mw:Stmt:=top 31
theorem Fs:ax ["book","name","words","place","kind","rule","under"] ["book","name","words","place","kind"] (ag mw):=⟨rfl,rfl,rfl,by decide+kernel,rfl,by decide+kernel,by decide+kernel⟩
theorem Lc (G:Gs w K mg κ) (h_laid:Has P w K mg base k "laid" ["shape","kinds","words","place"] (wx K)) (D:Def K mg "laid_rule" mw ["book","name","words","place","kind"]):m7 P w K mg base (k+1) "laid_rule" ["book","name","words","place","kind"] (ou κ):=by
 refine D.hasX Fs (λvs H Q E h=>?_) (λf cdv A outer s H vs Q E hr h=>?_)
 ·obtain ⟨_,_,_,_,_,_,_,_,rfl,_,_,_,_,_,_,_,_,_⟩:=h;rfl
 have nd:=Fs.nd;have hu:=bx hr;have hu0:=aae hu;obtain ⟨b,wt,kinds,rs,ws,p,nm,kd,rfl,hB,hW,bk,tw,hp,hnm,hkd,q,e⟩:=h;have m_BadCover:=G.er.m_badCover;refine ⟨_,(A4 (@Lo _ _ _ _ _ _ _ _ (@Di _ _ Du) rfl (BS (A8 (AH 0) (A0 0) (A3 0))) (AO 5 nd (by first | exact ab4 rfl | exact ab6 rfl)) (A6 (AD (BB (BL (AF (AM 0) (A8 (AH 0) (A0 5) (A3 0)) (A0 1) (AA 0)) (BP (AF (AM 0) (A8 (AH 0) (A0 5) (A3 0)) (A0 4) (AA 0))))) (A4 (A7 6 nd (AE h_laid hr (A1 (A8 (AH 0) (A0 5) (A3 0)) (A1 (A8 (AH 0) (A0 0) (A3 0)) (A1 (A0 2) (A1 (A0 3) (A2 0))))))) (A6 (AD (BK (CJ (A0 6)) (by first | exact cn _ (by decide) (by decide) | rfl)) (A6 (AB (AI (A1 (A0 5) (A1 (A0 6) (A2 0)))))) (AL 0)))) (AL 0))) (by intro _;rfl)) (A6 (@yn _ _ _ _ _ _ _ _ _ _ _ _ G.er.x_badCover G.i_BadCover hr m_BadCover (A1 (@Of _ _ _ _ _ _ _ (@pf_r _ _ _ _ _ _ _ (A0 1) (@pf_c _ _ _ _ _ _ _ (@pf_r _ _ _ _ _ _ _ (A0 4) (@pf_c _ _ _ _ _ _ _ (@pf_i _ _ _ _ _ _ _ (A0 3) (@pf_nil _)) (by decide+kernel))) (by decide+kernel))) (by decide)) (A2 0)) rfl (by decide+kernel) rfl rfl))),?_⟩;rw[show start ["book","name","words","place","kind","rule","under"] [.ref b,.str nm,.ref wt,.int (p:Int),.str kd]=[some (.ref b),some (.str nm),some (.ref wt),some (.int (p:Int)),some (.str kd),none,none] from rfl];clear hu hu0 nd hr;push_cast [and_true];have sz:=sizeLine_eq;have rl:=bk.len;have twl:=tw.len;obtain ⟨kt,rt,ra,hb,hkt,hrt,hRA⟩:=id hB;refine au hb rfl ⟨rt,rfl,⟨_,SqT.of hrt⟩,?_⟩;obtain ⟨P1,eP1⟩:∃P1:Nat→L2.St→Hp→Prop,∀j σ H',P1 j σ H'↔∃(v5 v6:Option V),σ=[some (.ref b),some (.str nm),some (.ref wt),some (.int (p:Int)),some (.str kd),v5,v6]∧ak H H'∧∀(i:Nat) (x:Rl),i < j→rs[i]?=some x→x.name=nm→x.kind=kd→bz kinds ws x.shape p ⟨[],[],[]⟩=none:=⟨_,λ_ _ _=>abg⟩;refine jf (xs:=ra.map V.ref) P1 ((eP1 _ _ _).mpr ⟨none,none,rfl,ak.refl _,λi x h=>absurd h (ac2 _)⟩) (λj σ H' _ h=>by obtain ⟨_,_,_,s,_⟩:=(eP1 _ _ _).mp h;exact SqT.of (s _ _ hrt)) ?_ ?_
 ·intro j y σ H5 hy hh;obtain ⟨v5,v6,rfl,s5,hno⟩:=(eP1 _ _ _).mp hh;rw[aa8] at hy;obtain ⟨aj,haj,rfl⟩:=Option.map_eq_some_iff.mp hy;have hjl:j < rs.length:=by rw[←hRA.1];exact (List.getElem?_eq_some_iff.mp haj).1
  have hrj:rs[j]?=some rs[j]:=aa1 hjl;obtain ⟨a',ha',hR⟩:=hRA.2 j _ hrj;obtain rfl:a'=aj:=aa3 (ha'.symm.trans haj);generalize rs[j]=x at hrj hR;have more:(x.name=nm→x.kind=kd→bz kinds ws x.shape p ⟨[],[],[]⟩=none)→∀(i:Nat) (y:Rl),i < j+1→rs[i]?=some y→y.name=nm→y.kind=kd→bz kinds ws y.shape p ⟨[],[],[]⟩=none:=λhx i y hi hyi=>by
   rcases aer i j with z | z
   ·exact hno i y z hyi
   ·obtain rfl:i=j:=by omega
    obtain rfl:x=y:=aa3 (hrj.symm.trans hyi);exact hx
  obtain ⟨sa,da,ds,g1,g2,g3⟩:=id hR;push_cast [and_true];refine au (s5 _ _ g1) rfl ⟨rfl,?_⟩;by_cases c:x.name=nm
  ·refine ifY (by rw[c]) (au (s5 _ _ g1) rfl ⟨rfl,?_⟩);by_cases c2:x.kind=kd
   ·obtain ⟨n,hn⟩:=tw.eat hp;obtain ⟨w1,w2,w3⟩:=bk.sh x (aac hrj);refine ifY (by rw[c2]) (au (s5 _ _ g1) rfl (au (s5 _ _ hb) rfl (Jt (n:=n) (SqT.of (s5 _ _ g2)) (SqT.of (s5 _ _ hkt)) (SqT.of (s5 _ _ hW)) bk.kd w1 (λv hv=>(tw.w v hv).1) w2 hn (by omega) twl λH6 s6=>?_)));cases hu:bz kinds ws x.shape p ⟨[],[],[]⟩ with
    | none=>
     refine qi ?_;push_cast [pe];rw[if_neg (by simp)];exact (eP1 _ _ _).mpr ⟨_,_,rfl,s5.trans s6,more λ_ _=>hu⟩
    | some u=>
     intro t H7 s7 hu7 ok7;push_cast [pe];rw[if_pos (by simp)];refine ⟨by show (2:Nat)≤sizeLine;decide,λpr hpr=>?_⟩;have S7:=(s5.trans s6).trans s7;have s8:=aa hpr (.tup [V.ref a',V.ref t]);refine q (x,u) ?_ pr _ (S7.trans s8) ⟨a',t,ae,hR.same (S7.trans s8),hu7.same s8⟩;rw[←c,←c2,Bd bk hrj,hu];rfl
   ·exact ifN (by simpa using c2) ((eP1 _ _ _).mpr ⟨_,_,rfl,s5,more λ_ z=>absurd z c2⟩)
  ·exact ifN (by simpa using c) ((eP1 _ _ _).mpr ⟨_,_,rfl,s5,more λz=>absurd z c⟩)
 ·intro σ H5 hh;obtain ⟨v5,v6,rfl,s5,hno⟩:=(eP1 _ _ _).mp hh;push_cast [Ag,tFmts,tFR,tFI,tF0];refine ⟨hnm.1,hnm.2,hkd.1,hkd.2,?_,λm=>⟨by show (1:Nat)≤100;decide,e (Hr λi x hi=>hno i x ?_ hi) H5 s5⟩⟩
  ·show p.log2 < 1920
   exact acy (Nat.log2_le_self p) (by omega)
  ·rw[aa0,hRA.1];exact (List.getElem?_eq_some_iff.mp hi).1
noncomputable abbrev wm:Stmt:=top 32
theorem Me:ax ["book","step","rule"] ["book","step"] (ag wm):=⟨rfl,rfl,rfl,by decide+kernel,rfl,by decide+kernel,by decide+kernel⟩
theorem Oy (G:Gs w K mg κ) (h_holes_under:Has P w K mg base k "holes_under" ["shape","kinds","under"] (kg K)) (D:Def K mg "last_hole_first" wm ["book","step"]):Has P w K mg base (k+1) "last_hole_first" ["book","step"] zo:=by
 refine D.has Me (λvs H Q E h=>?_) (λf cdv A outer s H vs Q E hr h=>?_)
 ·obtain ⟨_,_,_,_,_,_,rfl,_,_,_,_,_,_⟩:=h;rfl
 have nd:=Me.nd;have hu:=bx hr;have hu0:=aae hu;obtain ⟨b,t,kinds,rs,r,u,rfl,hB,bk,hr0,hS,hn,q⟩:=h;have m_list:=G.m_list;have m_reversed:=G.m_reversed;refine ⟨_,(A4 (A7 2 nd (A8 (AH 0) (A0 1) (A3 0))) (A6 (AB (@vn _ _ _ _ _ _ _ rfl rfl m_list rfl m_reversed (A1 (AE h_holes_under hr (A1 (A8 (AH 0) (A0 2) (A3 0)) (A1 (A8 (AH 0) (A0 0) (A3 0)) (A1 (A8 (AH 0) (A0 1) (A3 0)) (A2 0))))) (A2 0)) rfl rfl)))),?_⟩;rw[show start ["book","step","rule"] [.ref b,.ref t]=[some (.ref b),some (.ref t),none] from rfl];clear hu hu0 nd hr;push_cast [and_true];have sz:=sizeLine_eq;obtain ⟨kt,rt,ra,hb,hkt,hrt,hRA⟩:=id hB;obtain ⟨ro,ut,t1,hR,hU⟩:=hS;obtain ⟨sa,da,ds,g1,g2,g3⟩:=id hR;obtain ⟨w1,w2,w3⟩:=bk.sh r hr0;refine au t1 rfl ?_;push_cast [tLR];refine au g1 rfl (au hb rfl (au t1 rfl (Cm (SqT.of g2) (SqT.of hkt) hU bk.kd w1 (by omega) hn λl H1 s1 hl h1=>?_)));obtain ⟨as,e1,e2,e3⟩:=h1;refine ⟨l,rfl,_,SqL.of e1,λp hp=>?_⟩;have s2:=aa hp (.lst (as.map V.ref).reverse);refine q p _ (s1.trans s2) (s1.free hp) ⟨as.reverse,by rw[ae,af3],by rw[aas,aas,e2],λj k hj=>?_⟩;have hjl:=(List.getElem?_eq_some_iff.mp hj).1;rw[aas] at hjl;rw[ac3 hjl] at hj;obtain ⟨a,a1,a2⟩:=e3 _ k hj;refine ⟨a,?_,s2 _ _ a2⟩;rw[ac3 (by rw[e2];exact hjl),e2];exact a1
noncomputable abbrev m8:Stmt:=top 33
theorem G3:ax ["book","words","chosen","place","kind","price","rule"] ["book","words"] (ag m8):=⟨rfl,rfl,rfl,by decide+kernel,rfl,by decide+kernel,by decide+kernel⟩
theorem Lv (G:Gs w K mg κ) (h_prices:Has P w K mg base k "prices" ["book","words"] pj) (D:Def K mg "rules_of_table" m8 ["book","words"]):Has P w K mg base (k+1) "rules_of_table" ["book","words"] sy:=by
 refine D.has G3 (λvs H Q E h=>?_) (λf cdv A outer s H vs Q E hr h=>?_)
 ·obtain ⟨_,_,_,_,_,rfl,_,_,_,_,_⟩:=h;rfl
 have nd:=G3.nd;have hu:=bx hr;have hu0:=aae hu;obtain ⟨b,wt,kinds,rs,ws,rfl,hB,hW,bk,tw,q⟩:=h;refine ⟨_,(A4 (A7 2 nd (@ue _ _)) (A4 (B0 (BO (AE h_prices hr (A1 (A0 0) (A1 (A0 1) (A2 0))))) (C3 4 (AV (AO 3 nd (by first | exact ab4 rfl | exact ab6 rfl)) (AV (AO 4 nd (by first | exact ab4 rfl | exact ab6 rfl)) (AV (AO 5 nd (by first | exact ab4 rfl | exact ab6 rfl)) (AV (AO 6 nd (by first | exact ab4 rfl | exact ab6 rfl)) (@ig _)))))) (A6 (CN hu (A0 2) (AI (A1 (A0 3) (A1 (A0 4) (A2 0)))) (A0 6)))) (A6 (AB (A0 2))))),?_⟩;rw[show start ["book","words","chosen","place","kind","price","rule"] [.ref b,.ref wt]=[some (.ref b),some (.ref wt),none,none,none,none,none] from rfl];clear hu hu0 nd hr;push_cast [and_true];have sz:=sizeLine_eq;push_cast [Ew];intro d hd;have s0:=aa hd (.dT []);have d0:upd H d (.dT []) d=some (.dT []):=ae;generalize upd H d (.dT [])=H0 at s0 d0 ⊢;refine Ko (hB.same s0) (s0 _ _ hW) bk tw λfd bs HB g sB hfd hL T R4=>?_;have rl:=xl (g:=g) bk tw;have bl:=R4.1;have dB:=sB _ _ d0;have nfd:fd≠d:=(ah d0 hfd).symm;obtain ⟨P1,eP1⟩:∃P1:Nat→L2.St→Hp→Prop,∀i σ H',P1 i σ H'↔∃v3 v4 v5 v6:Option V,σ=[some (.ref b),some (.ref wt),some (.ref d),v3,v4,v5,v6]∧ay d HB H'∧H' d=some (.dT (((rowsOf kinds rs ws g).take i).map gx)):=⟨_,λ_ _ _=>abg⟩;refine ⟨fd,rfl,⟨_,SqL.of hL⟩,dz (xs:=bs.map V.ref) P1 ((eP1 _ _ _).mpr ⟨none,none,none,none,rfl,ay.refl _ _,dB⟩) (λi σ H' _ h=>by obtain ⟨_,_,_,_,_,s,_⟩:=(eP1 _ _ _).mp h;exact SqL.of (s _ _ nfd hL)) ?_ ?_⟩
 ·intro i y σ H5 hy hh;obtain ⟨v3,v4,v5,v6,rfl,s5,d5⟩:=(eP1 _ _ _).mp hh;rw[aa8] at hy;obtain ⟨a,ha,rfl⟩:=Option.map_eq_some_iff.mp hy;have hil:i < (rowsOf kinds rs ws g).length:=by rw[←bl];exact (List.getElem?_eq_some_iff.mp ha).1
  have hri:(rowsOf kinds rs ws g)[i]?=some (rowsOf kinds rs ws g)[i]:=aa1 hil;obtain ⟨a',nm,h1,h2,h3⟩:=R4.2 i _ hri;obtain rfl:a'=a:=aa3 (h1.symm.trans ha);generalize (rowsOf kinds rs ws g)[i]=r at hri h2 h3;have new:=Dl bk hri;have en:r.names.headD ""=nm:=by rw[ad2,h2];rfl
  refine Cp (s5 _ _ (eh h3 dB (by intro z;cases z)) h3) rfl ?_;push_cast [and_true];refine ⟨by show (2:Nat)≤sizeLine;decide,λp hp=>?_⟩;have s6:=aa hp (.tup [V.int (r.place:Int),V.str r.kind]);have p6:upd H5 p (.tup [V.int (r.place:Int),V.str r.kind]) p=some (.tup ((kyK (je r)).map kV)):=ae;generalize upd H5 p (.tup [V.int (r.place:Int),V.str r.kind])=H6 at s6 p6 ⊢;refine ⟨_,sj.t (k:=kyK (je r)) (s6 _ _ d5) p6 (by rw[aa0,ab0];omega),(eP1 _ _ _).mpr ⟨_,_,_,_,rfl,(s5.trans (ay.of s6)).trans (ay.tb _),?_⟩⟩;rw[ae,wy _ new,ab7,hri,aa5,←en];rfl
 ·intro σ H5 hh;obtain ⟨v3,v4,v5,v6,rfl,s5,d5⟩:=(eP1 _ _ _).mp hh;rw[aa0,bl,abm] at d5;push_cast [and_true];refine q d H5 g (λc o h=>s5 c o (ah h hd) ((s0.trans sB) c o h)) hd T ⟨_,d5,Ow bk T⟩
noncomputable abbrev mz:Stmt:=top 34
theorem Hd:ax ["book","words","kind","chosen","cover","waiting","hole"] ["book","words","kind"] (ag mz):=⟨rfl,rfl,rfl,by decide+kernel,rfl,by decide+kernel,by decide+kernel⟩
theorem Lm (G:Gs w K mg κ) (h_laid_rule:m7 P w K mg base k "laid_rule" ["book","name","words","place","kind"] (ou κ)) (h_last_hole_first:Has P w K mg base k "last_hole_first" ["book","step"] zo) (h_rules_of_table:Has P w K mg base k "rules_of_table" ["book","words"] sy) (D:Def K mg "cheapest" mz ["book","words","kind"]):m7 P w K mg base (k+1) "cheapest" ["book","words","kind"] (jb κ):=by
 refine D.hasX Hd (λvs H Q E h=>?_) (λf cdv A outer s H vs Q E hr h=>?_)
 ·obtain ⟨_,_,_,_,_,_,rfl,_,_,_,_,_,_,_,_,_⟩:=h;rfl
 have nd:=Hd.nd;have hu:=bx hr;have hu0:=aae hu;obtain ⟨b,wt,kd,kinds,rs,ws,rfl,hB,hW,bk,tw,hkd,kz,rz,q,e⟩:=h;have m_NoCover:=G.er.m_noCover;have m_len:=G.m_len;have m_tuple:=G.m_tuple;refine ⟨_,(A4 (A7 3 nd (AE h_rules_of_table hr (A1 (A0 0) (A1 (A0 1) (A2 0))))) (A4 (AD (BK (C4 hu (AI (A1 (A3 0) (A1 (A0 2) (A2 0)))) (A0 3)) (by first | exact cn _ (by decide) (by decide) | rfl)) (A6 (@yn _ _ _ _ _ _ _ _ _ _ _ _ G.er.x_noCover G.i_NoCover hr m_NoCover (A1 (@Pq _ _ _ _ _ _ _ _ (A0 2) (by decide+kernel)) (A2 0)) rfl (by decide+kernel) rfl rfl)) (AL 0)) (A4 (A7 4 nd (AG (A2 0))) (A4 (A7 5 nd (AG (A1 (AI (A1 (A3 0) (A1 (A0 2) (A2 0)))) (A2 0)))) (A4 (@Bu _ _ _ _ _ _ (@Di _ _ Du) (AF (@iq _) (AC (AY 0) m_len cw (A1 (A0 5) (A2 0))) (A3 0) (AA 0)) (A4 (A7 6 nd (CC PySem.F.plainAttrs_list PySem.F.slot_list_pop PySem.F.type_list_pop (@qt _) (A0 5))) (A4 (AQ (AS PySem.F.plainAttrs_list PySem.F.slot_list_append PySem.F.type_list_append (AX 0) (A0 4) (A1 (BE hu (A0 3) (A0 6)) (A2 0)))) (A6 (AQ (AS PySem.F.plainAttrs_list PySem.F.slot_list_extend PySem.F.type_list_extend (@lj _) (A0 5) (A1 (AE h_last_hole_first hr (A1 (A0 0) (A1 (@Nv _ _ _ _ _ _ _ _ _ _ _ h_laid_rule hr (A1 (A0 0) (A1 (BE hu (A0 3) (A0 6)) (A1 (A0 1) (A1 (A8 (AH 0) (A0 6) (A3 0)) (A1 (A8 (AH 0) (A0 6) (A3 0)) (A2 0)))))) rfl (by decide+kernel) rfl rfl) (A2 0)))) (A2 0)))))))) (A6 (AB (B6 (BC 0) m_tuple bw (A1 (A0 4) (A2 0)))))))))),?_⟩;rw[show start ["book","words","kind","chosen","cover","waiting","hole"] [.ref b,.ref wt,.str kd]=[some (.ref b),some (.ref wt),some (.str kd),none,none,none,none] from rfl];clear hu hu0 nd hr;push_cast [and_true];have sz:=sizeLine_eq;refine Py hB hW bk tw λd H1 g s1 hd T C1=>?_;refine ⟨by show (2:Nat)≤sizeLine;decide,λp hp=>⟨d,rfl,_,(C1.same (aa hp _)).get (k:=(0,kd)) ae,?_⟩⟩;have q2:=aa hp (.tup [V.int 0,V.str kd]);have s2:=s1.trans q2;have C2:=C1.same q2;generalize upd H1 p (.tup [V.int 0,V.str kd])=H2 at q2 s2 C2 ⊢;cases ek:g (0,kd) with
 | none=>
  refine ifY rfl ?_;push_cast [Ag,tFmtR];exact ⟨hkd.1,by have:=hkd.2;omega,λm=>⟨by show (1:Nat)≤100;decide,e H2 g s2 T ek⟩⟩
 | some v=>
  refine ifN (by simp) ⟨aa7 _,λcl hcl=>⟨by show (2:Nat)≤sizeLine;decide,λp2 hp2=>⟨by show (1:Nat)≤sizeLine;decide,λwl hwl=>?_⟩⟩⟩;have s3:=aa hcl (.lst []);have s4:=aa hp2 (.tup [V.int 0,V.str kd]);have s5:=aa hwl (.lst [V.ref p2]);have S5:=s2.trans (s3.trans (s4.trans s5));have C5:=C2.same (s3.trans (s4.trans s5));have fcl:=s2.free hcl;have fwl:=(s2.trans (s3.trans s4)).free hwl;have ncw:cl≠wl:=ah (s4 _ _ (ae (H:=H2) (a:=cl) (o:=.lst []))) hwl;have c5:=(s4.trans s5) _ _ (ae (H:=H2) (a:=cl) (o:=.lst []));have p5:=s5 _ _ (ae (H:=upd H2 cl (.lst [])) (a:=p2) (o:=.tup [V.int 0,V.str kd]));have w5:upd (upd (upd H2 cl (.lst [])) p2 (.tup [V.int 0,V.str kd])) wl (.lst [V.ref p2]) wl=some (.lst [V.ref p2]):=ae;generalize upd (upd (upd H2 cl (.lst [])) p2 (.tup [V.int 0,V.str kd])) wl (.lst [V.ref p2])=H5 at s5 S5 C5 c5 p5 w5 ⊢;have wp:=tw.pos;obtain ⟨P1,eP1⟩:∃P1:L2.St→Hp→Prop,∀σ H',P1 σ H'↔∃(bs:List Addr) (done:List Str) (st:List Ky) (v6:Option V),σ=[some (.ref b),some (.ref wt),some (.str kd),some (.ref d),some (.ref cl),some (.ref wl),v6]∧ak H H'∧m6 H' d kinds rs ws g∧H' cl=some (.lst (done.map V.str))∧H' wl=some (.lst (bs.map V.ref))∧KsL H' bs st.reverse∧Prd g st∧done.length+jl kinds ws g st≤61000∧done++cov kinds rs ws g st=cov kinds rs ws g [(0,kd)]:=⟨_,λ_ _=>abg⟩;refine gn P1 (λ_ H'=>61000 - ly H' cl) ((eP1 _ _).mpr ⟨[p2],[],[(0,kd)],none,rfl,S5,C5,c5,w5,KsL.one p5,λk hk=>?_,by have:=vi bk tw g kd wp;show 0+_≤_;omega,rfl⟩) ?_ ?_
  ·rw[List.mem_singleton.mp hk];exact ⟨v,ek,T.pos _ _ ek⟩
  ·intro σ H6 hh;obtain ⟨bs,done,st,v6,rfl,s6,C6,c6,w6,K6,pr6,l6,e6⟩:=(eP1 _ _).mp hh;push_cast [and_true];have bl:=K6.1;rw[aas] at bl;refine ⟨_,.inl (SqL.of w6),?_⟩;rw[aa0,bl];cases st with
   | nil=>
    refine ifN (by decide) ⟨_,.inl ⟨SqL.of c6,λt ht=>?_⟩⟩;have st:=aa ht (.tup (done.map V.str));rw[Fg,aay] at e6;refine q t _ g v (s6.trans st) (s6.free ht) T ek ?_;rw[ae,e6]
   | cons k st=>
    obtain ⟨bs',a,rfl,K6',hk⟩:=K6.pop;obtain ⟨vk,hvk,_⟩:=pr6 k aa9;obtain ⟨i,r,u,h1,h2,h3,h4,h5,h6,h7,h8⟩:=tf bk T hvk;obtain ⟨pr',_⟩:=pr6.step bk T;have ph:=qe bk tw T pr6;have lp:=wd kinds ws g (xq kinds rs ws (pick kinds rs ws g k) k.1++st);rw[De bk T pr6] at e6;refine ifY (by rw[aap];omega) ?_;rw[aa5] at w6;refine qg (xs:=bs'.map V.ref) (y:=.ref a) w6 ?_;have sA:=s6.upd fwl (.lst (bs'.map V.ref));have tkA:TK H6 (upd H6 wl (.lst (bs'.map V.ref))):=TK.put w6 (λ_ z=>nomatch z);have wA:upd H6 wl (.lst (bs'.map V.ref)) wl=some (.lst (bs'.map V.ref)):=ae;have cA:upd H6 wl (.lst (bs'.map V.ref)) cl=some (.lst (done.map V.str)):=by rw[af ncw];exact c6
    have CA:m6 (upd H6 wl (.lst (bs'.map V.ref))) d kinds rs ws g:=C6.at λo h=>by rw[af (C6.ne w6)];exact h
    have hkA:upd H6 wl (.lst (bs'.map V.ref)) a=some (kyT k):=tkA _ _ hk;have KA:=K6'.tk tkA;generalize upd H6 wl (.lst (bs'.map V.ref))=HA at sA tkA wA cA CA hkA KA ⊢;have gA:=CA.get hkA;rw[hvk] at gA;have sB:=sA.upd fcl (.lst (done.map V.str++[V.str (pick kinds rs ws g k)]));have tkB:TK HA (upd HA cl (.lst (done.map V.str++[V.str (pick kinds rs ws g k)]))):=TK.put cA (λ_ z=>nomatch z);have wB:upd HA cl (.lst (done.map V.str++[V.str (pick kinds rs ws g k)])) wl=some (.lst (bs'.map V.ref)):=by rw[af ncw.symm];exact wA
    have cB:upd HA cl (.lst (done.map V.str++[V.str (pick kinds rs ws g k)])) cl=some (.lst (done.map V.str++[V.str (pick kinds rs ws g k)])):=ae;have CB:m6 (upd HA cl (.lst (done.map V.str++[V.str (pick kinds rs ws g k)]))) d kinds rs ws g:=CA.at λo h=>by rw[af (CA.ne cA)];exact h
    have hkB:upd HA cl (.lst (done.map V.str++[V.str (pick kinds rs ws g k)])) a=some (kyT k):=tkB _ _ hkA;have KB:=KA.tk tkB;refine ⟨az cA,_,gA,(bg (K:=K) cA (by rw[aa0];omega) ?_).2⟩;generalize upd HA cl (.lst (done.map V.str++[V.str (pick kinds rs ws g k)]))=HB at sB tkB wB cB CB hkB KB ⊢;have gB:=CB.get hkB;rw[hvk] at gB;have rm:=aac h1;have hru:jv kinds rs ws (pick kinds rs ws g k) k.2 k.1=some (r,u):=by
     rw[←h2,←h3,Bd bk h1,h4];rfl
    refine ⟨az wB,_,gB,au hkB rfl (au hkB rfl (J7 (hB.same sB) (sB _ _ hW) bk tw h8 (h2 ▸ rz r rm) (h3 ▸ kz _ (bk.rk r rm)) (λdd hdd t HC sC hst=>?_) λhno=>absurd (hno.symm.trans hru) (λz=>nomatch z)))⟩;obtain rfl:(r,u)=dd:=aa3 (hru.symm.trans hdd);have SC:=sB.trans sC;have hl:u.hs.length=(aq kinds r.shape).length:=by
     have:=(ku bk.kd _ _ _ _ (bk.sh r rm).1 h4).1;simpa using this
    refine mkLast (r:=r) (u:=u) (hB.same SC) bk rm hst hl λl2 HD sD hl2 hKs=>?_;obtain ⟨cs,e1,KL⟩:=hKs.l;have csl:=KL.1;have bl':=KA.1;rw[aas] at csl bl';rw[h5] at pr' ph lp e6;rw[aa2] at lp;have sBD:=sC.trans sD;have wD:=sBD _ _ wB;have CD:=CB.same sBD;have tkD:TK HD (upd HD wl (.lst (bs'.map V.ref++cs.map V.ref))):=TK.put wD (λ_ z=>nomatch z);have cD:upd HD wl (.lst (bs'.map V.ref++cs.map V.ref)) cl=some (.lst ((done++[pick kinds rs ws g k]).map V.str)):=by rw[af ncw,aa5];exact sBD _ _ cB
    have dl:(done++[pick kinds rs ws g k]).length=done.length+1:=by rw[aa2];rfl
    refine ⟨wl,l2,bs'.map V.ref,cs.map V.ref,rfl,rfl,wD,e1,by rw[aa0,aa0];omega,(eP1 _ _).mpr ⟨bs'++cs,done++[pick kinds rs ws g k],u.hs.zip (aq kinds r.shape)++st,_,rfl,(sB.trans sBD).upd fwl _,CD.at λo h=>by rw[af (CD.ne wD)];exact h,cD,by rw[ae,aa5],?_,pr',by omega,by rw[abi];exact e6⟩,?_⟩
    ·rw[aem];exact ((KB.tk (TK.of sBD)).app KL).tk tkD
    ·rw[gc cD,gc c6,aa0,aa0];omega
  ·intro σ H6 Q1 Q2 h c;exact Ml h c
noncomputable abbrev wa:Stmt:=top 36
theorem Ld:ax ["deck","cells","at"] ["deck"] (ag wa):=⟨rfl,rfl,rfl,by decide+kernel,rfl,by decide+kernel,by decide+kernel⟩
theorem hasNext (G:Gs w K mg κ) (D:Def K mg "_law_next" wa ["deck"]):Has P w K mg base (k+1) "_law_next" ["deck"] jg:=by
 refine D.has Ld (λvs H Q E h=>?_) (λf cdv A outer s H vs Q E hr h=>?_)
 ·obtain ⟨_,_,_,_,rfl,_,_,_⟩:=h;rfl
 have nd:=Ld.nd;have hu:=bx hr;have hu0:=aae hu;obtain ⟨d,b,ns,n,rfl,hD,hn,q⟩:=h;have m_len:=G.m_len;refine ⟨_,(A4 (A7 1 nd (A8 (AU 0) (A0 0) (A3 0))) (A4 (A7 2 nd (A8 (AU 0) (A0 0) (A3 0))) (A4 (@J4 _ _ _ _ _ _ (A5 (AR 0) (A0 2) (A3 0)) (@Mt _ _ _ _ _ _ _ (A0 0) (A3 0) (@set_list _) (by intro _;rfl)) rfl rfl rfl) (A4 (AD (AF (@pz _) (A0 2) (AC (AY 0) m_len cw (A1 (A0 1) (A2 0))) (AA 0)) (A6 (AB (A8 (AU 0) (A0 1) (A0 2)))) (AL 0)) (A4 (AD (AF (AM 0) (AC (AY 0) m_len cw (A1 (A0 1) (A2 0))) (A3 0) (AA 0)) (A6 (AB (A5 (AR 0) (A5 (@Ac _) (A5 (@Ac _) (A0 2) (A0 2)) (A3 0)) (A0 2)))) (AL 0)) (A6 (AB (A5 (AR 0) (A5 (AW 0) (A8 (AU 0) (A0 1) (A5 (AJ 0) (A0 2) (AC (AY 0) m_len cw (A1 (A0 1) (A2 0))))) (A3 0)) (A5 (@Ac _) (A0 2) (A0 2)))))))))),?_⟩;rw[show start ["deck","cells","at"] [.ref d]=[some (.ref d),none,none] from rfl];clear hu hu0 nd hr;push_cast [rIxL,gSub,L7,qb,CMul];have nb:=hD.ne;obtain ⟨h1,h2⟩:=hD;refine ⟨_,SqL.of h1,.ref b,rfl,_,SqL.of h1,.int (n:Int),rfl,?_⟩;push_cast [and_true];have h3:upd H d (.lst [.ref b,.int ((n:Int)+1)]) b=some (.lst (ns.map V.int)):=by rw[af nb];exact h2
 have hS:ay d H (upd H d (.lst [.ref b,.int ((n:Int)+1)])):=λc o hc ho=>by rw[af hc];exact ho
 have hD':upd H d (.lst [.ref b,.int ((n:Int)+1)]) d=some (.lst [.ref b,.int ((n+1:Nat):Int)]):=ae;refine ⟨_,h1,1,rfl,ns.map V.int,.inl (SqL.of h3),cf (λc=>?_) λc=>⟨ns.map V.int,.inl (SqL.of h3),rfl,cf (λc2=>?_) λc2=>?_⟩⟩
 ·rw[aa0] at c;have hlt:n < ns.length:=by omega
  exact ⟨_,SqL.of h3,.int ns[n],bb (by rw[aa8,aa1 hlt];rfl),q _ _ hS hD'⟩
 ·exact ⟨.inl ⟨by omega,by omega⟩,.inr trivial,q _ _ hS hD'⟩
 ·rw[aa0] at c2;have hpos:0 < ns.length:=by omega
  have hlt:n % ns.length < ns.length:=Nat.mod_lt _ hpos;refine ⟨ns.map V.int,.inl (SqL.of h3),by rw[aa0];omega,_,SqL.of h3,.int ns[n % ns.length],?_,by decide,by decide,.inl ⟨by omega,by omega⟩,q _ _ hS hD'⟩;rw[aa0,show (n:Int) % (ns.length:Int)=((n % ns.length:Nat):Int) from (Int.natCast_emod _ _).symm];exact bb (by rw[aa8,aa1 hlt];rfl)
noncomputable abbrev wo:Stmt:=top 43
theorem Kt:ax ["words","ends","stack","back","at","end"] ["words"] (ag wo):=⟨rfl,rfl,rfl,by decide+kernel,rfl,by decide+kernel,by decide+kernel⟩
theorem Ph (G:Gs w K mg κ) (D:Def K mg "_law_ends" wo ["words"]):Has P w K mg base (k+1) "_law_ends" ["words"] (uo K):=by
 refine D.has Kt (λvs H Q E h=>?_) (λf cdv A outer s H vs Q E hr h=>?_)
 ·obtain ⟨_,_,rfl,_,_,_,_,_⟩:=h;rfl
 have nd:=Kt.nd;have hu:=bx hr;have hu0:=aae hu;obtain ⟨t,ws,rfl,hT,hw,hTm,hl,q⟩:=h;have m_len:=G.m_len;have m_range:=G.m_range;refine ⟨_,(A4 (A7 1 nd (A5 (@op_rep _) (AG (A1 (A3 0) (A2 0))) (AC (AY 0) m_len cw (A1 (A0 0) (A2 0))))) (A4 (A7 2 nd (AG (A2 0))) (A4 (B0 (BU m_range (A1 (AC (AY 0) m_len cw (A1 (A0 0) (A2 0))) (A2 0))) (AO 3 nd (by first | exact ab4 rfl | exact ab6 rfl)) (A4 (A7 4 nd (A5 (B7 0) (A5 (B7 0) (AC (AY 0) m_len cw (A1 (A0 0) (A2 0))) (A3 0)) (A0 3))) (A4 (A7 5 nd (A5 (AR 0) (A0 4) (A3 0))) (BM (AD (BQ (BW 0) (A8 (AH 0) (A0 0) (A0 4)) (AG (BF (AK (AK (AK (BG 0))))))) (A6 (AQ (CC PySem.F.plainAttrs_list PySem.F.slot_list_pop PySem.F.type_list_pop (@qt _) (A0 2)))) (AL 0)) (BM (AD (BQ (BW 0) (A8 (AH 0) (A0 0) (A0 4)) (AG (BF (AK (AK (AK (AK (BG 0)))))))) (A6 (A7 5 nd (CC PySem.F.plainAttrs_list PySem.F.slot_list_pop PySem.F.type_list_pop (@qt _) (A0 2)))) (AL 0)) (A4 (AQ (AS PySem.F.plainAttrs_list PySem.F.slot_list_append PySem.F.type_list_append (AX 0) (A0 2) (A1 (A0 5) (A2 0)))) (A6 (@J4 _ _ _ _ _ _ (A0 5) (@Mt _ _ _ _ _ _ _ (A0 1) (A0 4) (@set_list _) (by intro _;rfl)) rfl rfl rfl)))))))) (A6 (AB (A0 1)))))),?_⟩;rw[show start ["words","ends","stack","back","at","end"] [.ref t]=[some (.ref t),none,none,none,none,none] from rfl];clear hu hu0 nd hr;push_cast [and_true];have sz:=sizeLine_eq;refine ⟨by show (1:Nat)≤sizeLine;decide,λp0 hp0=>⟨ws,.inr ((aa hp0 _).tup hT),Q0 ae (by omega) (by omega) λel hel=>⟨aa7 _,λsp hsp=>⟨ws,.inr ((((aa hp0 _).trans (aa hel _)).trans (aa hsp _)).tup hT),by omega,by omega,?_⟩⟩⟩⟩;rw[show ((ws.length:Nat):Int).toNat=ws.length by omega] at hsp ⊢;have S1:=aa hp0 (.lst [V.int 0]);have fe:=S1.free hel;have S2:=S1.trans (aa hel (.lst (aaj ws.length (V.int 0))));have fs:=S2.free hsp;have S3:=S2.trans (aa hsp (.lst []));have nes:el≠sp:=ah ae hsp;have e3:=aa hsp (.lst []) _ _ (ae (H:=upd H p0 (.lst [V.int 0])) (a:=el) (o:=.lst (aaj ws.length (V.int 0))));have p3:upd (upd (upd H p0 (.lst [V.int 0])) el (.lst (aaj ws.length (V.int 0)))) sp (.lst []) sp=some (.lst []):=ae;generalize upd (upd (upd H p0 (.lst [V.int 0])) el (.lst (aaj ws.length (V.int 0)))) sp (.lst [])=H3 at S3 e3 p3 ⊢;obtain ⟨P1,eP1⟩:∃P1:Nat→L2.St→Hp→Prop,∀j σ H',P1 j σ H'↔∃v3 v4 v5:Option V,σ=[some (.ref t),some (.ref el),some (.ref sp),v3,v4,v5]∧ak H H'∧H' sp=some (.lst (((ug ws (ws.length - j)).drop 1).reverse.map plV))∧H' el=some (.lst (aaj (ws.length - j) (V.int 0)++(aav j).map λi=>plV (endAt ws (ws.length - j+i)))):=⟨_,λ_ _ _=>abg⟩;refine fq (lo:=0) P1 ?_ ?_ ?_
 ·refine (eP1 _ _ _).mpr ⟨none,none,none,rfl,S3,?_,?_⟩
  ·rw[acm,Mq];exact p3
  ·rw[e3];simp
 ·intro j σ H5 hj hh;refine ob3 ((eP1 _ _ _).mp hh) λv3 v4 v5 hh=>?_;have s5:=hh.2.1;have p5:=hh.2.2.1;have e5:=hh.2.2.2;obtain rfl:=hh.1;clear hh;obtain ⟨p,hp⟩:∃p,p+j+1=ws.length:=⟨ws.length - 1 - j,by omega⟩;rw[show ws.length - j=p+1 by omega] at p5 e5;have ej:(λ_:Unit=>ws.length - (j+1))=λ_=>p:=by funext _;omega
  have hpl:p < ws.length:=by omega
  have hx:ws[p]?=some ws[p]:=aa1 hpl;have hxw:=hw _ (ab3 hpl);have hat:atI ws (p:Int)=some ws[p]:=bb hx;generalize ws[p]=x at hx hxw hat;obtain ⟨tp,u,tu⟩:=Qs hTm hx;push_cast [and_true];refine ⟨ws,.inr (s5.tup hT),?_⟩;rw[show ((ws.length:Int) - 1 - (0+(j:Int)))=(p:Int) by omega];obtain ⟨E',hT'⟩:=Hj ws (p:=p+1) (by omega);rw[hT'] at p5 tp tu;have p5:H5 sp=some (.lst (E'.reverse.map plV)):=p5;have three:=B4 hxw;have four:=Ai hxw;have ar2:=xi x;have rp:∀(y:Nat) (L:List Nat),((y::L).reverse.map plV)=L.reverse.map plV++[plV y]:=λy L=>by rw[acg,aa5];rfl
  refine ei (λσ' H6=>σ'=[some (.ref t),some (.ref el),some (.ref sp),some (.int (0+(j:Int))),some (.int (p:Int)),some (.int ((p:Int)+1))]∧ak H H6∧H6 el=H5 el∧H6 sp=some (.lst ((if arV x=2 then E'.drop 1 else E').reverse.map plV))) ?_ ?_
  ·push_cast [rIn];refine ⟨t,ws,_,x,rfl,rfl,s5.tup hT,hat,by show (3:Nat)≤sizeLine;decide,λa ha=>⟨_,.inl (SqL.of ae),hxw.flat,rfl,cf (λc2=>?_) λc2=>?_⟩⟩
   ·have a2:=three.mp c2;rw[a2] at tu;rw[if_pos a2];cases E' with
    | nil=>cases tu
    | cons e1 E2=>
     rw[rp] at p5;exact qg (aa ha _ _ _ p5) ⟨(s5.trans (aa ha _)).upd fs _,by rw[af nes,aa ha _ _ _ e5,e5],by rw[ae];rfl⟩
   ·rw[if_neg λe=>c2 (three.mpr e)];exact ⟨s5.trans (aa ha _),by rw[aa ha _ _ _ e5,e5],aa ha _ _ _ p5⟩
  rintro _ H6 ⟨rfl,s6,e6,p6⟩;refine ei (λσ' H7=>σ'=[some (.ref t),some (.ref el),some (.ref sp),some (.int (0+(j:Int))),some (.int (p:Int)),some (plV (endAt ws p))]∧ak H H7∧H7 el=H5 el∧H7 sp=some (.lst (u.reverse.map plV))) ?_ ?_
  ·push_cast [rIn];refine ⟨t,ws,_,x,rfl,rfl,s6.tup hT,hat,by show (4:Nat)≤sizeLine;decide,λa ha=>⟨_,.inl (SqL.of ae),hxw.flat,rfl,cf (λc2=>?_) λc2=>?_⟩⟩
   ·have a1:=four.mp c2;have hE:(if arV x=2 then E'.drop 1 else E')=endAt ws p::u:=by
     by_cases a2:arV x=2
     ·rw[if_pos a2];rw[a2] at tu;exact tu
     ·rw[if_neg a2];rw[show arV x=1 by omega] at tu;exact tu
    rw[hE,rp] at p6;exact qg (aa ha _ _ _ p6) ⟨rfl,(s6.trans (aa ha _)).upd fs _,by rw[af nes,aa ha _ _ _ (e6.trans e5),e5],ae⟩
   ·have a0:arV x=0:=by
     rcases abn (arV x) with h | h
     ·exact h
     ·exact absurd (four.mpr h) c2
    rw[a0] at tu p6;have tu:(p+1)::E'=endAt ws p::u:=tu;obtain ⟨y1,y2⟩:=abk tu;rw[if_neg (by decide),y2] at p6;exact ⟨by omega,s6.trans (aa ha _),by rw[aa ha _ _ _ (e6.trans e5),e5],aa ha _ _ _ p6⟩
  rintro _ H7 ⟨rfl,s7,e7,p7⟩;push_cast [gSub,L7];have tl:=Kl ws p;rw[tp,tu,aap,aap] at tl;refine bg p7 (by rw[aa0,aas];omega) ⟨_,by rw[af nes];exact e7.trans e5,p,Qz (by rw[aa2,abd];omega),(eP1 _ _ _).mpr ⟨_,_,_,rfl,(s7.upd fs _).upd fe _,?_,?_⟩⟩
  ·rw[show ws.length - (j+1)=p from congrFun ej (),af nes.symm,ae,tp,tu];show _=some (HO.lst ((endAt ws p::u).reverse.map plV))
   rw[rp]
  ·rw[show ws.length - (j+1)=p from congrFun ej (),ae,Nk,List.range_succ_eq_map,aau,ack];show some (HO.lst (_++plV (endAt ws p)::aec (λi=>plV (endAt ws (p+1+i))) (aav j)))=some (HO.lst (_++plV (endAt ws (p+0))::aec ((λi=>plV (endAt ws (p+i))) ∘ Nat.succ) (aav j)))
   have ef:((λi=>plV (endAt ws (p+i))) ∘ Nat.succ)=λi=>plV (endAt ws (p+1+i)):=by
    funext i
    show plV (endAt ws (p+(i+1)))=_
    rw[show p+(i+1)=p+1+i by omega]
   rw[ef];rfl
 ·intro σ H5 hh;refine ob3 ((eP1 _ _ _).mp hh) λv3 v4 v5 hh=>?_;have s5:=hh.2.1;have p5:=hh.2.2.1;have e5:=hh.2.2.2;obtain rfl:=hh.1;clear hh;push_cast [and_true];refine q el H5 s5 fe ?_;rw[e5,ad0];simp
noncomputable abbrev mv:Stmt:=top 44
theorem Gq:ax ["kinds","shape","words","ends","place","under","word","there"] ["kinds","shape","words","ends","place"] (ag mv):=⟨rfl,rfl,rfl,by decide+kernel,rfl,by decide+kernel,by decide+kernel⟩
theorem Kd (G:Gs w K mg κ) (D:Def K mg "_law_laid" mv ["kinds","shape","words","ends","place"]):Has P w K mg base (k+1) "_law_laid" ["kinds","shape","words","ends","place"] (o7 K):=by
 refine D.has Gq (λvs H Q E h=>?_) (λf cdv A outer s H vs Q E hr h=>?_)
 ·obtain ⟨_,_,_,_,_,_,_,_,rfl,_,_,_,_,_,_,_,_,_,_,_⟩:=h;rfl
 have nd:=Gq.nd;have hu:=bx hr;have hu0:=aae hu;obtain ⟨st,kt,wt,et,sh,kinds,ws,p,rfl,hS,hK,hW,hE,hk,hs,hTm,hl1,tw,hp,q⟩:=h;have m_int:=G.m_int;have m_isinstance:=G.m_isinstance;have m_str:=G.m_str;have m_tuple:=G.m_tuple;refine ⟨_,(A4 (A7 5 nd (AG (A1 (AG (A2 0)) (A1 (AG (A2 0)) (A1 (AG (A2 0)) (A2 0)))))) (A4 (B0 (BS (A0 1)) (AO 6 nd (by first | exact ab4 rfl | exact ab6 rfl)) (A4 (A7 7 nd (A8 (AH 0) (A0 2) (A0 4))) (A6 (AD (BQ (BW 0) (A0 6) (A0 0)) (A4 (AQ (AS PySem.F.plainAttrs_list PySem.F.slot_list_append PySem.F.type_list_append (AX 0) (A8 (AU 0) (A0 5) (A3 0)) (A1 (A0 4) (A2 0)))) (A6 (A7 4 nd (A8 (AU 0) (A0 3) (A0 4))))) (A6 (AD (BB (BL (AF (AM 0) (A0 6) (AN 0) (AA 0)) (BP (B9 (AC (AZ 0) m_isinstance ao (A1 (A0 7) (A1 (AT m_int pb) (A2 0)))))))) (A4 (AQ (AS PySem.F.plainAttrs_list PySem.F.slot_list_append PySem.F.type_list_append (AX 0) (A8 (AU 0) (A0 5) (A3 0)) (A1 (A0 7) (A2 0)))) (A6 (A7 4 nd (A5 (AR 0) (A0 4) (A3 0))))) (A6 (AD (BB (BL (AF (AM 0) (A0 6) (AN 0) (AA 0)) (BL (B9 (AC (AZ 0) m_isinstance ao (A1 (A0 7) (A1 (AT m_str qz) (A2 0))))) (BP (BQ (@zd _) (A0 7) (AG (BF (AK (AK (AK (AK (BG 0)))))))))))) (A4 (AQ (AS PySem.F.plainAttrs_list PySem.F.slot_list_append PySem.F.type_list_append (AX 0) (A8 (AU 0) (A0 5) (A3 0)) (A1 (A0 7) (A2 0)))) (A6 (A7 4 nd (A5 (AR 0) (A0 4) (A3 0))))) (A6 (AD (AF (AM 0) (A0 6) (A0 7) (AA 0)) (A6 (A7 4 nd (A5 (AR 0) (A0 4) (A3 0)))) (A6 (AB (@vq _ _ _))))))))))))) (A6 (AB (AI (A1 (B6 (BC 0) m_tuple bw (A1 (A8 (AU 0) (A0 5) (A3 0)) (A2 0))) (A1 (B6 (BC 0) m_tuple bw (A1 (A8 (AU 0) (A0 5) (A3 0)) (A2 0))) (A1 (B6 (BC 0) m_tuple bw (A1 (A8 (AU 0) (A0 5) (A3 0)) (A2 0))) (A2 0))))))))),?_⟩;rw[show start ["kinds","shape","words","ends","place","under","word","there"] [.ref kt,.ref st,.ref wt,.ref et,.int (p:Int)]=[some (.ref kt),some (.ref st),some (.ref wt),some (.ref et),some (.int (p:Int)),none,none,none] from rfl];clear hu hu0 nd hr;push_cast [and_true];have sz:=sizeLine_eq;have hw:=λv hv=>(tw.w v hv).1;obtain ⟨n,he⟩:=tw.eat hp;refine ⟨aa7 _,λl1 h1=>⟨aa7 _,λl2 h2=>⟨aa7 _,λl3 h3=>⟨by show (3:Nat)≤sizeLine;decide,λu0 h0=>?_⟩⟩⟩⟩;have n21:l2≠l1:=(ah ae h2).symm;have n31:l3≠l1:=(ah (aa h2 _ _ _ ae) h3).symm;have n32:l3≠l2:=(ah ae h3).symm;have n10:u0≠l1:=(ah (aa h3 _ _ _ (aa h2 _ _ _ ae)) h0).symm;have n20:u0≠l2:=(ah (aa h3 _ _ _ ae) h0).symm;have n30:u0≠l3:=(ah ae h0).symm;have S1:=aa h1 (.lst []);have f2:=S1.free h2;have S2:=S1.trans (aa h2 (.lst []));have f3:=S2.free h3;have S3:=S2.trans (aa h3 (.lst []));have S4:=S3.trans (aa h0 (.lst [.ref l1,.ref l2,.ref l3]));have U4:m5 (upd (upd (upd (upd H l1 (.lst [])) l2 (.lst [])) l3 (.lst [])) u0 (.lst [.ref l1,.ref l2,.ref l3])) u0 l1 l2 l3 ⟨[],[],[]⟩:=
  ⟨ae,by rw[af n10.symm,af n31.symm,af n21.symm,ae];rfl,by rw[af n20.symm,af n32.symm,ae],by rw[af n30.symm,ae]⟩
 generalize upd (upd (upd (upd H l1 (.lst [])) l2 (.lst [])) l3 (.lst [])) u0 (.lst [.ref l1,.ref l2,.ref l3])=H4 at S4 U4 ⊢;obtain ⟨P1,eP1⟩:∃P1:Nat→L2.St→Hp→Prop,∀i σ H',P1 i σ H'↔∃(q':Nat) (u:Und) (v6 v7:Option V),σ=[some (.ref kt),some (.ref st),some (.ref wt),some (.ref et),some (.int (q':Int)),some (.ref u0),v6,v7]∧ak H H'∧m5 H' u0 l1 l2 l3 u∧bz kinds ws (sh.drop i) q' u=bz kinds ws sh p ⟨[],[],[]⟩∧(u.hs.length≤i∧u.ns.length≤i∧u.vs.length≤i)∧E9 u∧∃d m,pend d ((sh.drop i).map arV)=some 0∧eat d ((ws.drop q').map arV)=some m:=⟨_,λ_ _ _=>abg⟩;refine ⟨⟨sh,S4.tup hS⟩,jf (xs:=sh) P1 ((eP1 _ _ _).mpr ⟨p,⟨[],[],[]⟩,none,none,rfl,S4,U4,rfl,⟨aa7 _,aa7 _,aa7 _⟩,⟨(λ_ h=>nomatch h),(λ_ h=>nomatch h)⟩,1,n,hTm,he⟩) (λi σ H' _ h=>by obtain ⟨_,_,_,_,_,s,_⟩:=(eP1 _ _ _).mp h;exact s.tup hS) ?_ ?_⟩
 ·intro i v σ H5 hvi hh;refine ob4 ((eP1 _ _ _).mp hh) λq' u v6 v7 hh=>?_;have s5:=hh.2.1;have U5:=hh.2.2.1;have e5:=hh.2.2.2.1;have hul:=hh.2.2.2.2.1;have huw:=hh.2.2.2.2.2.1;have hdm:=hh.2.2.2.2.2.2;obtain rfl:=hh.1;clear hh;obtain ⟨d,m,hp5,he5⟩:=hdm;have fin:∀(q2:Nat) (z:Int) (u2:Und) (w6 w7:Option V) (H':Hp),z=(q2:Int)→ak H H'→m5 H' u0 l1 l2 l3 u2→bz kinds ws (sh.drop (i+1)) q2 u2=bz kinds ws sh p ⟨[],[],[]⟩→(u2.hs.length≤i+1∧u2.ns.length≤i+1∧u2.vs.length≤i+1)→E9 u2→(∃d m,pend d ((sh.drop (i+1)).map arV)=some 0∧eat d ((ws.drop q2).map arV)=some m)→P1 (i+1) [some (.ref kt),some (.ref st),some (.ref wt),some (.ref et),some (.int z),some (.ref u0),w6,w7] H':=λq2 z u2 w6 w7 H' ez a1 a2 a3 a4 a5 a6=>(eP1 _ _ _).mpr ⟨q2,u2,w6,w7,by rw[ez],a1,a2,a3,a4,a5,a6⟩;have hil:i < sh.length:=(List.getElem?_eq_some_iff.mp hvi).1;have ed:sh.drop i=v::sh.drop (i+1):=by
   rw[aaw hil];congr 1
   rw[aa1 hil] at hvi;exact aa3 hvi
  rw[ed] at e5 hp5;obtain ⟨d',rfl⟩:∃d',d=d'+1:=by
   cases d with
   | zero=>cases hp5
   | succ d'=>exact ⟨d',rfl⟩
  have hq:q' < ws.length:=by
   have a1:=Az _ _ _ he5;have a2:=qd _ _ _ he5;rw[aa0,aao] at a2;omega
  have hx:ws[q']?=some ws[q']:=aa1 hq;obtain ⟨hxw,hxa,hxv⟩:=tw.w _ (ab3 hq);have hat:atI ws (q':Int)=some ws[q']:=bb hx;have hvw:=hs v (aac hvi);have hgd:ws.getD q' .non=ws[q']:=by rw[aad,hx];rfl
  rw[fw,hgd] at e5;generalize ws[q']=x at hx hxw hxa hxv hat hgd e5;have hul':=u.Fi (bu kinds v) q' x hul;have huw':=huw.put hxw (bu kinds v) q';obtain ⟨b1,b2,b3,b4,b5,b6⟩:=lets;have fl:(kinds.map V.str).all ik=true:=List.all_eq_true.mpr λx hx=>by obtain ⟨z,_,rfl⟩:=List.mem_map.mp hx;rfl
  push_cast [rIn];refine ⟨wt,ws,_,x,rfl,rfl,s5.tup hW,hat,_,.inr (s5.tup hK),hvw.flat,fl,?_⟩;have nav:¬ia=V.str (Str.ofString "var"):=by decide+kernel
  have nva:¬gg=V.str (Str.ofString "any"):=by decide+kernel
  rcases dk (kinds:=kinds) hvw with ⟨rfl,h⟩ | ⟨rfl,h⟩ | ⟨⟨z,hz,rfl⟩,h⟩ | ⟨h,hno⟩
  ·rw[if_neg (by rw[show inV ia (kinds.map V.str)=false from hk.out (.inl rfl)];decide)];refine ⟨hvw.sc _,?_⟩;rw[if_pos (show ia=V.str (Str.ofString "any") from rfl)];obtain ⟨k',rfl⟩:=hxw;cases k' with
   | inl i0=>
    have hli:lies (bu kinds ia) ia (kV (Sum.inl i0))=true:=by unfold lies;rw[h,if_neg b1,if_pos rfl];rfl
    obtain ⟨d2,m2,hp6,he6⟩:=gm hk hvw hx ⟨_,rfl⟩ hp5 he5 hli;rw[if_pos hli,h,if_neg b1] at e5;rw[h,if_neg b1] at he6;rw[h] at hul' huw';exact ⟨_,.int i0,true,rfl,sg (aw U5.1 rfl (bg U5.2.2.1 (by omega) (fin (q'+1) _ _ _ _ _ (by omega) (s5.upd f2 _) (U5.put2 n20 n21 n32 q' _) e5 hul' huw' ⟨d2,m2,hp6,he6⟩)))⟩
   | inr y=>
    have hli:¬lies (bu kinds ia) ia (kV (Sum.inr y))=true:=by unfold lies;rw[h,if_neg b1,if_pos rfl];exact aak
    rw[if_neg hli] at e5;have z:=q H5 s5;rw[←e5] at z;refine ⟨_,.str y,false,rfl,qf ⟨hvw.sc _,?_⟩⟩;rw[if_neg nav];refine ⟨hvw.sc2 ⟨_,rfl⟩,?_⟩;rw[if_neg λe=>hxa e.symm];exact z
  ·rw[if_neg (by rw[show inV gg (kinds.map V.str)=false from hk.out (.inr rfl)];decide)];refine ⟨hvw.sc _,?_⟩;rw[if_neg nva];refine ⟨hvw.sc _,?_⟩;rw[if_pos (show gg=V.str (Str.ofString "var") from rfl)];have hxw':=hxw;obtain ⟨k',rfl⟩:=hxw;cases k' with
   | inl i0=>
    have hli:¬lies (bu kinds gg) gg (kV (Sum.inl i0))=true:=by unfold lies;rw[h,if_neg b2,if_neg b4,if_pos rfl];exact aak
    rw[if_neg hli] at e5;have z:=q H5 s5;rw[←e5] at z;refine ⟨_,.int i0,false,rfl,qf ⟨hvw.sc2 ⟨_,rfl⟩,?_⟩⟩;rw[if_neg λe=>hxv e.symm];exact z
   | inr y=>
    refine ⟨_,.str y,true,rfl,sg ⟨by show (4:Nat)≤sizeLine;decide,λpl hpl=>⟨_,.inl (SqL.of ae),rfl,rfl,?_⟩⟩⟩;have four:=Ai hxw';have s6:=s5.trans (aa hpl (.lst [V.str (Str.ofString "add"),V.str (Str.ofString "sub"),V.str (Str.ofString "mul"),V.str (Str.ofString "neg")]));have U6:=U5.same (aa hpl (.lst [V.str (Str.ofString "add"),V.str (Str.ofString "sub"),V.str (Str.ofString "mul"),V.str (Str.ofString "neg")]));by_cases c:0 < arV (kV (Sum.inr y))
    ·have hli:¬lies (bu kinds gg) gg (kV (Sum.inr y))=true:=by
      unfold lies;rw[h,if_neg b2,if_neg b4,if_pos rfl,decide_eq_false (by omega),aea];decide
     rw[if_neg hli] at e5;have z:=q _ s6;rw[←e5] at z;rw[if_neg (by rw[show inV (kV (Sum.inr y)) [V.str (Str.ofString "add"),V.str (Str.ofString "sub"),V.str (Str.ofString "mul"),V.str (Str.ofString "neg")]=true from four.mpr c];decide)];refine ⟨hvw.sc2 ⟨_,rfl⟩,?_⟩;rw[if_neg λe=>hxv e.symm];exact z
    ·have hli:lies (bu kinds gg) gg (kV (Sum.inr y))=true:=by
      unfold lies;rw[h,if_neg b2,if_neg b4,if_pos rfl,decide_eq_true (by omega),Bool.and_true];rfl
     obtain ⟨d2,m2,hp6,he6⟩:=gm hk hvw hx ⟨_,rfl⟩ hp5 he5 hli;rw[if_pos hli,h,if_neg b2] at e5;rw[h,if_neg b2] at he6;rw[h] at hul' huw';have c':inV (kV (Sum.inr y)) [V.str (Str.ofString "add"),V.str (Str.ofString "sub"),V.str (Str.ofString "mul"),V.str (Str.ofString "neg")]=false:=Bool.eq_false_iff.mpr λe=>c (four.mp e);rw[if_pos (by rw[c'];decide)];exact aw U6.1 rfl (bg U6.2.2.2 (by omega) (fin (q'+1) _ _ _ _ _ (by omega) (s6.upd f3 _) (U6.put3 n30 n31 n32 q' _) e5 hul' huw' ⟨d2,m2,hp6,he6⟩))
  ·rw[if_pos (letH h)];have hli:lies (bu kinds (.str z)) (.str z) x=true:=by unfold lies;rw[if_pos h]
   obtain ⟨d2,m2,hp6,he6⟩:=gm hk hvw hx hxw hp5 he5 hli;rw[if_pos hli,if_pos h,h] at e5;rw[if_pos h] at he6;rw[h] at hul' huw';have nel:et≠l1:=ah hE h1;refine aw U5.1 rfl (bg U5.2.1 (by rw[aa0];omega) (aw (by rw[af nel];exact s5 _ _ hE) (bb (by rw[aa8,aek hq];rfl)) (fin (endAt ws q') _ _ _ _ _ rfl (s5.upd h1 _) (U5.put1 n10 n21 n31 q' x) e5 hul' huw' ⟨d2,m2,hp6,he6⟩)))
  ·obtain ⟨na,nv⟩:=letO h;rw[if_neg (by rw[hno];decide)];refine ⟨hvw.sc _,?_⟩;rw[if_neg (show ¬v=V.str (Str.ofString "any") from na)];refine ⟨hvw.sc _,?_⟩;rw[if_neg (show ¬v=V.str (Str.ofString "var") from nv)];refine ⟨hvw.sc2 hxw,?_⟩;by_cases c:v=x
   ·have hli:lies (bu kinds v) v x=true:=by unfold lies;rw[h,if_neg b3,if_neg b5,if_neg b6];exact decide_eq_true c
    obtain ⟨d2,m2,hp6,he6⟩:=gm hk hvw hx hxw hp5 he5 hli;rw[if_pos hli,h,if_neg b3,u.put0] at e5;rw[h,if_neg b3] at he6;rw[h,u.put0] at hul' huw';rw[if_pos c];exact fin (q'+1) _ _ _ _ _ (by omega) s5 U5 e5 hul' huw' ⟨d2,m2,hp6,he6⟩
   ·have hli:¬lies (bu kinds v) v x=true:=by unfold lies;rw[h,if_neg b3,if_neg b5,if_neg b6];exact λe=>c (of_decide_eq_true e)
    rw[if_neg hli] at e5;have z:=q H5 s5;rw[←e5] at z;rw[if_neg c];exact z
 ·intro σ H5 hh;refine ob4 ((eP1 _ _ _).mp hh) λq' u v6 v7 hh=>?_;have s5:=hh.2.1;have U5:=hh.2.2.1;have e5:=hh.2.2.2.1;have hul:=hh.2.2.2.2.1;have huw:=hh.2.2.2.2.2.1;have hdm:=hh.2.2.2.2.2.2;obtain rfl:=hh.1;clear hh;obtain ⟨d,m,hp5,he5⟩:=hdm;rw[aca] at e5;have z:=q H5 s5;rw[←e5] at z;push_cast [and_true];refine aw U5.1 rfl ⟨_,.inl ⟨SqL.of U5.2.1,λt1 ht1=>?_⟩⟩;have U6:=U5.same (aa ht1 (.tup (u.hs.map plV)));refine aw U6.1 rfl ⟨_,.inl ⟨SqL.of U6.2.2.1,λt2 ht2=>?_⟩⟩;have U7:=U6.same (aa ht2 (.tup u.ns));refine aw U7.1 rfl ⟨_,.inl ⟨SqL.of U7.2.2.2,λt3 ht3=>⟨by show (3:Nat)≤sizeLine;decide,λt ht=>?_⟩⟩⟩;exact z t _ ((aa ht1 _).trans ((aa ht2 _).trans ((aa ht3 _).trans (aa ht _)))) ⟨t1,t2,t3,ae,aa ht _ _ _ (aa ht3 _ _ _ (aa ht2 _ _ _ ae)),aa ht _ _ _ (aa ht3 _ _ _ ae),aa ht _ _ _ ae⟩ ⟨⟨huw.1,by omega⟩,⟨huw.2,by omega⟩,by omega⟩
noncomputable abbrev ux:Stmt:=top 42
theorem K1:ax ["deck","names","most","words","due","cell","more","room","far"] ["deck","names","most"] (ag ux):=⟨rfl,rfl,rfl,by decide+kernel,rfl,by decide+kernel,by decide+kernel⟩
theorem N0 (G:Gs w K mg κ) (h_law_next:Has P w K mg base k "_law_next" ["deck"] jg) (D:Def K mg "_law_term" ux ["deck","names","most"]):Has P w K mg base (k+1) "_law_term" ["deck","names","most"] t4:=by
 refine D.has K1 (λvs H Q E h=>?_) (λf cdv A outer s H vs Q E hr h=>?_)
 ·obtain ⟨_,_,_,_,_,_,_,rfl,_,_,_,_,_,_⟩:=h;rfl
 have nd:=K1.nd;have hu:=bx hr;have hu0:=aae hu;obtain ⟨d,nl,b,ns,zs,m,n,rfl,hD,hN,h1,h2,hn,q⟩:=h;have m_len:=G.m_len;have m_tuple:=G.m_tuple;refine ⟨_,(A4 (A7 3 nd (AG (A2 0))) (A4 (A7 4 nd (A3 0)) (A4 (C0 (AF (@iq _) (A0 4) (A3 0) (AA 0)) (A4 (A7 5 nd (AE h_law_next hr (A1 (A0 0) (A2 0)))) (A4 (A7 6 nd (A5 (AW 0) (A0 5) (A3 0))) (A4 (A7 7 nd (A5 (B7 0) (A5 (B7 0) (A0 2) (AC (AY 0) m_len cw (A1 (A0 3) (A2 0)))) (A0 4))) (A6 (AD (BB (BL (AF (@pz _) (A5 (AJ 0) (A0 5) (A3 0)) (A3 0) (AA 0)) (BP (AF (@iq _) (A0 7) (A3 0) (AA 0))))) (A4 (AQ (AS PySem.F.plainAttrs_list PySem.F.slot_list_append PySem.F.type_list_append (AX 0) (A0 3) (A1 (A8 (AU 0) (AG (BF (AK (AK (AK (BG 0)))))) (A5 (AJ 0) (A0 5) (A3 0))) (A2 0)))) (A6 (A7 4 nd (A5 (AR 0) (A0 4) (A3 0))))) (A6 (AD (BB (BL (AF (AM 0) (A5 (AJ 0) (A0 5) (A3 0)) (A3 0) (AA 0)) (BP (AF (@iq _) (A0 7) (A3 0) (AA 0))))) (A6 (AQ (AS PySem.F.plainAttrs_list PySem.F.slot_list_append PySem.F.type_list_append (AX 0) (A0 3) (A1 (AN 0) (A2 0))))) (A4 (A7 4 nd (A5 (B7 0) (A0 4) (A3 0))) (A4 (A7 8 nd (A8 (AU 0) (AG (A1 (A3 0) (A1 (A3 0) (A1 (A3 0) (A1 (A5 (@jo _) (A3 0) (A3 0)) (A1 (A5 (@jo _) (A3 0) (A3 0)) (A1 (A5 (@jo _) (A3 0) (A3 0)) (A2 0)))))))) (A5 (AJ 0) (A5 (AW 0) (A0 6) (A3 0)) (A3 0)))) (A4 (A7 8 nd (A8 (AU 0) (AG (A1 (A5 (B7 0) (A5 (AJ 0) (A5 (AW 0) (A0 6) (A3 0)) (A5 (@jo _) (A3 0) (A3 0))) (A3 0)) (A1 (A0 8) (A1 (A5 (B7 0) (A3 0) (A0 8)) (A2 0))))) (A5 (AJ 0) (A5 (AW 0) (A0 6) (A3 0)) (A3 0)))) (A6 (AQ (AS PySem.F.plainAttrs_list PySem.F.slot_list_append PySem.F.type_list_append (AX 0) (A0 3) (A1 (A8 (AU 0) (AG (A1 (A8 (AU 0) (A0 1) (A3 0)) (A1 (A8 (AU 0) (A0 1) (A3 0)) (A1 (A8 (AU 0) (A0 1) (A3 0)) (A1 (A3 0) (A1 (A3 0) (A1 (C9 (@kq _) (A3 0)) (A1 (A3 0) (A1 (A0 8) (A1 (A0 8) (A2 0))))))))))) (A5 (AJ 0) (A0 6) (A3 0))) (A2 0)))))))))))))))) (A6 (AB (B6 (BC 0) m_tuple bw (A1 (A0 3) (A2 0)))))))),?_⟩;rw[show start ["deck","names","most","words","due","cell","more","room","far"] [.ref d,.ref nl,.int (m:Int)]=[some (.ref d),some (.ref nl),some (.int (m:Int)),none,none,none,none,none,none] from rfl];clear hu hu0 nd hr;push_cast [and_true];have sz:=sizeLine_eq;refine ⟨aa7 _,λp hp=>?_⟩;have npd:p≠d:=(ah hD.1 hp).symm;obtain ⟨P1,eP1⟩:∃P1:L2.St→Hp→Prop,∀σ H',P1 σ H'↔∃(ws:List V) (due:Nat) (v1 v2 v3 v4:Option V),σ=[some (.ref d),some (.ref nl),some (.int (m:Int)),some (.ref p),some (.int (due:Int)),v1,v2,v3,v4]∧ay d H H'∧H' d=some (.lst [.ref b,.int ((n+ws.length:Nat):Int)])∧H' p=some (.lst ws)∧(∀v∈ws,twW v)∧pend 1 (ws.map arV)=some due∧ws.length+due≤m:=⟨_,λ_ _=>abg⟩;refine gn P1 (λσ H'=>m - ly H' p) ?_ ?_ ?_
 ·exact (eP1 _ _).mpr ⟨[],1,none,none,none,none,rfl,(ay.refl d H).upd hp _,aa hp _ _ _ hD.1,ae,(λ_ h=>nomatch h),rfl,by show 0+1≤m;omega⟩
 ·intro σ H' hh;refine ob6 ((eP1 _ _).mp hh) λws due v1 v2 v3 v4 hh=>?_;have hS:=hh.2.1;have hD':=hh.2.2.1;have hp':=hh.2.2.2.1;have hw:=hh.2.2.2.2.1;have hpd:=hh.2.2.2.2.2.1;have hr:=hh.2.2.2.2.2.2;obtain rfl:=hh.1;clear hh;push_cast [and_true];have hDk:fm H' d b ns (n+ws.length):=hD.next hS hD'
  refine cf (λhdue=>my hDk (by omega) λc H1 s1 d1=>?_) λhdue=>?_
  ·push_cast [qb,CPow];have hp1':H1 p=some (.lst ws):=s1 p _ npd hp';have hN1:=hN.j6 hD (hS.trans s1);have at':∀i:Nat,i < 60→atI (zs.map V.str) (i:Int)=some (.str (zs.getD i "")):=λi hi=>bb (by rw[aa8,aad,aa1 (by rw[hN.2.1];exact hi)];rfl);have ok':∀i:Nat,i < 60→nmOk (zs.getD i ""):=λi hi=>by
    rw[aad,aa1 (by rw[hN.2.1];exact hi)];exact hN.2.2.2 _ (ab3 _)
   have app:∀(v:V) (H2:Hp) (dd:Int),twW v→dd=(due:Int) - 1+(arV v:Int)→ws.length+due+arV v≤m→ak H1 H2→
     ∀w1 w2 w3 w4,oq (.ref p) [v] H2 λ_ H3=>P1 [some (.ref d),some (.ref nl),some (.int (m:Int)),some (.ref p),some (.int dd),w1,w2,w3,w4] H3∧m - ly H3 p < m - ly H' p:=by
    intro v H2 dd hv hdd hroom s2 w1 w2 w3 w4;have hp2:=s2 _ _ hp1';refine ⟨p,ws,v,rfl,rfl,hp2,by omega,(eP1 _ _).mpr ⟨ws++[v],due - 1+arV v,w1,w2,w3,w4,by rw[show dd=((due - 1+arV v:Nat):Int) by omega],(hS.trans (s1.trans (ay.of s2))).upd hp _,?_,ae,λx hx=>?_,?_,?_⟩,?_⟩
    ·rw[af npd.symm,aa2];exact s2 _ _ d1
    ·rcases List.mem_append.mp hx with h | h
     ·exact hw x h
     ·rw[List.mem_singleton.mp h];exact hv
    ·rw[aa5];exact yo _ _ _ _ hpd (by omega)
    ·rw[aa2,aag];omega
    ·rw[gc ae,gc hp',aa2,aag];omega
   refine ⟨ws,.inl (SqL.of hp1'),cf (λc3=>cf (λr1=>⟨az hp1',by show (3:Nat)≤sizeLine;decide,λp2 hp2=>?_⟩) λr1=>⟨rfl,cf (λe4=>by omega) λe4=>?_⟩) λc3=>⟨rfl,cf (λe4=>cf (λr0=>⟨az hp1',?_⟩) λr0=>?_) λe4=>?_⟩⟩
   ·obtain ⟨y,hy,hym⟩:=cz [V.str (Str.ofString "add"),V.str (Str.ofString "sub"),V.str (Str.ofString "mul")] (c % 7) (aat _ (by decide)) (by show c % 7 < 3;omega);obtain ⟨z,rfl,a2⟩:∃z,y=V.str z∧arS z=2:=by
     simp only[aaq,aah,or_false] at hym;rcases hym with rfl | rfl | rfl
     ·exact ⟨_,rfl,by decide+kernel⟩
     ·exact ⟨_,rfl,by decide+kernel⟩
     ·exact ⟨_,rfl,by decide+kernel⟩
    have a2':arV (.str z)=2:=a2;exact aw ae hy (app (.str z) _ ((due:Int)+1) (twW_op (by omega)) (by rw[a2'];omega) (by rw[a2'];omega) (aa hp2 _) _ _ _ _)
   ·refine ⟨by decide,by decide,by decide,by show (6:Nat)≤sizeLine;decide,λp1 hp1=>?_⟩;obtain ⟨f1,hf1,hm1⟩:=cz [V.int 3,V.int 7,V.int 41,V.int (10 ^ ab1 3),V.int (10 ^ ab1 9),V.int (10 ^ ab1 29)] (c / 7 / 27 % 6) (aat _ (by decide)) (by show c / 7 / 27 % 6 < 6;omega);obtain ⟨i1,rfl⟩:∃i,f1=V.int i:=by
     simp only[aaq,aah,or_false] at hm1;rcases hm1 with rfl | rfl | rfl | rfl | rfl | rfl <;> exact ⟨_,rfl⟩
    refine aw ae hf1 ⟨by decide,by decide+kernel,by show (3:Nat)≤sizeLine;decide,λp2 hp2=>?_⟩;obtain ⟨f2,hf2,hm2⟩:=cz [V.int (c / 7 / 9 % 10 ^ ab1 20 - 7),V.int i1,V.int (0 - i1)] (c / 7 / 9 % 3) (aat _ (by decide)) (by show c / 7 / 9 % 3 < 3;omega);obtain ⟨i2,rfl⟩:∃i,f2=V.int i:=by
     simp only[aaq,aah,or_false] at hm2;rcases hm2 with rfl | rfl | rfl <;> exact ⟨_,rfl⟩
    have s2:=(aa hp1 (.lst [V.int 3,V.int 7,V.int 41,V.int (10 ^ ab1 3),V.int (10 ^ ab1 9),V.int (10 ^ ab1 29)])).trans (aa hp2 (.lst [V.int (c / 7 / 9 % 10 ^ ab1 20 - 7),V.int i1,V.int (0 - i1)]));refine aw ae hf2 ⟨az (s2 _ _ hp1'),aw (s2 _ _ hN1.1) (at' 0 (by decide)) (aw (s2 _ _ hN1.1) (at' 50 (by decide)) (aw (s2 _ _ hN1.1) (at' 51 (by decide)) ⟨by show (9:Nat)≤sizeLine;decide,λp3 hp3=>?_⟩))⟩;obtain ⟨f3,hf3,hm3⟩:=cz [V.str (zs.getD 0 ""),V.str (zs.getD 50 ""),V.str (zs.getD 51 ""),V.int 0,V.int 2,V.int (-1),V.int 5,V.int i2,V.int i2] (c / 7 % 9) (aat _ (by decide)) (by show c / 7 % 9 < 9;omega);obtain ⟨t3,a3⟩:twW f3∧arV f3=0:=by
     simp only[aaq,aah,or_false] at hm3;rcases hm3 with rfl | rfl | rfl | rfl | rfl | rfl | rfl | rfl | rfl
     ·exact ⟨twW_name (ok' 0 (by decide)),(ok' 0 (by decide)).1⟩
     ·exact ⟨twW_name (ok' 50 (by decide)),(ok' 50 (by decide)).1⟩
     ·exact ⟨twW_name (ok' 51 (by decide)),(ok' 51 (by decide)).1⟩
     all_goals exact ⟨twW_int _,rfl⟩
    exact aw ae hf3 (app f3 _ ((due:Int) - 1) t3 (by rw[a3];omega) (by rw[a3];omega) (s2.trans (aa hp3 _)) _ _ _ _)
   ·have an:arV (.str (Str.ofString "neg"))=1:=Aw;exact app (.str (Str.ofString "neg")) H1 (due:Int) (twW_op (by decide+kernel)) (by rw[an];omega) (by rw[an];omega) (ak.refl _) _ _ _ _
   ·refine ⟨by decide,by decide,by decide,by show (6:Nat)≤sizeLine;decide,λp1 hp1=>?_⟩;obtain ⟨f1,hf1,hm1⟩:=cz [V.int 3,V.int 7,V.int 41,V.int (10 ^ ab1 3),V.int (10 ^ ab1 9),V.int (10 ^ ab1 29)] (c / 7 / 27 % 6) (aat _ (by decide)) (by show c / 7 / 27 % 6 < 6;omega);obtain ⟨i1,rfl⟩:∃i,f1=V.int i:=by
     simp only[aaq,aah,or_false] at hm1;rcases hm1 with rfl | rfl | rfl | rfl | rfl | rfl <;> exact ⟨_,rfl⟩
    refine aw ae hf1 ⟨by decide,by decide+kernel,by show (3:Nat)≤sizeLine;decide,λp2 hp2=>?_⟩;obtain ⟨f2,hf2,hm2⟩:=cz [V.int (c / 7 / 9 % 10 ^ ab1 20 - 7),V.int i1,V.int (0 - i1)] (c / 7 / 9 % 3) (aat _ (by decide)) (by show c / 7 / 9 % 3 < 3;omega);obtain ⟨i2,rfl⟩:∃i,f2=V.int i:=by
     simp only[aaq,aah,or_false] at hm2;rcases hm2 with rfl | rfl | rfl <;> exact ⟨_,rfl⟩
    have s2:=(aa hp1 (.lst [V.int 3,V.int 7,V.int 41,V.int (10 ^ ab1 3),V.int (10 ^ ab1 9),V.int (10 ^ ab1 29)])).trans (aa hp2 (.lst [V.int (c / 7 / 9 % 10 ^ ab1 20 - 7),V.int i1,V.int (0 - i1)]));refine aw ae hf2 ⟨az (s2 _ _ hp1'),aw (s2 _ _ hN1.1) (at' 0 (by decide)) (aw (s2 _ _ hN1.1) (at' 50 (by decide)) (aw (s2 _ _ hN1.1) (at' 51 (by decide)) ⟨by show (9:Nat)≤sizeLine;decide,λp3 hp3=>?_⟩))⟩;obtain ⟨f3,hf3,hm3⟩:=cz [V.str (zs.getD 0 ""),V.str (zs.getD 50 ""),V.str (zs.getD 51 ""),V.int 0,V.int 2,V.int (-1),V.int 5,V.int i2,V.int i2] (c / 7 % 9) (aat _ (by decide)) (by show c / 7 % 9 < 9;omega);obtain ⟨t3,a3⟩:twW f3∧arV f3=0:=by
     simp only[aaq,aah,or_false] at hm3;rcases hm3 with rfl | rfl | rfl | rfl | rfl | rfl | rfl | rfl | rfl
     ·exact ⟨twW_name (ok' 0 (by decide)),(ok' 0 (by decide)).1⟩
     ·exact ⟨twW_name (ok' 50 (by decide)),(ok' 50 (by decide)).1⟩
     ·exact ⟨twW_name (ok' 51 (by decide)),(ok' 51 (by decide)).1⟩
     all_goals exact ⟨twW_int _,rfl⟩
    exact aw ae hf3 (app f3 _ ((due:Int) - 1) t3 (by rw[a3];omega) (by rw[a3];omega) (s2.trans (aa hp3 _)) _ _ _ _)
   ·refine ⟨by decide,by decide,by decide,by show (6:Nat)≤sizeLine;decide,λp1 hp1=>?_⟩;obtain ⟨f1,hf1,hm1⟩:=cz [V.int 3,V.int 7,V.int 41,V.int (10 ^ ab1 3),V.int (10 ^ ab1 9),V.int (10 ^ ab1 29)] (c / 7 / 27 % 6) (aat _ (by decide)) (by show c / 7 / 27 % 6 < 6;omega);obtain ⟨i1,rfl⟩:∃i,f1=V.int i:=by
     simp only[aaq,aah,or_false] at hm1;rcases hm1 with rfl | rfl | rfl | rfl | rfl | rfl <;> exact ⟨_,rfl⟩
    refine aw ae hf1 ⟨by decide,by decide+kernel,by show (3:Nat)≤sizeLine;decide,λp2 hp2=>?_⟩;obtain ⟨f2,hf2,hm2⟩:=cz [V.int (c / 7 / 9 % 10 ^ ab1 20 - 7),V.int i1,V.int (0 - i1)] (c / 7 / 9 % 3) (aat _ (by decide)) (by show c / 7 / 9 % 3 < 3;omega);obtain ⟨i2,rfl⟩:∃i,f2=V.int i:=by
     simp only[aaq,aah,or_false] at hm2;rcases hm2 with rfl | rfl | rfl <;> exact ⟨_,rfl⟩
    have s2:=(aa hp1 (.lst [V.int 3,V.int 7,V.int 41,V.int (10 ^ ab1 3),V.int (10 ^ ab1 9),V.int (10 ^ ab1 29)])).trans (aa hp2 (.lst [V.int (c / 7 / 9 % 10 ^ ab1 20 - 7),V.int i1,V.int (0 - i1)]));refine aw ae hf2 ⟨az (s2 _ _ hp1'),aw (s2 _ _ hN1.1) (at' 0 (by decide)) (aw (s2 _ _ hN1.1) (at' 50 (by decide)) (aw (s2 _ _ hN1.1) (at' 51 (by decide)) ⟨by show (9:Nat)≤sizeLine;decide,λp3 hp3=>?_⟩))⟩;obtain ⟨f3,hf3,hm3⟩:=cz [V.str (zs.getD 0 ""),V.str (zs.getD 50 ""),V.str (zs.getD 51 ""),V.int 0,V.int 2,V.int (-1),V.int 5,V.int i2,V.int i2] (c / 7 % 9) (aat _ (by decide)) (by show c / 7 % 9 < 9;omega);obtain ⟨t3,a3⟩:twW f3∧arV f3=0:=by
     simp only[aaq,aah,or_false] at hm3;rcases hm3 with rfl | rfl | rfl | rfl | rfl | rfl | rfl | rfl | rfl
     ·exact ⟨twW_name (ok' 0 (by decide)),(ok' 0 (by decide)).1⟩
     ·exact ⟨twW_name (ok' 50 (by decide)),(ok' 50 (by decide)).1⟩
     ·exact ⟨twW_name (ok' 51 (by decide)),(ok' 51 (by decide)).1⟩
     all_goals exact ⟨twW_int _,rfl⟩
    exact aw ae hf3 (app f3 _ ((due:Int) - 1) t3 (by rw[a3];omega) (by rw[a3];omega) (s2.trans (aa hp3 _)) _ _ _ _)
  ·have d0:due=0:=by omega
   subst d0;refine ⟨ws,.inl ⟨SqL.of hp',λt ht=>?_⟩⟩;have htn:=hS.free hD' ht;exact q t (n+ws.length) _ ws (hS.upd htn _) (by rw[af (ah hD' ht)];exact hD') (by omega) htn ae ⟨hw,hpd,by omega⟩ (by omega)
 ·intro σ H' Q1 Q2 hq h;simp only[Ct,tOp,rI0,fo,tC,iu,ij,tB] at h ⊢;obtain ⟨v,hv,i,j,e1,e2,k,e3,h⟩:=h;exact ⟨v,hv,i,j,e1,e2,k,e3,hq _ _ h⟩
noncomputable abbrev nq:Stmt:=top 39
theorem Fc:ax ["deck","kinds","words","due","left","wide","cell","more","far","number"] ["deck","kinds"] (ag nq):=⟨rfl,rfl,rfl,by decide+kernel,rfl,by decide+kernel,by decide+kernel⟩
theorem Lb (G:Gs w K mg κ) (h_law_next:Has P w K mg base k "_law_next" ["deck"] jg) (D:Def K mg "_law_shape" nq ["deck","kinds"]):Has P w K mg base (k+1) "_law_shape" ["deck","kinds"] tm:=by
 refine D.has Fc (λvs H Q E h=>?_) (λf cdv A outer s H vs Q E hr h=>?_)
 ·obtain ⟨_,_,_,_,_,_,rfl,_,_,_,_,_,_,_⟩:=h;rfl
 have nd:=Fc.nd;have hu:=bx hr;have hu0:=aae hu;obtain ⟨d,kt,b,ns,kinds,n,rfl,hD,hK,hk,h1,h2,hn,q⟩:=h;have m_int:=G.m_int;have m_len:=G.m_len;have m_tuple:=G.m_tuple;refine ⟨_,(A4 (A7 2 nd (AG (A2 0))) (A4 (A7 3 nd (A3 0)) (A4 (A7 4 nd (AE h_law_next hr (A1 (A0 0) (A2 0)))) (A4 (A7 5 nd (BJ (AM 0) (A5 (AJ 0) (A5 (AW 0) (A0 4) (A3 0)) (A3 0)) (A3 0) (AA 0))) (A4 (A7 4 nd (A8 (AU 0) (AG (A1 (A5 (AR 0) (A3 0) (A5 (AJ 0) (A0 4) (A3 0))) (A1 (A3 0) (A2 0)))) (B6 (@gy _) m_int pb (A1 (A0 5) (A2 0))))) (A4 (C0 (AF (@iq _) (A0 3) (A3 0) (AA 0)) (A4 (A7 6 nd (AE h_law_next hr (A1 (A0 0) (A2 0)))) (A4 (A7 7 nd (A5 (AW 0) (A0 6) (A3 0))) (A6 (AD (BB (BL (AF (@iq _) (A0 4) (A3 0) (AA 0)) (BP (AF (@pz _) (A5 (AJ 0) (A0 6) (A3 0)) (A5 (AR 0) (A3 0) (B6 (@gy _) m_int pb (A1 (A0 5) (A2 0)))) (AA 0))))) (A4 (A7 4 nd (A5 (B7 0) (A0 4) (A3 0))) (A4 (AQ (AS PySem.F.plainAttrs_list PySem.F.slot_list_append PySem.F.type_list_append (AX 0) (A0 2) (A1 (A8 (AU 0) (AG (BF (AK (AK (AK (AK (BG 0))))))) (A5 (AJ 0) (A0 7) (A3 0))) (A2 0)))) (A6 (A7 3 nd (A5 (AR 0) (A0 3) (B6 (@gy _) m_int pb (A1 (BJ (@pz _) (A5 (AJ 0) (A0 7) (A3 0)) (A3 0) (AA 0)) (A2 0)))))))) (A6 (AD (BB (BL (AF (@iq _) (A0 4) (A3 0) (AA 0)) (BP (AF (AM 0) (A5 (AJ 0) (A0 6) (A3 0)) (A3 0) (AA 0))))) (A4 (A7 4 nd (A5 (B7 0) (A0 4) (A3 0))) (A4 (A7 3 nd (A5 (B7 0) (A0 3) (A3 0))) (A4 (A7 8 nd (A8 (AU 0) (AG (A1 (A3 0) (A1 (A3 0) (A1 (A3 0) (A1 (A5 (@jo _) (A3 0) (A3 0)) (A1 (A5 (@jo _) (A3 0) (A3 0)) (A1 (A5 (@jo _) (A3 0) (A3 0)) (A2 0)))))))) (A5 (AJ 0) (A5 (AW 0) (A0 7) (A3 0)) (A3 0)))) (A4 (A7 9 nd (A8 (AU 0) (AG (A1 (A3 0) (A1 (A3 0) (A1 (C9 (@kq _) (A3 0)) (A1 (A3 0) (A1 (A0 8) (A1 (A5 (B7 0) (A3 0) (A0 8)) (A2 0)))))))) (A5 (AJ 0) (A5 (AW 0) (A0 7) (A3 0)) (A3 0)))) (A6 (AQ (AS PySem.F.plainAttrs_list PySem.F.slot_list_append PySem.F.type_list_append (AX 0) (A0 2) (A1 (A8 (AU 0) (AG (A1 (AN 0) (A1 (AN 0) (A1 (A0 9) (A2 0))))) (A5 (AJ 0) (A0 7) (A3 0))) (A2 0))))))))) (A4 (A7 3 nd (A5 (B7 0) (A0 3) (A3 0))) (A6 (AQ (AS PySem.F.plainAttrs_list PySem.F.slot_list_append PySem.F.type_list_append (AX 0) (A0 2) (A1 (A8 (AH 0) (A0 1) (A5 (AJ 0) (A0 7) (AC (AY 0) m_len cw (A1 (A0 1) (A2 0))))) (A2 0))))))))))))) (A6 (AB (B6 (BC 0) m_tuple bw (A1 (A0 2) (A2 0))))))))))),?_⟩;rw[show start ["deck","kinds","words","due","left","wide","cell","more","far","number"] [.ref d,.ref kt]=[some (.ref d),some (.ref kt),none,none,none,none,none,none,none,none] from rfl];clear hu hu0 nd hr;push_cast [and_true];have sz:=sizeLine_eq;refine ⟨aa7 _,λp hp=>?_⟩;have npd:p≠d:=(ah hD.1 hp).symm;refine my (b:=b) (ns:=ns) (n:=n) ⟨aa hp _ _ _ hD.1,aa hp _ _ _ hD.2⟩ (by omega) λc0 H1 s1 d1=>?_;push_cast [qb];refine ⟨rfl,by show (2:Nat)≤sizeLine;decide,λp1 hp1=>?_⟩;have D0:fm (upd H p (.lst [])) d b ns n:=⟨aa hp _ _ _ hD.1,aa hp _ _ _ hD.2⟩;have D1:=D0.next s1 d1
 have S1:ay d H H1:=(ay.of (aa hp _)).trans s1;have hp1':H1 p=some (.lst []):=s1 p _ npd ae;obtain ⟨L0,hL1,hL2,hat⟩:∃L0:Nat,1≤L0∧L0≤5∧atI [V.int (1+c0 % 4),V.int 5] (if c0 / 4 % 8=3 then 1 else 0)=some (.int (L0:Int)):=by
  have a0:0≤c0 % 4:=aat _ (by decide);by_cases e:c0 / 4 % 8=3
  ·rw[if_pos e];exact ⟨5,by decide,by decide,rfl⟩
  ·rw[if_neg e];exact ⟨(1+c0 % 4).toNat,by omega,by omega,(show atI [V.int (1+c0 % 4),V.int 5] 0=some (V.int (1+c0 % 4)) from rfl).trans (by rw[show (((1+c0 % 4).toNat:Nat):Int)=1+c0 % 4 by omega])⟩
 refine aw ae hat ?_;have S2:=S1.upd (S1.free d1 hp1) (.lst [V.int (1+c0 % 4),V.int 5]);have d2:=aa hp1 (.lst [V.int (1+c0 % 4),V.int 5]) _ _ d1;have p2:=aa hp1 (.lst [V.int (1+c0 % 4),V.int 5]) _ _ hp1';generalize upd H1 p1 (.lst [V.int (1+c0 % 4),V.int 5])=H2 at S2 d2 p2 ⊢;obtain ⟨P1,eP1⟩:∃P1:L2.St→Hp→Prop,∀σ H',P1 σ H'↔∃(ws:List V) (due left:Nat) (v6 v7 v8 v9:Option V),σ=[some (.ref d),some (.ref kt),some (.ref p),some (.int (due:Int)),some (.int (left:Int)),some (.bl (decide (c0 / 4 % 8=3))),v6,v7,v8,v9]∧ay d H H'∧H' d=some (.lst [.ref b,.int ((n+1+ws.length:Nat):Int)])∧H' p=some (.lst ws)∧(∀v∈ws,isW v)∧pend 1 (ws.map arV)=some due∧ws.length+due+2*left≤11∧(ws.filter λv=>!inV v (kinds.map V.str)).length+left≤5:=⟨_,λ_ _=>abg⟩;refine gn P1 (λσ H'=>11 - ly H' p) ?_ ?_ ?_
 ·exact (eP1 _ _).mpr ⟨[],1,L0,none,none,none,none,rfl,S2,d2,p2,(λ_ h=>nomatch h),rfl,by show 0+1+2*L0≤11;omega,by show 0+L0≤5;omega⟩
 ·intro σ H' hh;refine ob7 ((eP1 _ _).mp hh) λws due left v6 v7 v8 v9 hh=>?_;have hS:=hh.2.1;have hD':=hh.2.2.1;have hp':=hh.2.2.2.1;have hw:=hh.2.2.2.2.1;have hpd:=hh.2.2.2.2.2.1;have hr:=hh.2.2.2.2.2.2.1;have hfew:=hh.2.2.2.2.2.2.2;obtain rfl:=hh.1;clear hh;push_cast [and_true];have hDk:fm H' d b ns (n+1+ws.length):=hD.next hS hD'
  refine cf (λhdue=>my hDk (by omega) λc H3 s3 d3=>?_) λhdue=>?_
  ·push_cast [qb,CPow];have p3:H3 p=some (.lst ws):=s3 p _ npd hp';have k3:H3 kt=some (.tup (kinds.map V.str)):=(hS.trans s3) kt _ (eh hK hD.1 (by intro e;cases e)) hK;have app:∀(v:V) (H4:Hp) (dd:Int) (left':Nat),isW v→dd=(due:Int) - 1+(arV v:Int)→ws.length+due+arV v+2*left'≤11→(left'+1=left∨(left'=left∧inV v (kinds.map V.str)=true))→ak H3 H4→
     ∀w6 w7 w8 w9,oq (.ref p) [v] H4 λ_ H5=>P1 [some (.ref d),some (.ref kt),some (.ref p),some (.int dd),some (.int (left':Int)),some (.bl (decide (c0 / 4 % 8=3))),w6,w7,w8,w9] H5∧11 - ly H5 p < 11 - ly H' p:=by
    intro v H4 dd left' hv hdd hroom hlf s4 w6 w7 w8 w9;have p4:=s4 _ _ p3;refine ⟨p,ws,v,rfl,rfl,p4,by omega,(eP1 _ _).mpr ⟨ws++[v],due - 1+arV v,left',w6,w7,w8,w9,by rw[show dd=((due - 1+arV v:Nat):Int) by omega],(hS.trans (s3.trans (ay.of s4))).upd hp _,?_,ae,λx hx=>?_,?_,?_,?_⟩,?_⟩
    ·rw[af npd.symm,aa2];exact s4 _ _ d3
    ·rcases List.mem_append.mp hx with h | h
     ·exact hw x h
     ·rw[List.mem_singleton.mp h];exact hv
    ·rw[aa5];exact yo _ _ _ _ hpd (by omega)
    ·rw[aa2,aag];omega
    ·rw[aba,aa2];rcases hlf with h | ⟨h,hin⟩
     ·have:([v].filter λv=>!inV v (kinds.map V.str)).length≤1:=ab8 _ _;omega
     ·have:[v].filter (λv=>!inV v (kinds.map V.str))=[]:=by rw[aan,hin];rfl
      rw[this,acb];omega
    ·rw[gc ae,gc hp',aa2,aag];omega
   refine cf (λl0=>cf (λa1=>⟨az p3,by show (4:Nat)≤sizeLine;decide,λp4 hp4=>?_⟩) λa1=>cf (λ_=>⟨rfl,cf (λe3=>?_) λe3=>?_⟩) λnl=>absurd l0 nl) λnl=>cf (λl0=>absurd l0 nl) λ_=>?_
   ·obtain ⟨y,hy,hw2,ha2⟩:∃y,atI [V.str (Str.ofString "add"),V.str (Str.ofString "sub"),V.str (Str.ofString "mul"),V.str (Str.ofString "neg")] (c / 5 % 4)=some y∧isW y∧((due:Int)+if c / 5 % 4 < 3 then 1 else 0)=(due:Int) - 1+(arV y:Int):=by
     rcases (show c / 5 % 4=((0:Nat):Int)∨c / 5 % 4=((1:Nat):Int)∨c / 5 % 4=((2:Nat):Int)∨c / 5 % 4=((3:Nat):Int) by omega) with e | e | e | e
     ·rw[e];exact ⟨_,bb rfl,⟨Sum.inr _,rfl⟩,by rw[show arV (.str (Str.ofString "add"))=2 by decide+kernel,if_pos (by decide)];omega⟩
     ·rw[e];exact ⟨_,bb rfl,⟨Sum.inr _,rfl⟩,by rw[show arV (.str (Str.ofString "sub"))=2 by decide+kernel,if_pos (by decide)];omega⟩
     ·rw[e];exact ⟨_,bb rfl,⟨Sum.inr _,rfl⟩,by rw[show arV (.str (Str.ofString "mul"))=2 by decide+kernel,if_pos (by decide)];omega⟩
     ·rw[e];exact ⟨_,bb rfl,⟨Sum.inr _,rfl⟩,by rw[show arV (.str (Str.ofString "neg"))=1 from Aw,if_neg (by decide)];omega⟩
    have ar2:=xi y;obtain ⟨l',rfl⟩:∃l',left=l'+1:=⟨left - 1,by omega⟩;rw[show ((l'+1:Nat):Int) - 1=(l':Int) by omega];exact aw ae hy (app y _ _ l' hw2 ha2 (by omega) (.inl rfl) (aa hp4 _) _ _ _ _)
   ·obtain ⟨l',rfl⟩:∃l',left=l'+1:=⟨left - 1,by omega⟩;rw[show ((l'+1:Nat):Int) - 1=(l':Int) by omega];refine ⟨by decide,by decide,by decide,by show (6:Nat)≤sizeLine;decide,λp4 hp4=>?_⟩;obtain ⟨f1,hf1,hm1⟩:=cz [V.int 3,V.int 7,V.int 41,V.int (10 ^ ab1 3),V.int (10 ^ ab1 9),V.int (10 ^ ab1 29)] (c / 5 / 18 % 6) (aat _ (by decide)) (by show c / 5 / 18 % 6 < 6;omega);obtain ⟨i1,rfl⟩:∃i,f1=V.int i:=by
     simp only[aaq,aah,or_false] at hm1;rcases hm1 with rfl | rfl | rfl | rfl | rfl | rfl <;> exact ⟨_,rfl⟩
    refine aw ae hf1 ⟨by show (6:Nat)≤sizeLine;decide,λp5 hp5=>?_⟩;obtain ⟨f2,hf2,hm2⟩:=cz [V.int 0,V.int 2,V.int (-1),V.int 5,V.int i1,V.int (0 - i1)] (c / 5 / 3 % 6) (aat _ (by decide)) (by show c / 5 / 3 % 6 < 6;omega);obtain ⟨i2,rfl⟩:∃i,f2=V.int i:=by
     simp only[aaq,aah,or_false] at hm2;rcases hm2 with rfl | rfl | rfl | rfl | rfl | rfl <;> exact ⟨_,rfl⟩
    have s5:=(aa hp4 (.lst [V.int 3,V.int 7,V.int 41,V.int (10 ^ ab1 3),V.int (10 ^ ab1 9),V.int (10 ^ ab1 29)])).trans (aa hp5 (.lst [V.int 0,V.int 2,V.int (-1),V.int 5,V.int i1,V.int (0 - i1)]));refine aw ae hf2 ⟨az (s5 _ _ p3),by show (3:Nat)≤sizeLine;decide,λp6 hp6=>?_⟩;obtain ⟨f3,hf3,hm3⟩:=cz [V.str (Str.ofString "any"),V.str (Str.ofString "var"),V.int i2] (c / 5 % 3) (aat _ (by decide)) (by show c / 5 % 3 < 3;omega);obtain ⟨t3,a3⟩:isW f3∧arV f3=0:=by
     simp only[aaq,aah,or_false] at hm3;rcases hm3 with rfl | rfl | rfl
     ·exact ⟨⟨Sum.inr _,rfl⟩,qh⟩
     ·exact ⟨⟨Sum.inr _,rfl⟩,qc⟩
     ·exact ⟨⟨Sum.inl _,rfl⟩,rfl⟩
    exact aw ae hf3 (app f3 _ ((due:Int) - 1) l' t3 (by rw[a3];omega) (by rw[a3];omega) (.inl rfl) (s5.trans (aa hp6 _)) _ _ _ _)
   ·have hm:=cz (kinds.map V.str) (c / 5 % (((kinds.map V.str).length:Nat):Int)) (aat _ (by rw[aa0];omega)) (acf _ (by rw[aa0];omega));obtain ⟨y,hy,hym⟩:=hm;obtain ⟨z,hz,rfl⟩:=List.mem_map.mp hym;have a0:arV (.str z)=0:=(hk z hz).1;have kn:inV (.str z) (kinds.map V.str)=true:=su hym;exact ⟨az p3,_,.inr (SqT.of k3),by rw[aa0];omega,au k3 hy (app (.str z) H3 ((due:Int) - 1) left ⟨Sum.inr z,rfl⟩ (by rw[a0];omega) (by rw[a0];omega) (.inr ⟨rfl,kn⟩) (ak.refl _) _ _ _ _)⟩
   ·have hm:=cz (kinds.map V.str) (c / 5 % (((kinds.map V.str).length:Nat):Int)) (aat _ (by rw[aa0];omega)) (acf _ (by rw[aa0];omega));obtain ⟨y,hy,hym⟩:=hm;obtain ⟨z,hz,rfl⟩:=List.mem_map.mp hym;have a0:arV (.str z)=0:=(hk z hz).1;have kn:inV (.str z) (kinds.map V.str)=true:=su hym;exact ⟨az p3,_,.inr (SqT.of k3),by rw[aa0];omega,au k3 hy (app (.str z) H3 ((due:Int) - 1) left ⟨Sum.inr z,rfl⟩ (by rw[a0];omega) (by rw[a0];omega) (.inr ⟨rfl,kn⟩) (ak.refl _) _ _ _ _)⟩
  ·have d0:due=0:=by omega
   subst d0;refine ⟨ws,.inl ⟨SqL.of hp',λt ht=>?_⟩⟩;have htn:=hS.free hD' ht;exact q t (n+1+ws.length) _ ws (hS.upd htn _) (by rw[af (ah hD' ht)];exact hD') (by omega) htn ae ⟨hw,hpd,by omega,by omega⟩
 ·intro σ H' Q1 Q2 hq h;simp only[Ct,tOp,rI0,fo,tC,iu,ij,tB] at h ⊢;obtain ⟨v,hv,i,j,e1,e2,k,e3,h⟩:=h;exact ⟨v,hv,i,j,e1,e2,k,e3,hq _ _ h⟩
noncomputable abbrev mq:Stmt:=top 40
theorem Fp:ax ["kinds","shape","stack","deeds","free","back","at","word","count","read","turn","box"] ["kinds","shape"] (ag mq):=⟨rfl,rfl,rfl,by decide+kernel,rfl,by decide+kernel,by decide+kernel⟩
theorem Ka (G:Gs w K mg κ) (D:Def K mg "_law_deeds" mq ["kinds","shape"]):Has P w K mg base (k+1) "_law_deeds" ["kinds","shape"] (ub K):=by
 refine D.has Fp (λvs H Q E h=>?_) (λf cdv A outer s H vs Q E hr h=>?_)
 ·obtain ⟨_,_,_,_,rfl,_,_,_,_,_⟩:=h;rfl
 have nd:=Fp.nd;have hu:=bx hr;have hu0:=aae hu;obtain ⟨kt,st,kinds,sh,rfl,hK,hS,hk,ok,q⟩:=h;have m_int:=G.m_int;have m_isinstance:=G.m_isinstance;have m_len:=G.m_len;have m_range:=G.m_range;have m_str:=G.m_str;have m_tuple:=G.m_tuple;refine ⟨_,(A4 (A7 2 nd (AG (A2 0))) (A4 (A7 3 nd (AG (A2 0))) (A4 (A7 4 nd (AG (BF (AK (AK (AK (BG 0))))))) (A4 (B0 (BU m_range (A1 (AC (AY 0) m_len cw (A1 (A0 1) (A2 0))) (A2 0))) (AO 5 nd (by first | exact ab4 rfl | exact ab6 rfl)) (A4 (A7 6 nd (A5 (B7 0) (A5 (B7 0) (AC (AY 0) m_len cw (A1 (A0 1) (A2 0))) (A3 0)) (A0 5))) (A4 (CF 7 nd (A8 (AH 0) (A0 1) (A0 6))) (A4 (A7 8 nd (B6 (@zk _) m_str qz (A1 (AC (AY 0) m_len cw (A1 (BT (BN ["one"] ["word","kinds"] [7,0] (aal rfl (aal rfl trivial)) (aal (aal rfl (aal rfl rfl)) (aal (aal rfl (aal rfl rfl)) trivial))) (BS (CG (@Pu _) (A0 1) (@oa _) (CH (A5 (AR 0) (A0 6) (A3 0))))) (λ_ _ _=>(BA 0 (show abf (["one","word","kinds"]:List Str) by decide+kernel))) (λ_ _ _=>(BZ (BB (C7 (AF (AM 0) (A0 0) (A9 1) (AA 0)) (C8 (BB (BL (BQ (@nj _ K rfl) (A9 1) (A9 2)) (BP (BQ (@nj _ K rfl) (A0 0) (A9 2)))))))))) (λ_ _ _=>(A0 0))) (A2 0))) (A2 0)))) (A4 (AD (BQ (BW 0) (A9 7) (A9 0)) (A4 (AQ (AS PySem.F.plainAttrs_list PySem.F.slot_list_append PySem.F.type_list_append (AX 0) (A0 2) (A1 (A5 (BV 0) (AN 0) (A0 8)) (A2 0)))) (A6 (@Dd _ _))) (AL 0)) (A4 (A7 9 nd (AG (A2 0))) (A4 (B0 (BU m_range (A1 (A5 (AR 0) (B6 (@gy _) m_int pb (A1 (@zv _ _ _ _ _ _ _ _ (BW 0) (A9 7) (AG (BF (AK (AK (AK (AK (BG 0))))))) (by with_unfolding_all rfl)) (A2 0))) (B6 (@gy _) m_int pb (A1 (@zv _ _ _ _ _ _ _ _ (BW 0) (A9 7) (AG (BF (AK (AK (AK (BG 0)))))) (by with_unfolding_all rfl)) (A2 0)))) (A2 0))) (AO 10 nd (by first | exact ab4 rfl | exact ab6 rfl)) (A6 (AQ (AS PySem.F.plainAttrs_list PySem.F.slot_list_append PySem.F.type_list_append (AX 0) (A0 9) (A1 (CC PySem.F.plainAttrs_list PySem.F.slot_list_pop PySem.F.type_list_pop (@qt _) (A0 2)) (A2 0)))))) (A4 (AQ (AS PySem.F.plainAttrs_list PySem.F.slot_list_extend PySem.F.type_list_extend (@lj _) (A0 4) (A1 (BT (BN ["box"] [] [] trivial trivial) (BO (A0 9)) (λ_ _ _=>(BA 0 (show abf (["box"]:List Str) by decide+kernel))) (λ_ _ _=>(BZ (AF (AM 0) (A8 (@ke _) (A0 0) (A3 0)) (AN 0) (AA 0)))) (λ_ _ _=>(A0 0))) (A2 0)))) (A4 (A7 11 nd (AN 0)) (BM (AD (AF (@iq _) (A0 6) (A3 0) (AA 0)) (A6 (A7 11 nd (CC PySem.F.plainAttrs_list PySem.F.slot_list_pop PySem.F.type_list_pop (@qt _) (A0 4)))) (AL 0)) (BM (AD (AF (AM 0) (A9 7) (AN 0) (AA 0)) (A6 (AQ (AS PySem.F.plainAttrs_list PySem.F.slot_list_append PySem.F.type_list_append (AX 0) (A0 3) (A1 (AI (A1 (AN 0) (A1 (A0 11) (A1 (A5 (BV 0) (AN 0) (A0 8)) (A2 0))))) (A2 0))))) (A6 (AD (AF (AM 0) (A9 7) (AN 0) (AA 0)) (A6 (AQ (AS PySem.F.plainAttrs_list PySem.F.slot_list_append PySem.F.type_list_append (AX 0) (A0 3) (A1 (AI (A1 (AN 0) (A1 (A0 11) (A1 (A5 (BV 0) (AN 0) (A0 8)) (A2 0))))) (A2 0))))) (A6 (AD (B9 (AC (AZ 0) m_isinstance ao (A1 (A9 7) (A1 (AT m_int pb) (A2 0))))) (A6 (AQ (AS PySem.F.plainAttrs_list PySem.F.slot_list_append PySem.F.type_list_append (AX 0) (A0 3) (A1 (AI (A1 (AN 0) (A1 (A0 11) (A1 (A9 7) (A2 0))))) (A2 0))))) (A6 (AQ (AS PySem.F.plainAttrs_list PySem.F.slot_list_append PySem.F.type_list_append (AX 0) (A0 3) (A1 (A5 (@Gu _) (AI (A1 (A9 7) (A1 (A0 11) (A2 0)))) (B6 (BC 0) m_tuple bw (A1 (A0 9) (A2 0)))) (A2 0)))))))))) (A6 (AQ (AS PySem.F.plainAttrs_list PySem.F.slot_list_append PySem.F.type_list_append (AX 0) (A0 2) (A1 (A0 11) (A2 0)))))))))))))))) (A4 (AD (AF (AM 0) (AC (AY 0) m_len cw (A1 (A0 3) (A2 0))) (A3 0) (AA 0)) (A6 (AB (AI (A1 (AI (BF (AK (AK (BX (BG 0)))))) (A1 (AI (BF (AK (AK (AK (AK (BG 0))))))) (A2 0)))))) (AL 0)) (A6 (AB (B6 (BC 0) m_tuple bw (A1 (A0 3) (A2 0)))))))))),?_⟩;rw[show start ["kinds","shape","stack","deeds","free","back","at","word","count","read","turn","box"] [.ref kt,.ref st]=[some (.ref kt),some (.ref st),none,none,none,none,none,none,none,none,none,none] from rfl];clear hu hu0 nd hr;push_cast [and_true];have sz:=sizeLine_eq;have hlen:=ok.len;refine ⟨aa7 _,λsp h1=>⟨aa7 _,λdp h2=>⟨by show (3:Nat)≤sizeLine;decide,λfp h3=>?_⟩⟩⟩;have nsd:sp≠dp:=ah ae h2;have nsf:sp≠fp:=ah (aa h2 _ _ _ ae) h3;have ndf:dp≠fp:=ah ae h3;have S1:=aa h1 (.lst []);have fd:=S1.free h2;have S2:=S1.trans (aa h2 (.lst []));have ff:=S2.free h3;have S3:=S2.trans (aa h3 (.lst [V.str (Str.ofString "t3"),V.str (Str.ofString "t2"),V.str (Str.ofString "t1")]));have z3:=aa h3 (.lst [V.str (Str.ofString "t3"),V.str (Str.ofString "t2"),V.str (Str.ofString "t1")]) _ _ (aa h2 (.lst []) _ _ (ae (H:=H) (a:=sp) (o:=.lst [])));have d3:=aa h3 (.lst [V.str (Str.ofString "t3"),V.str (Str.ofString "t2"),V.str (Str.ofString "t1")]) _ _ (ae (H:=upd H sp (.lst [])) (a:=dp) (o:=.lst []));have f3:upd (upd (upd H sp (.lst [])) dp (.lst [])) fp (.lst [V.str (Str.ofString "t3"),V.str (Str.ofString "t2"),V.str (Str.ofString "t1")]) fp=some (.lst ([Str.ofString "t3",Str.ofString "t2",Str.ofString "t1"].map V.str)):=ae;generalize upd (upd (upd H sp (.lst [])) dp (.lst [])) fp (.lst [V.str (Str.ofString "t3"),V.str (Str.ofString "t2"),V.str (Str.ofString "t1")])=H3 at S3 z3 d3 f3 ⊢;refine ⟨sh,.inr (SqT.of (S3 _ _ hS)),by omega,by omega,?_⟩;rw[show ((sh.length:Nat):Int).toNat=sh.length by omega];obtain ⟨P1,eP1⟩:∃P1:Nat→L2.St→Hp→Prop,∀j σ H',P1 j σ H'↔∃(zs fs:List Str) (ds:List V) (v5 v6 v7 v8 v9 v10 v11:Option V),σ=[some (.ref kt),some (.ref st),some (.ref sp),some (.ref dp),some (.ref fp),v5,v6,v7,v8,v9,v10,v11]∧ak H H'∧H' sp=some (.lst (zs.map V.str))∧H' dp=some (.lst ds)∧H' fp=some (.lst (fs.map V.str))∧ds.length≤j∧DI kinds sh (sh.length - j) zs fs:=⟨_,λ_ _ _=>abg⟩;refine fq (lo:=0) P1 ((eP1 _ _ _).mpr ⟨[],_,[],none,none,none,none,none,none,none,rfl,S3,z3,d3,f3,aa4 _,DI.start ok⟩) ?_ ?_
 ·intro j σ H5 hj hh;refine ob10 ((eP1 _ _ _).mp hh) λzs fs ds v5 v6 v7 v8 v9 v10 v11 hh=>?_;have s5:=hh.2.1;have z5:=hh.2.2.1;have d5:=hh.2.2.2.1;have f5:=hh.2.2.2.2.1;have hdl:=hh.2.2.2.2.2.1;have di:=hh.2.2.2.2.2.2;obtain rfl:=hh.1;clear hh;obtain ⟨p,hp⟩:∃p,p+j+1=sh.length:=⟨sh.length - 1 - j,by omega⟩;rw[show sh.length - j=p+1 by omega] at di;have ej:(λ_:Unit=>sh.length - (j+1))=λ_=>p:=by funext _;omega
  have hpl:p < sh.length:=by omega
  have hv:sh[p]?=some sh[p]:=aa1 hpl;have hvw:=ok.w _ (ab3 hpl);have hat:atI sh (p:Int)=some sh[p]:=bb hv;generalize sh[p]=v at hv hvw hat;have fl:(kinds.map V.str).all ik=true:=List.all_eq_true.mpr λx hx=>by obtain ⟨z,_,rfl⟩:=List.mem_map.mp hx;rfl
  have zll:=Hc _ _ di.pd;rw[aa0,aao] at zll;push_cast [and_true];refine ⟨sh,.inr (SqT.of (s5 _ _ hS)),?_⟩;rw[show ((sh.length:Int) - 1 - (0+(j:Int)))=(p:Int) by omega];refine au (s5 _ _ hS) hat (Oo (s5 _ _ hS) λa H6 s6 h6=>⟨a,rfl,⟨_,SqT.of h6⟩,λD hD=>?_⟩);have e6:(p:Int)+1=((p+1:Nat):Int):=by omega
  rw[e6,uw sh (p+1) (by omega)] at h6;have S6:=s5.trans s6;refine Ar (λi ys=>True) (SqT.of h6) (by rw[ab0];omega) hD trivial (λi x ys H1 G' K' hx hP hl2 hS' hG hK'=>?_) λys H7 hP hl2 s7 hD2=>?_
  ·have hxw:=ok.w x (abv (aac hx));have kk:=SqT.of (K:=K) (hS' _ _ (S6 _ _ hK));push_cast [rIn];exact ⟨hxw.sc2 hvw,cf (λ_=>hK' _ _ (ak.refl _) trivial) λ_=>⟨_,.inr kk,hvw.flat,fl,cf (λ_=>⟨_,.inr kk,hxw.flat,fl,cf (λ_=>hK' _ _ (ak.refl _) trivial) λ_=>hG _ (ak.refl _) trivial⟩) λ_=>hG _ (ak.refl _) trivial⟩⟩
  rw[ab0] at hl2;have S7:=S6.trans s7;have z7:=s7 _ _ (s6 _ _ z5);have d7:=s7 _ _ (s6 _ _ d5);have f7:=s7 _ _ (s6 _ _ f5);obtain ⟨tx1,tx2⟩:=Eh (n:=ys.length) (by omega);refine ⟨ys,.inl (SqL.of hD2),tx2,kt,_,rfl,.inr (SqT.of (S7 _ _ hK)),hvw.flat,fl,?_⟩;generalize Ge (V.int (ys.length:Int))=tx at tx1 ⊢;clear hD hD2 hl2 tx2 s7 s6 h6 S6 hP;rw[show ∀x y:Bool,(if false=true then x else y)=y from λ_ _=>rfl];have h1l:(Str.ofString "h").length=1:=by decide+kernel
  cases hin:inV v (kinds.map V.str) with
  | true=>
   refine ifY rfl ?_;refine ⟨az z7,by omega,(bg (K:=K) z7 (by rw[aa0];omega) ?_).2⟩;push_cast [tCont];exact (eP1 _ _ _).mpr ⟨zs++[Str.ofString "h"++tx],fs,ds,_,_,_,_,_,_,_,rfl,S7.upd h1 _,by rw[ae,aa5];rfl,by rw[af nsd.symm];exact d7,by rw[af nsf.symm];exact f7,by omega,by rw[show sh.length - (j+1)=p from congrFun ej ()];exact di.hole hv (P6 hk hvw hin) (isT_h tx) (by rw[Str.length_append,h1l];omega)⟩
  | false=>
   refine ifN aak ?_;push_cast [and_true];refine ⟨aa7 _,λrp hrp=>⟨by show (4:Nat)≤sizeLine;decide,λp1 hp1=>⟨p1,_,rfl,.inl (SqL.of ae),hvw.flat,rfl,by show (3:Nat)≤sizeLine;decide,λp2 hp2=>⟨p2,_,rfl,.inl (SqL.of ae),hvw.flat,rfl,?_⟩⟩⟩⟩;dsimp only;rw[show ∀x y:Bool,(if false=true then x else y)=y from λ_ _=>rfl,show ∀x y:Bool,(if false=true then x else y)=y from λ_ _=>rfl];have oc:=Hk hvw;rw[show ((if inV v [V.str (Str.ofString "add"),V.str (Str.ofString "sub"),V.str (Str.ofString "mul"),V.str (Str.ofString "neg")]=true then (1:Int) else 0)+if inV v [V.str (Str.ofString "add"),V.str (Str.ofString "sub"),V.str (Str.ofString "mul")]=true then 1 else 0)=(arV v:Int) from oc];have ar2:=xi v;refine ⟨by omega,by omega,?_⟩;rw[show ((arV v:Nat):Int).toNat=arV v by omega];have frp:=S7.free hrp;have nrs:rp≠sp:=(ah z7 hrp).symm;have nrd:rp≠dp:=(ah d7 hrp).symm;have nrf:rp≠fp:=(ah f7 hrp).symm;have q8:=(aa hrp (.lst [])).trans ((aa hp1 (.lst [V.str (Str.ofString "add"),V.str (Str.ofString "sub"),V.str (Str.ofString "mul"),V.str (Str.ofString "neg")])).trans (aa hp2 (.lst [V.str (Str.ofString "add"),V.str (Str.ofString "sub"),V.str (Str.ofString "mul")])));have r8:=aa hp2 (.lst [V.str (Str.ofString "add"),V.str (Str.ofString "sub"),V.str (Str.ofString "mul")]) _ _ (aa hp1 (.lst [V.str (Str.ofString "add"),V.str (Str.ofString "sub"),V.str (Str.ofString "mul"),V.str (Str.ofString "neg")]) _ _ (ae (H:=H7) (a:=rp) (o:=.lst [])));have S8:=S7.trans q8;have z8:=q8 _ _ z7;have d8:=q8 _ _ d7;have f8:=q8 _ _ f7;generalize upd (upd (upd H7 rp (.lst [])) p1 (.lst [V.str (Str.ofString "add"),V.str (Str.ofString "sub"),V.str (Str.ofString "mul"),V.str (Str.ofString "neg")])) p2 (.lst [V.str (Str.ofString "add"),V.str (Str.ofString "sub"),V.str (Str.ofString "mul")])=H8 at q8 r8 S8 z8 d8 f8 ⊢;obtain ⟨hale,_,_,_⟩:=di.less hv;obtain ⟨P2,eP2⟩:∃P2:Nat→L2.St→Hp→Prop,∀k σ H',P2 k σ H'↔∃v10:Option V,σ=[some (.ref kt),some (.ref st),some (.ref sp),some (.ref dp),some (.ref fp),some (.int (0+(j:Int))),some (.int (p:Int)),some v,some (.str tx),some (.ref rp),v10,v11]∧ak H H'∧H' sp=some (.lst ((zs.take (zs.length - k)).map V.str))∧H' rp=some (.lst ((zs.drop (zs.length - k)).reverse.map V.str))∧H' dp=some (.lst ds)∧H' fp=some (.lst (fs.map V.str)):=⟨_,λ_ _ _=>abg⟩;refine fq (lo:=0) P2 ?_ ?_ ?_
   ·refine (eP2 _ _ _).mpr ⟨v10,rfl,S8,?_,?_,d8,f8⟩
    ·rw[acm,abm];exact z8
    ·rw[acm,aca];exact r8
   ·intro k σ H9 hk9 hh;obtain ⟨w10,hh⟩:=(eP2 _ _ _).mp hh;have s9:=hh.2.1;have z9:=hh.2.2.1;have r9:=hh.2.2.2.1;have d9:=hh.2.2.2.2.1;have f9:=hh.2.2.2.2.2;obtain rfl:=hh.1;clear hh;push_cast [and_true];obtain ⟨m,hm⟩:∃m,m+1=zs.length - k:=⟨zs.length - k - 1,by omega⟩;rw[←hm] at z9 r9;have ek:(λ_:Unit=>zs.length - (k+1))=λ_=>m:=by funext _;omega
    have hml:m < zs.length:=by omega
    have et:zs.take (m+1)=zs.take m++[zs[m]]:=by rw[ab7,aa1 hml];rfl
    have ed9:zs.drop m=zs[m]::zs.drop (m+1):=aaw hml;rw[et,aa5] at z9;refine ⟨az r9,qg z9 (bg (K:=K) (by rw[af nrs];exact r9) (by rw[aa0,aas,aao];omega) ((eP2 _ _ _).mpr ⟨_,rfl,(s9.upd h1 _).upd frp _,by rw[show zs.length - (k+1)=m from congrFun ek (),af nrs.symm,ae],?_,by rw[af nrd.symm,af nsd.symm];exact d9,by rw[af nrf.symm,af nsf.symm];exact f9⟩)).2⟩;rw[show zs.length - (k+1)=m from congrFun ek (),ae,ed9,acg,aa5];rfl
   ·intro σ H9 hh;obtain ⟨w10,hh⟩:=(eP2 _ _ _).mp hh;have s9:=hh.2.1;have z9:=hh.2.2.1;have r9:=hh.2.2.2.1;have d9:=hh.2.2.2.2.1;have f9:=hh.2.2.2.2.2;obtain rfl:=hh.1;clear hh;obtain ⟨rd,hrd⟩:∃rd,rd=zs.drop (zs.length - arV v):=⟨_,rfl⟩;obtain ⟨zs0,hz0⟩:∃zs0,zs0=zs.take (zs.length - arV v):=⟨_,rfl⟩;rw[←hrd] at r9;rw[←hz0] at z9;have ezs:zs=zs0++rd:=by rw[hrd,hz0,ac1]
    have rdl:rd.length=arV v:=by rw[hrd,aao];omega
    obtain ⟨dp1,dp2,dp3⟩:=di.put hk ok hv hin ezs rdl;push_cast [and_true];refine ⟨az f9,⟨_,SqL.of r9⟩,λD hD=>?_⟩;refine Nx (λi ys=>ys=((rd.reverse.take i).filter isT).map V.str) (SqL.of r9) (by rw[aa0,aas];omega) hD rfl (λi x ys H1 G' K' hx hP hl2 hS' hG hK'=>?_) λys H10 hP hl2 s10 hD2=>?_
    ·rw[aa8] at hx;obtain ⟨z,hz,rfl⟩:=Option.map_eq_some_iff.mp hx;have hzr:z∈rd:=List.mem_reverse.mp (aac hz);obtain ⟨zl1,zl2⟩:=di.zl z (by rw[ezs];exact aax _ hzr);obtain ⟨c,hc,hct⟩:=K5 zl1;have tk:rd.reverse.take (i+1)=rd.reverse.take i++[z]:=by rw[ab7,hz];rfl
     push_cast [rIxS];refine ⟨by omega,c,hc,rfl,cf (λe=>hK' _ _ (ak.refl _) ?_) λe=>hG _ (ak.refl _) ?_⟩
     ·have e':isT z=true:=hct.mp (by rw[e]);rw[tk,aba,aa5,hP,aan,e'];rfl
     ·have e':isT z=false:=Bool.eq_false_iff.mpr λe2=>e (V.str.inj (hct.mpr e2));rw[tk,aba,aa5,hP,aan,e'];show _=_++[]
      rw[aay]
    ·rw[aa0,abm] at hP;obtain ⟨gs,hgs⟩:∃gs,gs=rd.reverse.filter isT:=⟨_,rfl⟩;rw[←hgs] at hP;have gl:gs.length=tc rd:=by rw[hgs];unfold tc;rw[List.filter_reverse,aas]
     have gt:∀y∈gs,isT y=true∧1≤y.length∧y.length≤100:=λy hy=>by
      rw[hgs] at hy;obtain ⟨y1,y2⟩:=List.mem_filter.mp hy;exact ⟨y2,di.zl y (by rw[ezs];exact aax _ (List.mem_reverse.mp y1))⟩
     have tl:tc rd≤rd.length:=ab8 _ _;have fl3:fs.length≤3:=by have:=di.three;omega
     subst hP;refine ⟨fp,D,fs.map V.str,gs.map V.str,rfl,rfl,s10 _ _ f9,hD2,by rw[aa0,aa0];omega,?_⟩;have S11:=(s9.trans s10).upd ff (.lst (fs.map V.str++gs.map V.str));have z11:upd H10 fp (.lst (fs.map V.str++gs.map V.str)) sp=some (.lst (zs0.map V.str)):=by rw[af nsf];exact s10 _ _ z9
     have r11:upd H10 fp (.lst (fs.map V.str++gs.map V.str)) rp=some (.lst (rd.reverse.map V.str)):=by rw[af nrf];exact s10 _ _ r9
     have d11:upd H10 fp (.lst (fs.map V.str++gs.map V.str)) dp=some (.lst ds):=by rw[af ndf];exact s10 _ _ d9
     have f11:upd H10 fp (.lst (fs.map V.str++gs.map V.str)) fp=some (.lst ((fs++gs).map V.str)):=by rw[ae,aa5]
     generalize upd H10 fp (.lst (fs.map V.str++gs.map V.str))=H11 at S11 z11 r11 d11 f11 ⊢;have ft:∀y∈fs++gs,isT y=true∧1≤y.length∧y.length≤100:=λy hy=>by
      rcases List.mem_append.mp hy with g | g
      ·exact di.fl y g
      ·exact gt y g
     have fgl:(fs++gs).length=fs.length+tc rd:=by rw[aa2,gl]
     generalize fs++gs=fg at f11 ft fgl;refine ei (λσ' H12=>∃(box:Str) (fs2:List Str),σ'=[some (.ref kt),some (.ref st),some (.ref sp),some (.ref dp),some (.ref fp),some (.int (0+(j:Int))),some (.int (p:Int)),some v,some (.str tx),some (.ref rp),w10,some (.str box)]∧ak H H12∧H12 sp=some (.lst (zs0.map V.str))∧H12 rp=some (.lst (rd.reverse.map V.str))∧H12 dp=some (.lst ds)∧H12 fp=some (.lst (fs2.map V.str))∧DI kinds sh p (zs0++[box]) fs2) ?_ ?_
     ·push_cast [and_true];refine cf (λp0=>?_) λp0=>⟨S11,z11,r11,d11,fg,f11,dp2 _ fg fgl Q4 (by decide+kernel) (by decide+kernel) ft⟩;have ne:fg≠[]:=by
       intro e;rw[e] at fgl;have:=dp3 (by omega);simp at fgl;omega
      have ec:fg.dropLast++[fg.getLast ne]=fg:=adn ne;rw[←ec,aa5] at f11;have hb:=ft _ (List.getLast_mem ne);have el:fg.dropLast.length+1=fg.length:=by rw[adg];have:=List.length_pos_iff.mpr ne;omega
      refine qg f11 ⟨_,rfl,S11.upd ff _,by rw[af nsf];exact z11,by rw[af nrf];exact r11,by rw[af ndf];exact d11,fg.dropLast,ae,?_⟩;exact dp1 _ _ (by omega) hb.1 hb.2.1 hb.2.2 λy hy=>ft y ((List.dropLast_sublist fg).subset hy)
     rintro _ H12 ⟨box,fs2,rfl,s12,z12,r12,d12,f12,di12⟩;have hbl:=di12.zl box (aax _ aa9);refine ei (λσ' H13=>∃ds2:List V,σ'=[some (.ref kt),some (.ref st),some (.ref sp),some (.ref dp),some (.ref fp),some (.int (0+(j:Int))),some (.int (p:Int)),some v,some (.str tx),some (.ref rp),w10,some (.str box)]∧ak H H13∧H13 sp=some (.lst (zs0.map V.str))∧H13 dp=some (.lst ds2)∧H13 fp=some (.lst (fs2.map V.str))∧ds2.length≤j+1) ?_ ?_
     ·push_cast [and_true];have nl1:(Str.ofString "n").length=1:=by decide+kernel
      have vl1:(Str.ofString "v").length=1:=by decide+kernel
      have app:∀(y:V) (H':Hp),ak H12 H'→oq (.ref dp) [y] H' λ_ H1=>ak H H1∧H1 sp=some (.lst (zs0.map V.str))∧∃x:List V,H1 dp=some (.lst x)∧H1 fp=some (.lst (fs2.map V.str))∧x.length≤j+1:=λy H' s'=>
       (bg (K:=K) (s' _ _ d12) (by omega) ⟨(s12.trans s').upd fd _,by rw[af nsd];exact s' _ _ z12,ds++[y],ae,by rw[af ndf.symm];exact s' _ _ f12,by rw[aa2,aag];omega⟩).2
      refine ⟨hvw.sc _,cf (λ_=>⟨az d12,by omega,by show (3:Nat)≤sizeLine;decide,λp3 hp3=>app _ _ (aa hp3 _)⟩) λ_=>⟨hvw.sc _,cf (λ_=>⟨az d12,by omega,by show (3:Nat)≤sizeLine;decide,λp3 hp3=>app _ _ (aa hp3 _)⟩) λ_=>?_⟩⟩;obtain ⟨k',rfl⟩:=hvw;cases k' with
      | inl i0=>exact ⟨_,.int i0,true,rfl,sg ⟨az d12,by show (3:Nat)≤sizeLine;decide,λp3 hp3=>app _ _ (aa hp3 _)⟩⟩
      | inr z0=>exact ⟨_,.str z0,false,rfl,qf ⟨az d12,by show (2:Nat)≤sizeLine;decide,λp3 hp3=>⟨_,.inl ⟨SqL.of (aa hp3 _ _ _ r12),λl hl=>Bv (aa hl _ _ _ ae) ae (by rw[aa0,aas];show 2+rd.length≤_;omega) λb H14 s14 h14=>app _ _ ((aa hp3 _).trans ((aa hl _).trans s14))⟩⟩⟩⟩
     ·rintro _ H13 ⟨ds2,rfl,s13,z13,d13,f13,hd13⟩;push_cast [and_true];have z0l:zs0.length≤zs.length:=by rw[hz0,ab0];omega
      exact bg z13 (by rw[aa0];omega) ((eP1 _ _ _).mpr ⟨zs0++[box],fs2,ds2,_,_,_,_,_,_,_,rfl,s13.upd h1 _,by rw[ae,aa5];rfl,by rw[af nsd.symm];exact d13,by rw[af nsf.symm];exact f13,hd13,by rw[show sh.length - (j+1)=p from congrFun ej ()];exact di12⟩)
 ·intro σ H5 hh;refine ob10 ((eP1 _ _ _).mp hh) λzs fs ds v5 v6 v7 v8 v9 v10 v11 hh=>?_;have s5:=hh.2.1;have z5:=hh.2.2.1;have d5:=hh.2.2.2.1;have f5:=hh.2.2.2.2.1;have hdl:=hh.2.2.2.2.2.1;have di:=hh.2.2.2.2.2.2;obtain rfl:=hh.1;clear hh;push_cast [and_true];refine ⟨ds,.inl (SqL.of d5),rfl,cf (λ_=>⟨by show (3:Nat)≤sizeLine;decide,λp1 hp1=>⟨by show (4:Nat)≤sizeLine;decide,λp2 hp2=>⟨by show (2:Nat)≤sizeLine;decide,λp3 hp3=>?_⟩⟩⟩) λ_=>⟨ds,.inl ⟨SqL.of d5,λl hl=>q l _ _ (s5.trans (aa hl _)) ae⟩⟩⟩;exact q p3 _ _ (((s5.trans (aa hp1 _)).trans (aa hp2 _)).trans (aa hp3 _)) ae
noncomputable abbrev xm:Stmt:=top 41
theorem Mi:ax ["deck","names","cell","many","drawn","kinds","first","shapes","k","one","shape","rules","kind","price","at"] ["deck","names"] (ag xm):=⟨rfl,rfl,rfl,by decide+kernel,rfl,by decide+kernel,by decide+kernel⟩
theorem Qk (G:Gs w K mg κ) (h_law_deeds:Has P w K mg base k "_law_deeds" ["kinds","shape"] (ub K)) (h_law_next:Has P w K mg base k "_law_next" ["deck"] jg) (h_law_shape:Has P w K mg base k "_law_shape" ["deck","kinds"] tm) (D:Def K mg "_law_book" xm ["deck","names"]):Has P w K mg base (k+1) "_law_book" ["deck","names"] Ak:=by
 refine D.has Mi (λvs H Q E h=>?_) (λf cdv A outer s H vs Q E hr h=>?_)
 ·obtain ⟨_,_,_,_,_,_,rfl,_,_,_,_⟩:=h;rfl
 have nd:=Mi.nd;have hu:=bx hr;have hu0:=aae hu;obtain ⟨d,nl,b,ns,zs,n,rfl,hD,hN,hn,q⟩:=h;have m_len:=G.m_len;have m_range:=G.m_range;have m_tuple:=G.m_tuple;refine ⟨_,(A4 (CF 2 nd (AE h_law_next hr (A1 (A0 0) (A2 0)))) (A4 (A7 3 nd (A5 (AR 0) (A3 0) (A5 (AJ 0) (A9 2) (A3 0)))) (A4 (A7 4 nd (A5 (AR 0) (A3 0) (A5 (AJ 0) (A5 (AW 0) (A9 2) (A3 0)) (A3 0)))) (BM (AD (AF (AM 0) (A5 (AJ 0) (A5 (AW 0) (A9 2) (A3 0)) (A3 0)) (A3 0) (AA 0)) (A4 (A7 3 nd (A5 (AR 0) (A3 0) (A5 (AJ 0) (A5 (AW 0) (A9 2) (A3 0)) (A3 0)))) (A6 (A7 4 nd (A3 0)))) (AL 0)) (A4 (A7 5 nd (B6 (BC 0) m_tuple bw (A1 (CG (@sx _) (A0 1) (@oa _) (CH (A0 3))) (A2 0)))) (A4 (A7 6 nd (A8 (AH 0) (A0 5) (A3 0))) (BM (CF 7 nd (AG (A1 (AI (A1 (A0 6) (A1 (AI (A1 (AN 0) (A2 0))) (A2 0)))) (A1 (AI (A1 (A0 6) (A1 (AI (A1 (AN 0) (A2 0))) (A2 0)))) (A1 (AI (A1 (A0 6) (A1 (AI (A1 (AN 0) (A1 (A0 6) (A1 (A0 6) (A2 0))))) (A2 0)))) (A1 (AI (A1 (A0 6) (A1 (AI (A1 (AN 0) (A1 (A0 6) (A2 0)))) (A2 0)))) (A2 0))))))) (A4 (CF 7 nd (BT (BN ["k"] ["cell","shapes"] [2,7] (aal rfl (aal rfl trivial)) (aal (aal rfl (aal rfl rfl)) (aal (aal rfl (aal rfl rfl)) trivial))) (BU m_range (A1 (A3 0) (A2 0))) (λ_ _ _=>(BA 0 (show abf (["k","cell","shapes"]:List Str) by decide+kernel))) (λ_ _ _=>(BZ (AF (@Ff _) (A5 (AJ 0) (A5 (AW 0) (A5 (AW 0) (A9 1) (A3 0)) (A8 (@o8 _ K rfl) (AG (BF (BX (BX (BX (BX (BG 0))))))) (A0 0))) (A3 0)) (A3 0) (AA 0)))) (λ_ _ _=>(A8 (@o8 _ K rfl) (A9 2) (A0 0))))) (A4 (B0 (BU m_range (A1 (A0 4) (A2 0))) (AO 8 nd (by first | exact ab4 rfl | exact ab6 rfl)) (A4 (A7 9 nd (AE h_law_next hr (A1 (A0 0) (A2 0)))) (A4 (A7 10 nd (AE h_law_shape hr (A1 (A0 0) (A1 (A0 5) (A2 0))))) (BM (AD (AF (AM 0) (A5 (AJ 0) (A0 9) (A3 0)) (A3 0) (AA 0)) (A6 (A7 10 nd (AI (A1 (A8 (AH 0) (A0 5) (A5 (AJ 0) (A5 (AW 0) (A0 9) (A3 0)) (AC (AY 0) m_len cw (A1 (A0 5) (A2 0))))) (A2 0))))) (AL 0)) (A6 (AQ (AS PySem.F.plainAttrs_list PySem.F.slot_list_append PySem.F.type_list_append (AX 0) (A9 7) (A1 (AI (A1 (A8 (AH 0) (A0 5) (A5 (AJ 0) (A5 (AW 0) (A0 9) (A3 0)) (AC (AY 0) m_len cw (A1 (A0 5) (A2 0))))) (A1 (A0 10) (A2 0)))) (A2 0))))))))) (A4 (A7 11 nd (AG (A2 0))) (A4 (B0 (BO (A9 7)) (C3 2 (AV (AO 12 nd (by first | exact ab4 rfl | exact ab6 rfl)) (AV (AO 10 nd (by first | exact ab4 rfl | exact ab6 rfl)) (@ig _)))) (A4 (A7 9 nd (AE h_law_next hr (A1 (A0 0) (A2 0)))) (A4 (A7 13 nd (A8 (AU 0) (AG (A1 (A5 (AR 0) (A3 0) (A5 (AJ 0) (A5 (AW 0) (A0 9) (A3 0)) (A3 0))) (A1 (A5 (AR 0) (A3 0) (A5 (AJ 0) (A5 (AW 0) (A0 9) (A3 0)) (A3 0))) (A1 (A5 (AR 0) (A3 0) (A5 (AJ 0) (A5 (AW 0) (A0 9) (A3 0)) (A3 0))) (A2 0))))) (A5 (AJ 0) (A0 9) (A3 0)))) (A6 (AQ (AS PySem.F.plainAttrs_list PySem.F.slot_list_append PySem.F.type_list_append (AX 0) (A0 11) (A1 (AI (A1 (A8 (AU 0) (A0 1) (A5 (AR 0) (A3 0) (AC (AY 0) m_len cw (A1 (A0 11) (A2 0))))) (A1 (A0 12) (A1 (A0 13) (A1 (A0 10) (A1 (AE h_law_deeds hr (A1 (A0 5) (A1 (A0 10) (A2 0)))) (A2 0))))))) (A2 0)))))))) (A4 (A7 14 nd (A5 (AJ 0) (A5 (AW 0) (A9 2) (A3 0)) (AC (AY 0) m_len cw (A1 (A0 11) (A2 0))))) (A6 (AB (AI (A1 (A0 5) (A1 (B6 (BC 0) m_tuple bw (A1 (A5 (@op_cat _) (CG (@sx _) (A0 11) (CH (A0 14)) (@oa _)) (CG (@sx _) (A0 11) (@oa _) (CH (A0 14)))) (A2 0))) (A2 0)))))))))))))))))),?_⟩;rw[show start ["deck","names","cell","many","drawn","kinds","first","shapes","k","one","shape","rules","kind","price","at"] [.ref d,.ref nl]=[some (.ref d),some (.ref nl),none,none,none,none,none,none,none,none,none,none,none,none,none] from rfl];clear hu hu0 nd hr;push_cast [and_true];have sz:=sizeLine_eq;refine my hD (by omega) λc H1 s1 d1=>?_;push_cast [and_true];have D1:=hD.next s1 d1
 have N1:=hN.j6 hD s1;refine ei (λσ' H2=>∃many drawn:Nat,σ'=[some (.ref d),some (.ref nl),some (.int c),some (.int (many:Int)),some (.int (drawn:Int)),none,none,none,none,none,none,none,none,none,none]∧H1=H2∧1≤many∧many≤8∧3≤drawn∧drawn≤36) ?_ ?_
 ·push_cast [and_true];refine ⟨rfl,cf (λe=>⟨(1+c / 448 % 8).toNat,by omega,36,by rfl,by omega,by omega,by decide,by decide⟩) λe=>⟨(1+c % 3).toNat,by omega,(3+c / 7 % 8).toNat,by omega,by omega,by omega,by omega,by omega⟩⟩
 rintro _ _ ⟨many,drawn,rfl,rfl,m1,m2,r1,r2⟩;push_cast [and_true];have ct:ju (zs.map V.str) none (some (many:Int))=(zs.take many).map V.str:=by rw[uw _ many (by rw[aa0,hN.2.1];omega),aei]
 refine ⟨zs.map V.str,SqL.of N1.1,λp1 hp1=>?_⟩;rw[ct];refine ⟨_,.inl ⟨SqL.of ae,λkt hkt=>?_⟩⟩;obtain ⟨kinds,hkd⟩:∃kinds,kinds=zs.take many:=⟨_,rfl⟩;rw[←hkd];have kl:kinds.length=many:=by rw[hkd,ab0,hN.2.1];omega
 have hk:Kinds kinds:=λz hz=>hN.2.2.2 z (abv (by rw[←hkd];exact hz));have q2:=(aa hp1 (.lst (kinds.map V.str))).trans (aa (by rw[←hkd] at hkt;exact hkt) (.tup (kinds.map V.str)));rw[←hkd] at hkt;have S2:ay d H (upd (upd H1 p1 (.lst (kinds.map V.str))) kt (.tup (kinds.map V.str))):=s1.trans (ay.of q2);have d2:=q2 _ _ d1;have k2:upd (upd H1 p1 (.lst (kinds.map V.str))) kt (.tup (kinds.map V.str)) kt=some (.tup (kinds.map V.str)):=ae;have N2:=N1.same q2;generalize upd (upd H1 p1 (.lst (kinds.map V.str))) kt (.tup (kinds.map V.str))=H2 at S2 d2 k2 N2 q2 ⊢;obtain ⟨z0,hz0,hk0⟩:∃z,atI (kinds.map V.str) 0=some (.str z)∧z∈kinds:=by
  cases kinds with
  | nil=>simp at kl;omega
  | cons z r=>exact ⟨z,bb (j:=0) rfl,aa9⟩
 refine au k2 hz0 ?_;refine ei (λσ' I9=>∃sl b1 b2 b3 b4:Addr,σ'=[some (.ref d),some (.ref nl),some (.int c),some (.int (many:Int)),some (.int (drawn:Int)),some (.ref kt),some (.str z0),some (.ref sl),none,none,none,none,none,none,none]∧ak H2 I9∧I9 sl=some (.lst [V.ref b1,V.ref b2,V.ref b3,V.ref b4])∧∀k':Nat,k' < 4→∃(a s:Addr) (sh:List V),atI [V.ref b1,V.ref b2,V.ref b3,V.ref b4] (k':Int)=some (.ref a)∧I9 a=some (.tup [.str z0,.ref s])∧I9 s=some (.tup sh)∧j3 kinds sh) ?_ λσ' I9 hh=>?_
 ·push_cast [and_true];refine ⟨by show (1:Nat)≤sizeLine;decide,λa1 ha1=>?_⟩;have sa1:=aa ha1 (.tup [V.str (Str.ofString "any")]);have ea1:upd H2 a1 (.tup [V.str (Str.ofString "any")]) a1=some (.tup [V.str (Str.ofString "any")]):=ae;generalize upd H2 a1 (.tup [V.str (Str.ofString "any")])=I1 at sa1 ea1 ⊢;refine ⟨by show (2:Nat)≤sizeLine;decide,λb1 hb1=>?_⟩;have sb1:=aa hb1 (.tup [V.str z0,V.ref a1]);have eb1:upd I1 b1 (.tup [V.str z0,V.ref a1]) b1=some (.tup [V.str z0,V.ref a1]):=ae;generalize upd I1 b1 (.tup [V.str z0,V.ref a1])=I2 at sb1 eb1 ⊢;refine ⟨by show (1:Nat)≤sizeLine;decide,λa2 ha2=>?_⟩;have sa2:=aa ha2 (.tup [V.str (Str.ofString "var")]);have ea2:upd I2 a2 (.tup [V.str (Str.ofString "var")]) a2=some (.tup [V.str (Str.ofString "var")]):=ae;generalize upd I2 a2 (.tup [V.str (Str.ofString "var")])=I3 at sa2 ea2 ⊢;refine ⟨by show (2:Nat)≤sizeLine;decide,λb2 hb2=>?_⟩;have sb2:=aa hb2 (.tup [V.str z0,V.ref a2]);have eb2:upd I3 b2 (.tup [V.str z0,V.ref a2]) b2=some (.tup [V.str z0,V.ref a2]):=ae;generalize upd I3 b2 (.tup [V.str z0,V.ref a2])=I4 at sb2 eb2 ⊢;refine ⟨by show (3:Nat)≤sizeLine;decide,λa3 ha3=>?_⟩;have sa3:=aa ha3 (.tup [V.str (Str.ofString "add"),V.str z0,V.str z0]);have ea3:upd I4 a3 (.tup [V.str (Str.ofString "add"),V.str z0,V.str z0]) a3=some (.tup [V.str (Str.ofString "add"),V.str z0,V.str z0]):=ae;generalize upd I4 a3 (.tup [V.str (Str.ofString "add"),V.str z0,V.str z0])=I5 at sa3 ea3 ⊢;refine ⟨by show (2:Nat)≤sizeLine;decide,λb3 hb3=>?_⟩;have sb3:=aa hb3 (.tup [V.str z0,V.ref a3]);have eb3:upd I5 b3 (.tup [V.str z0,V.ref a3]) b3=some (.tup [V.str z0,V.ref a3]):=ae;generalize upd I5 b3 (.tup [V.str z0,V.ref a3])=I6 at sb3 eb3 ⊢;refine ⟨by show (2:Nat)≤sizeLine;decide,λa4 ha4=>?_⟩;have sa4:=aa ha4 (.tup [V.str (Str.ofString "neg"),V.str z0]);have ea4:upd I6 a4 (.tup [V.str (Str.ofString "neg"),V.str z0]) a4=some (.tup [V.str (Str.ofString "neg"),V.str z0]):=ae;generalize upd I6 a4 (.tup [V.str (Str.ofString "neg"),V.str z0])=I7 at sa4 ea4 ⊢;refine ⟨by show (2:Nat)≤sizeLine;decide,λb4 hb4=>?_⟩;have sb4:=aa hb4 (.tup [V.str z0,V.ref a4]);have eb4:upd I7 b4 (.tup [V.str z0,V.ref a4]) b4=some (.tup [V.str z0,V.ref a4]):=ae;generalize upd I7 b4 (.tup [V.str z0,V.ref a4])=I8 at sb4 eb4 ⊢;refine ⟨by show (4:Nat)≤sizeLine;decide,λsl hsl=>?_⟩;have ssl:=aa hsl (.lst [V.ref b1,V.ref b2,V.ref b3,V.ref b4]);have esl:upd I8 sl (.lst [V.ref b1,V.ref b2,V.ref b3,V.ref b4]) sl=some (.lst [V.ref b1,V.ref b2,V.ref b3,V.ref b4]):=ae;generalize upd I8 sl (.lst [V.ref b1,V.ref b2,V.ref b3,V.ref b4])=I9 at ssl esl ⊢;have u8:=sb4.trans ssl;have u7:=sa4.trans u8;have u6:=sb3.trans u7;have u5:=sa3.trans u6;have u4:=sb2.trans u5;have u3:=sa2.trans u4;have u2:=sb1.trans u3;have u1:=sa1.trans u2;have sh4:∀k':Nat,k' < 4→∃(a s:Addr) (sh:List V),atI [V.ref b1,V.ref b2,V.ref b3,V.ref b4] (k':Int)=some (.ref a)∧I9 a=some (.tup [.str z0,.ref s])∧I9 s=some (.tup sh)∧j3 kinds sh:=λk' hk'=>by
   rcases k' with _ | _ | _ | _ | k'
   ·exact ⟨b1,a1,_,bb rfl,u3 _ _ eb1,u2 _ _ ea1,Jr kinds⟩
   ·exact ⟨b2,a2,_,bb rfl,u5 _ _ eb2,u4 _ _ ea2,Kw kinds⟩
   ·exact ⟨b3,a3,_,bb rfl,u7 _ _ eb3,u6 _ _ ea3,Jw hk hk0⟩
   ·exact ⟨b4,a4,_,bb rfl,ssl _ _ eb4,u8 _ _ ea4,Lk hk hk0⟩
   ·omega
  exact ⟨u1,b1,b2,b3,b4,esl,λk' hk'=>by obtain ⟨a,s,sh,h1,h2,h3,h4⟩:=sh4 k' hk';exact ⟨a,h1,s,h2,sh,h3,h4⟩⟩
 refine ob5 (hh) λsl b1 b2 b3 b4 hh=>?_;have u1:=hh.2.1;have esl:=hh.2.2.1;have sh4:=hh.2.2.2;obtain rfl:=hh.1;clear hh;have S9:ay d H I9:=S2.trans (ay.of u1);have d9:=u1 _ _ d2;have k9:=u1 _ _ k2;have N9:=N2.same u1;clear u1 q2 hkt N2 d2 k2 S2;push_cast [and_true];intro D hD';refine Cr (n:=4) (λj ys=>∃(sa:List Addr) (ps:List (Str×List V)),ys=sa.map V.ref∧fk I9 sa kinds ps∧ps.length≤j) (by omega) hD' ⟨[],[],rfl,fk.nil _ _,aa4 _⟩ (λj ys H3 G' K' hj hP hl2 hS' hG hK'=>?_) λys H3 hP hl2 hS' hD2=>?_
 ·obtain ⟨sa,ps,rfl,hsh,hpl⟩:=hP;obtain ⟨a,s,sh,g1,g2,g3,g4⟩:=sh4 j hj;obtain ⟨y,hy,hym⟩:=cz [V.int 1,V.int 3,V.int 9,V.int 27] (0+(j:Int)) (by omega) (by show 0+(j:Int) < 4;omega);obtain ⟨y',rfl,hy0,hy1⟩:∃y':Int,y=.int y'∧0 < y'∧y' < 1073741824:=by
   simp only[aaq,aah,or_false] at hym;rcases hym with rfl | rfl | rfl | rfl <;> exact ⟨_,rfl,by decide,by decide⟩
  push_cast [qb];refine ⟨by show (4:Nat)≤sizeLine;decide,λp4 hp4=>aw ae hy ⟨hy0,hy1,rfl,cf (λe=>?_) λe=>hG _ (aa hp4 _) ⟨sa,ps,rfl,hsh,by omega⟩⟩⟩;refine aw (aa hp4 _ _ _ (hS' _ _ esl)) (by rw[show (0+(j:Int))=((j:Nat):Int) by omega];exact g1) (hK' _ _ (aa hp4 _) ⟨sa++[a],ps++[(z0,sh)],by rw[aa5];rfl,hsh.snoc ⟨g4,hk0⟩ g2 g3,by rw[aa2,aag];omega⟩)
 ·obtain ⟨sa,ps,rfl,hsh,hpl⟩:=hP;have S10:=S9.trans (ay.of hS');have d10:=hS' _ _ d9;have k10:=hS' _ _ k9;have N10:=N9.same hS';have hsh10:=hsh.same hS';have fD:=S9.free d9 hD';have nDd:D≠d:=(ah d9 hD').symm;have nt:∀{a:Addr} {xs:List V} {H':Hp} {n':Nat},H' d=some (.lst [.ref b,.int (n':Int)])→H' a=some (.tup xs)→a≠d:=λh1 h2=>eh h2 h1 (by intro e;cases e);refine ⟨by omega,by omega,?_⟩;rw[show ((drawn:Nat):Int).toNat=drawn by omega];obtain ⟨P1,eP1⟩:∃P1:Nat→L2.St→Hp→Prop,∀j σ H',P1 j σ H'↔∃(sa:List Addr) (ps:List (Str×List V)) (n':Nat) (v8 v9 v10:Option V),σ=[some (.ref d),some (.ref nl),some (.int c),some (.int (many:Int)),some (.int (drawn:Int)),some (.ref kt),some (.str z0),some (.ref D),v8,v9,v10,none,none,none,none]∧ay d H H'∧H' d=some (.lst [.ref b,.int (n':Int)])∧n'≤n+1+13*j∧H' D=some (.lst (sa.map V.ref))∧H' kt=some (.tup (kinds.map V.str))∧cx H' nl zs∧fk H' sa kinds ps∧ps.length≤4+j∧j≤ps.length:=⟨_,λ_ _ _=>abg⟩;refine fq (lo:=0) P1 ((eP1 _ _ _).mpr ⟨sa,ps,n+1,none,none,none,rfl,S10,d10,by omega,hD2,k10,N10,hsh10,by omega,aa7 _⟩) ?_ ?_
  ·intro j σ H5 hj hh;refine ob6 ((eP1 _ _ _).mp hh) λsa ps n' v8 v9 v10 hh=>?_;have s5:=hh.2.1;have d5:=hh.2.2.1;have hn5:=hh.2.2.2.1;have D5:=hh.2.2.2.2.1;have k5:=hh.2.2.2.2.2.1;have N5:=hh.2.2.2.2.2.2.1;have sh5:=hh.2.2.2.2.2.2.2.1;have pl5:=hh.2.2.2.2.2.2.2.2.1;have pj5:=hh.2.2.2.2.2.2.2.2.2;obtain rfl:=hh.1;clear hh;push_cast [and_true];refine my (hD.next s5 d5) (by omega) λone H6 s6 d6=>?_;have S6:=s5.trans s6;have D6:=s6 D _ nDd D5;have k6:=s6 kt _ (nt d5 k5) k5;have N6:=N5.j6 (hD.next s5 d5) s6;have sh6:=sh5.j6 (hD.next s5 d5) s6;refine Qf (hD.next S6 d6) k6 hk (by omega) (by omega) (by omega) λt n2 H7 sh s7 d7 hn7 ht h7 ok7=>?_;push_cast [and_true];have Dk6:=hD.next S6 d6
   have S7:=S6.trans s7;have D7:=s7 D _ nDd D6;have k7:=s7 kt _ (nt d6 k6) k6;have N7:=N6.j6 Dk6 s7;have sh7:=sh6.j6 Dk6 s7;have kat:∀i:Int,∃z,atI (kinds.map V.str) (i % (((kinds.map V.str).length:Nat):Int))=some (.str z)∧z∈kinds:=λi=>by
    obtain ⟨y,hy,hym⟩:=cz (kinds.map V.str) (i % (((kinds.map V.str).length:Nat):Int)) (aat _ (by rw[aa0];omega)) (acf _ (by rw[aa0];omega));obtain ⟨z,hz,rfl⟩:=List.mem_map.mp hym;exact ⟨z,hy,hz⟩
   refine ei (λσ' H8=>∃(t':Addr) (sh':List V),σ'=[some (.ref d),some (.ref nl),some (.int c),some (.int (many:Int)),some (.int (drawn:Int)),some (.ref kt),some (.str z0),some (.ref D),some (.int (0+(j:Int))),some (.int one),some (.ref t'),none,none,none,none]∧ak H7 H8∧H8 t'=some (.tup sh')∧j3 kinds sh') ?_ ?_
   ·push_cast [qb];refine ⟨rfl,cf (λe=>⟨_,.inr (SqT.of k7),by rw[aa0];omega,?_⟩) λe=>⟨ak.refl _,_,h7,ok7⟩⟩;obtain ⟨z,hz,hzk⟩:=kat (one / 5);exact au k7 hz ⟨by show (1:Nat)≤sizeLine;decide,λt' ht'=>⟨aa ht' _,_,ae,Je hk hzk⟩⟩
   rintro _ H8 ⟨t',sh',rfl,s8,h8,ok8⟩;push_cast [qb];obtain ⟨z,hz,hzk⟩:=kat (one / 15);refine ⟨az (s8 _ _ D7),_,.inr (SqT.of (s8 _ _ k7)),by rw[aa0];omega,au (s8 _ _ k7) hz ⟨by show (2:Nat)≤sizeLine;decide,λpr hpr=>?_⟩⟩;have s9:=s8.trans (aa hpr (.tup [V.str z,V.ref t']));have S9':=S7.trans (ay.of s9);have e9:upd H8 pr (.tup [V.str z,V.ref t']) pr=some (.tup [V.str z,V.ref t']):=ae;have h9:=aa hpr (.tup [V.str z,V.ref t']) _ _ h8;generalize upd H8 pr (.tup [V.str z,V.ref t'])=H9 at s9 S9' e9 h9 ⊢;have sal:sa.length=ps.length:=sh5.1;have uD:ak H9 (upd H9 D (.lst (sa.map V.ref++[V.ref pr])))∨True:=.inr trivial;have tD:∀{a:Addr} {xs:List V},H9 a=some (.tup xs)→upd H9 D (.lst (sa.map V.ref++[V.ref pr])) a=some (.tup xs):=λh=>by rw[af (eh h (s9 _ _ D7) (by intro e;cases e))];exact h
   have sh9:=(sh7.same s9).snoc ⟨ok8,hzk⟩ e9 h9;refine (bg (K:=K) (s9 _ _ D7) (by rw[aa0];omega) ((eP1 _ _ _).mpr ⟨sa++[pr],ps++[(z,sh')],n2,_,_,_,rfl,S9'.upd fD _,by rw[af nDd.symm];exact s9 _ _ d7,by omega,by rw[ae,aa5];rfl,tD (s9 _ _ k7),⟨?_,N7.2⟩,⟨sh9.1,λi k' s' hi=>?_⟩,by rw[aa2,aag];omega,by rw[aa2,aag];omega⟩)).2
   ·rw[af (ah hN.1 fD)];exact s9 _ _ N7.1
   ·obtain ⟨o1,a,t,x1,x2,x3⟩:=sh9.2 i k' s' hi;exact ⟨o1,a,t,x1,tD x2,tD x3⟩
  ·intro σ H5 hh;refine ob6 ((eP1 _ _ _).mp hh) λsa ps n' v8 v9 v10 hh=>?_;have s5:=hh.2.1;have d5:=hh.2.2.1;have hn5:=hh.2.2.2.1;have D5:=hh.2.2.2.2.1;have k5:=hh.2.2.2.2.2.1;have N5:=hh.2.2.2.2.2.2.1;have sh5:=hh.2.2.2.2.2.2.2.1;have pl5:=hh.2.2.2.2.2.2.2.2.1;have pj5:=hh.2.2.2.2.2.2.2.2.2;obtain rfl:=hh.1;clear hh;push_cast [and_true];refine ⟨aa7 _,λrl hrl=>⟨⟨_,SqL.of (aa hrl _ _ _ D5)⟩,?_⟩⟩;have frl:=s5.free d5 hrl;have nrd:rl≠d:=(ah d5 hrl).symm;have S6:=s5.trans (ay.of (aa hrl (.lst [])));have d6:=aa hrl (.lst []) _ _ d5;have D6:=aa hrl (.lst []) _ _ D5;have k6:=aa hrl (.lst []) _ _ k5;have N6:=N5.same (aa hrl (.lst []));have sh6:=sh5.same (aa hrl (.lst []));have r6:upd H5 rl (.lst []) rl=some (.lst []):=ae;have nrD:rl≠D:=(ah D5 hrl).symm;generalize upd H5 rl (.lst [])=H6 at S6 d6 D6 k6 N6 sh6 r6 ⊢;have sal:sa.length=ps.length:=sh5.1;obtain ⟨P2,eP2⟩:∃P2:Nat→L2.St→Hp→Prop,∀i σ H',P2 i σ H'↔∃(ra:List Addr) (rs:List Rl) (m:Nat) (w8 w9 w10 w12 w13:Option V),σ=[some (.ref d),some (.ref nl),some (.int c),some (.int (many:Int)),some (.int (drawn:Int)),some (.ref kt),some (.str z0),some (.ref D),w8,w9,w10,some (.ref rl),w12,w13,none]∧ay d H H'∧H' d=some (.lst [.ref b,.int (m:Int)])∧m≤n'+i∧H' D=some (.lst (sa.map V.ref))∧H' kt=some (.tup (kinds.map V.str))∧cx H' nl zs∧fk H' sa kinds ps∧H' rl=some (.lst (ra.map V.ref))∧df H' ra rs∧rs.length=i∧rs.map (·.name)=(zs.drop 8).take i∧∀r∈rs,j3 kinds r.shape∧1≤r.price∧r.kind∈kinds:=⟨_,λ_ _ _=>abg⟩;refine dz (xs:=sa.map V.ref) P2 ((eP2 _ _ _).mpr ⟨[],[],n',v8,v9,v10,none,none,rfl,S6,d6,by omega,D6,k6,N6,sh6,r6,⟨rfl,λi r h=>by simp at h⟩,rfl,rfl,λ_ h=>nomatch h⟩) (λi σ H' _ h=>by obtain ⟨_,_,_,_,_,_,_,_,_,_,_,_,hd,_⟩:=(eP2 _ _ _).mp h;exact SqL.of hd) ?_ ?_
   ·intro i y σ H7 hy hh;refine ob8 ((eP2 _ _ _).mp hh) λra rs m w8 w9 w10 w12 w13 hh=>?_;have s7:=hh.2.1;have d7:=hh.2.2.1;have hm7:=hh.2.2.2.1;have D7:=hh.2.2.2.2.1;have k7:=hh.2.2.2.2.2.1;have N7:=hh.2.2.2.2.2.2.1;have sh7:=hh.2.2.2.2.2.2.2.1;have r7:=hh.2.2.2.2.2.2.2.2.1;have R7:=hh.2.2.2.2.2.2.2.2.2.1;have rl7:=hh.2.2.2.2.2.2.2.2.2.2.1;have nm7:=hh.2.2.2.2.2.2.2.2.2.2.2.1;have so7:=hh.2.2.2.2.2.2.2.2.2.2.2.2;obtain rfl:=hh.1;clear hh;rw[aa8] at hy;obtain ⟨ai,hai,rfl⟩:=Option.map_eq_some_iff.mp hy;have hil:i < ps.length:=by rw[←sal];exact (List.getElem?_eq_some_iff.mp hai).1
    obtain ⟨⟨ki,shi⟩,hpi⟩:∃t,ps[i]?=some t:=⟨_,aa1 hil⟩;obtain ⟨oki,a',si,x1,x2,x3⟩:=sh7.2 i ki shi hpi;obtain rfl:a'=ai:=aa3 (x1.symm.trans hai);have hD7:=hD.next s7 d7
    refine M5 x2 rfl ?_;push_cast [and_true];refine my hD7 (by omega) λone H8 s8 d8=>?_;push_cast [qb];refine ⟨by show (3:Nat)≤sizeLine;decide,λp hp=>?_⟩;obtain ⟨y,hy,hym⟩:=cz [V.int (1+one / 3 % 4),V.int (1+one / 3 % 30),V.int (1+one / 3 % 999999)] (one % 3) (aat _ (by decide)) (acf _ (by decide));obtain ⟨y',rfl,hy1⟩:∃y':Int,y=.int y'∧1≤y':=by
     simp only[aaq,aah,or_false] at hym;rcases hym with rfl | rfl | rfl <;> exact ⟨_,rfl,by omega⟩
    refine aw ae hy ?_;have S8:=s7.trans (s8.trans (ay.of (aa hp (.lst [V.int (1+one / 3 % 4),V.int (1+one / 3 % 30),V.int (1+one / 3 % 999999)]))));have s8':=s8.trans (ay.of (d:=d) (aa hp (.lst [V.int (1+one / 3 % 4),V.int (1+one / 3 % 30),V.int (1+one / 3 % 999999)])));have d8':=aa hp (.lst [V.int (1+one / 3 % 4),V.int (1+one / 3 % 30),V.int (1+one / 3 % 999999)]) _ _ d8;generalize upd H8 p (.lst [V.int (1+one / 3 % 4),V.int (1+one / 3 % 30),V.int (1+one / 3 % 999999)])=H9 at S8 s8' d8' ⊢;have r9:=s8' rl _ nrd r7;have D9:=s8' D _ nDd D7;have k9':=kr hD7 s8' k7;have N9':=N7.j6 hD7 s8';have sh9:=sh7.j6 hD7 s8';have R9:=R7.keep (kr hD7 s8');have x39:=kr hD7 s8' x3;have ral:ra.length=i:=by rw[R7.1,rl7]
    have hzl:=hN.2.1;have hz8:zs[8+i]?=some zs[8+i]:=aa1 (by omega);refine ⟨az r9,_,.inl (SqL.of r9),aw (v:=.str zs[8+i]) N9'.1 ?_ (O7 k9' x39 hk oki.1 λt ds H10 s10 h10=>⟨by show (5:Nat)≤sizeLine;decide,λpr hpr=>?_⟩)⟩
    ·rw[aa0,ral,show (8:Int)+(i:Int)=((8+i:Nat):Int) by omega];exact bb (by rw[aa8,hz8];rfl)
    have e11:upd H10 pr (.tup [V.str zs[8+i],V.str ki,V.int y',V.ref si,V.ref t]) pr=some (.tup [V.str zs[8+i],V.str ki,V.int y',V.ref si,V.ref t]):=ae;have q11:=aa hpr (.tup [V.str zs[8+i],V.str ki,V.int y',V.ref si,V.ref t]);have s11:=s10.trans q11;have h11:=q11 _ _ h10;clear q11;generalize upd H10 pr (.tup [V.str zs[8+i],V.str ki,V.int y',V.ref si,V.ref t])=H11 at e11 s11 h11 ⊢;have S11:=S8.trans (ay.of s11);have r11:=s11 _ _ r9;have R11:=(R9.same s11).snoc (r:=⟨zs[8+i],ki,y',shi⟩) ⟨si,t,ds,e11,s11 _ _ x39,h11⟩;have tD:∀{a:Addr} {xs:List V},H11 a=some (.tup xs)→upd H11 rl (.lst (ra.map V.ref++[V.ref pr])) a=some (.tup xs):=λh=>by rw[af (eh h r11 (by intro e;cases e))];exact h
    refine (bg (K:=K) r11 (by rw[aa0];omega) ((eP2 _ _ _).mpr ⟨ra++[pr],rs++[⟨zs[8+i],ki,y',shi⟩],m+1,_,_,_,_,_,rfl,S11.upd frl _,by rw[af nrd.symm];exact s11 _ _ d8',by omega,by rw[af nrD.symm];exact s11 _ _ D9,tD (s11 _ _ k9'),⟨?_,hN.2⟩,(sh9.same s11).keep tD,by rw[ae,aa5];rfl,R11.keep tD,by rw[aa2,aag,rl7],Ec nm7 hz8,λr' hr'=>?_⟩)).2
    ·rw[af (ah hN.1 frl)];exact s11 _ _ N9'.1
    ·rcases List.mem_append.mp hr' with g | g
     ·exact so7 r' g
     ·rw[List.mem_singleton.mp g];exact ⟨oki.1,hy1,oki.2⟩
   ·intro σ H7 hh;refine ob8 ((eP2 _ _ _).mp hh) λra rs m w8 w9 w10 w12 w13 hh=>?_;have s7:=hh.2.1;have d7:=hh.2.2.1;have hm7:=hh.2.2.2.1;have D7:=hh.2.2.2.2.1;have k7:=hh.2.2.2.2.2.1;have N7:=hh.2.2.2.2.2.2.1;have sh7:=hh.2.2.2.2.2.2.2.1;have r7:=hh.2.2.2.2.2.2.2.2.1;have R7:=hh.2.2.2.2.2.2.2.2.2.1;have rl7:=hh.2.2.2.2.2.2.2.2.2.2.1;have nm7:=hh.2.2.2.2.2.2.2.2.2.2.2.1;have so7:=hh.2.2.2.2.2.2.2.2.2.2.2.2;obtain rfl:=hh.1;clear hh;push_cast [and_true];have ral:ra.length=rs.length:=R7.1;rw[aa0] at hm7 rl7 nm7;rw[←rl7] at nm7;have rsl:rs.length=ps.length:=by rw[rl7,sal]
    obtain ⟨at',hat,hlt⟩:∃a:Nat,c / 11 % (((ra.map V.ref).length:Nat):Int)=(a:Int)∧a < ra.length:=⟨(c / 11 % (((ra.map V.ref).length:Nat):Int)).toNat,by
     rw[aa0];have h1:=aat (c / 11) (show ((ra.length:Nat):Int)≠0 by omega);omega,by
     rw[aa0];have h1:=aat (c / 11) (show ((ra.length:Nat):Int)≠0 by omega);have h2:=acf (c / 11) (show (0:Int) < ((ra.length:Nat):Int) by omega);omega⟩
    refine ⟨_,.inl (SqL.of r7),by rw[aa0];omega,_,SqL.of r7,λp hp=>?_⟩;rw[hat];have c1:ju (ra.map V.ref) (some (at':Int)) none=(ra.drop at').map V.ref:=by
     have:=Ly (ra.map V.ref) at' 0 (by rw[aa0];omega);rw[show ((at':Int)+((0:Nat):Int))=(at':Int) by omega,Nat.add_zero] at this;rw[this,ac4]
    have c2:ju (ra.map V.ref) none (some (at':Int))=(ra.take at').map V.ref:=by rw[uw _ _ (by rw[aa0];omega),aei]
    rw[c1] at*;refine ⟨_,SqL.of (aa hp _ _ _ r7),λp2 hp2=>?_⟩;rw[c2];refine P8 (aa hp2 _ _ _ ae) ae (by rw[aa0,aa0,aao,ab0];omega) λp3 hp3=>⟨_,.inl ⟨SqL.of ae,λt ht=>⟨by show (2:Nat)≤sizeLine;decide,λbt hbt=>?_⟩⟩⟩;have s8:=(aa hp (.lst ((ra.drop at').map V.ref))).trans ((aa hp2 (.lst ((ra.take at').map V.ref))).trans ((aa hp3 (.lst ((ra.drop at').map V.ref++(ra.take at').map V.ref))).trans ((aa ht (.tup ((ra.drop at').map V.ref++(ra.take at').map V.ref))).trans (aa hbt (.tup [V.ref kt,V.ref t])))));refine q bt m _ kinds (rs.drop at'++rs.take at') (s7.trans (ay.of s8)) (s8 _ _ d7) (by omega) ⟨kt,t,ra.drop at'++ra.take at',ae,s8 _ _ k7,?_,(R7.rot at').same s8⟩ (bk_rot hk (by rw[hkd];exact hN.2.2.1.sublist (ads _ _)) (by omega) hN.2.2.1 nm7 so7 (by omega) at') (by rw[aa2,aao,ab0];omega) (Hi nm7 at') (λz hz=>abv (hkd ▸ hz));rw[aa5];exact aa hbt _ _ _ ae
noncomputable abbrev mx:Stmt:=top 38
theorem Fh:ax ["deck","own","letters","cell","more","tail","names","k","sign","name"] ["deck"] (ag mx):=⟨rfl,rfl,rfl,by decide+kernel,rfl,by decide+kernel,by decide+kernel⟩
theorem Mu (G:Gs w K mg κ) (h_law_next:Has P w K mg base k "_law_next" ["deck"] jg) (D:Def K mg "_law_names" mx ["deck"]):Has P w K mg base (k+1) "_law_names" ["deck"] ow:=by
 refine D.has Fh (λvs H Q E h=>?_) (λf cdv A outer s H vs Q E hr h=>?_)
 ·obtain ⟨_,_,_,_,rfl,_,_,_⟩:=h;rfl
 have nd:=Fh.nd;have hu:=bx hr;have hu0:=aae hu;obtain ⟨d,b,ns,n,rfl,hD,hn,q⟩:=h;have m_range:=G.m_range;refine ⟨_,(A4 (A7 1 nd (AG (BF (AK (AK (AK (AK (AK (AK (AK (AK (AK (BG 0))))))))))))) (A4 (A7 2 nd (AN 0)) (A4 (A7 3 nd (AE h_law_next hr (A1 (A0 0) (A2 0)))) (A4 (A7 4 nd (A5 (AW 0) (A0 3) (A3 0))) (A4 (A7 5 nd (A5 (@ng _) (A8 (@ke _) (A0 2) (A5 (AJ 0) (A5 (AW 0) (A0 4) (A3 0)) (A3 0))) (A5 (AJ 0) (A5 (AW 0) (A0 4) (A3 0)) (A3 0)))) (A4 (A7 6 nd (AG (A2 0))) (A4 (B0 (BU m_range (A1 (A3 0) (A2 0))) (AO 7 nd (by first | exact ab4 rfl | exact ab6 rfl)) (A4 (A7 8 nd (A8 (@ke _) (A0 2) (A5 (AJ 0) (A5 (AR 0) (A0 4) (A0 7)) (A3 0)))) (A4 (A7 9 nd (A5 (BV 0) (A5 (BV 0) (A0 8) (A8 (@ke _) (A0 2) (A5 (AJ 0) (A5 (AR 0) (A5 (AW 0) (A0 4) (A3 0)) (A5 (AW 0) (A0 7) (A3 0))) (A3 0)))) (A0 5))) (BM (AD (AF (AM 0) (A5 (AJ 0) (A0 3) (A3 0)) (A3 0) (AA 0)) (A6 (A7 9 nd (A5 (BV 0) (A8 (AU 0) (A0 1) (A5 (AJ 0) (A5 (AR 0) (A0 7) (A0 4)) (A3 0))) (A8 (@ke _) (A0 2) (A5 (AJ 0) (A5 (AR 0) (A5 (AW 0) (A0 4) (A3 0)) (A5 (AW 0) (A0 7) (A3 0))) (A3 0)))))) (AL 0)) (BM (AD (AF (AM 0) (A5 (AJ 0) (A0 3) (A3 0)) (A3 0) (AA 0)) (A4 (A7 9 nd (A5 (@ng _) (A8 (@ke _) (A0 2) (A5 (AJ 0) (A0 4) (A3 0))) (A5 (AR 0) (A3 0) (A5 (AJ 0) (A0 7) (A3 0))))) (A4 (A7 9 nd (A5 (BV 0) (A0 9) (A5 (@ng _) (A8 (@ke _) (A0 2) (A5 (AJ 0) (A5 (AR 0) (A0 4) (A3 0)) (A3 0))) (A5 (AJ 0) (A5 (AW 0) (A0 7) (A3 0)) (A3 0))))) (A6 (A7 9 nd (A5 (BV 0) (A0 9) (A8 (@ke _) (A0 2) (A5 (AJ 0) (A5 (AR 0) (A5 (AR 0) (A0 4) (A3 0)) (A5 (AW 0) (A0 7) (A3 0))) (A3 0)))))))) (AL 0)) (BM (AD (BQ (BW 0) (A0 9) (A0 1)) (A6 (A7 9 nd (A5 (BV 0) (A0 9) (AN 0)))) (AL 0)) (A6 (AQ (AS PySem.F.plainAttrs_list PySem.F.slot_list_append PySem.F.type_list_append (AX 0) (A0 6) (A1 (A0 9) (A2 0))))))))))) (A6 (AB (A0 6)))))))))),?_⟩;rw[show start ["deck","own","letters","cell","more","tail","names","k","sign","name"] [.ref d]=[some (.ref d),none,none,none,none,none,none,none,none,none] from rfl];clear hu hu0 nd hr;push_cast [and_true];have sz:=sizeLine_eq;refine ⟨by show (9:Nat)≤sizeLine;decide,λp hp=>my (hD.same (aa hp _)) (by omega) λc H1 s1 d1=>?_⟩;push_cast [qb];refine gu ⟨_,rfl,by omega,by omega,by show (1:Nat)≤1000;decide,aa7 _,λl hl=>?_⟩;have npd:p≠d:=(ah hD.1 hp).symm;have p1:H1 p=some (.lst (dg.map V.str)):=s1 p _ npd ae;have S1:ay d H H1:=(ay.of (aa hp (.lst (dg.map V.str)))).trans s1;have fl:=S1.free d1 hl;have nld:l≠d:=(ah d1 hl).symm;have nlp:l≠p:=(ah p1 hl).symm;obtain ⟨P1,eP1⟩:∃P1:Nat→L2.St→Hp→Prop,∀j σ H',P1 j σ H'↔∃v7 v8 v9:Option V,σ=[some (.ref d),some (.ref p),some (.str Bo),some (.int c),some (.int (c / 3)),some (.str (rf (c / 3))),some (.ref l),v7,v8,v9]∧ay d H H'∧H' d=some (.lst [.ref b,.int ((n+1:Nat):Int)])∧H' p=some (.lst (dg.map V.str))∧H' l=some (.lst ((aav j).map λk=>V.str (nmP c k))):=⟨_,λ_ _ _=>abg⟩;refine fq (lo:=0) P1 ((eP1 _ _ _).mpr ⟨none,none,none,rfl,S1.upd fl _,aa hl _ _ _ d1,aa hl _ _ _ p1,ae⟩) ?_ ?_
 ·intro j σ H5 hj hh;refine ob3 ((eP1 _ _ _).mp hh) λv7 v8 v9 hh=>?_;have s5:=hh.2.1;have d5:=hh.2.2.1;have p5:=hh.2.2.2.1;have l5:=hh.2.2.2.2;obtain rfl:=hh.1;clear hh;push_cast [and_true];simp only[Int.zero_add];refine gu (gu ⟨_,rfl,_,rfl,by rw[dq,dq];omega,by have:=Fb (c / 3) (c / 3) j;unfold nm0 at this;rw[Str.length_append] at this;omega,?_⟩);refine ei (λσ' H6=>σ'=[some (.ref d),some (.ref p),some (.str Bo),some (.int c),some (.int (c / 3)),some (.str (rf (c / 3))),some (.ref l),some (.int (j:Int)),some (.str (ltr (c / 3+(j:Int)))),some (.str (if c % 3=1 then nm1 (c / 3) j else nm0 (c / 3) (rf (c / 3)) j))]∧H5=H6) ?_ ?_
  ·push_cast [and_true];refine ⟨rfl,cf (λe=>?_) λe=>?_⟩
   ·rw[if_pos e];have b1:(((j:Int)+c / 3) % 9).toNat < dg.length:=by show _ < 9;omega
    have g:=Gh (c / 3) j;have g2:nm1 (c / 3) j=dg[(((j:Int)+c / 3) % 9).toNat]++ltr (c / 3 / 9+(j:Int) / 9):=by
     unfold nm1;rw[aad,aa1 b1];rfl
    refine aw (v:=.str dg[(((j:Int)+c / 3) % 9).toNat]) p5 ?_ (gu ⟨_,rfl,_,rfl,?_,g2.symm,rfl⟩)
    ·have g3:((((j:Int)+c / 3) % 9).toNat:Int)=((j:Int)+c / 3) % 9:=by omega
     have g4:=bb (xs:=dg.map V.str) (j:=(((j:Int)+c / 3) % 9).toNat) (v:=.str dg[(((j:Int)+c / 3) % 9).toNat]) (by rw[aa8,aa1 b1];rfl);rw[g3] at g4;exact g4
    ·rw[g2,Str.length_append] at g;omega
   ·rw[if_neg e];rfl
  rintro _ _ ⟨rfl,rfl⟩;refine ei (λσ' H6=>∃v8:Option V,σ'=[some (.ref d),some (.ref p),some (.str Bo),some (.int c),some (.int (c / 3)),some (.str (rf (c / 3))),some (.ref l),some (.int (j:Int)),v8,some (.str (nmX c j))]∧H5=H6) ?_ ?_
  ·push_cast [and_true];refine ⟨rfl,cf (λe=>?_) λe=>?_⟩
   ·refine gu ⟨_,rfl,by omega,by omega,by rw[dq];omega,gu ⟨_,rfl,by omega,by omega,by rw[dq];omega,by rw[ky,ky];omega,gu ⟨_,rfl,by rw[Str.length_append,ky,ky,dq];omega,?_,rfl⟩⟩⟩;unfold nmX;rw[if_pos e];rfl
   ·unfold nmX;rw[if_neg e]
  rintro _ _ ⟨v8',rfl,rfl⟩;refine ei (λσ' H6=>∃v8:Option V,σ'=[some (.ref d),some (.ref p),some (.str Bo),some (.int c),some (.int (c / 3)),some (.str (rf (c / 3))),some (.ref l),some (.int (j:Int)),v8,some (.str (nmP c j))]∧H5=H6) ?_ ?_
  ·push_cast [rIn];have g:=Gv c j;have hx:(Str.ofString "xq").length=2:=Ab;refine ⟨_,.inl (SqL.of p5),rfl,List.all_eq_true.mpr λx hx=>by obtain ⟨z,_,rfl⟩:=List.mem_map.mp hx;rfl,cf (λe=>⟨by omega,?_⟩) λe=>?_⟩
   ·unfold nmP;rw[if_pos ((Jo _).mp e)]
   ·unfold nmP;rw[if_neg λh=>e ((Jo _).mpr h)]
  rintro _ _ ⟨v8'',rfl,rfl⟩;push_cast [and_true];refine bg l5 (by rw[aa0,ac5];omega) ((eP1 _ _ _).mpr ⟨_,_,_,rfl,s5.upd fl _,by rw[af nld.symm];exact d5,by rw[af nlp.symm];exact p5,?_⟩);rw[ae,ae7,aa5];rfl
 ·intro σ H5 hh;refine ob3 ((eP1 _ _ _).mp hh) λv7 v8 v9 hh=>?_;have s5:=hh.2.1;have d5:=hh.2.2.1;have p5:=hh.2.2.2.1;have l5:=hh.2.2.2.2;obtain rfl:=hh.1;clear hh;push_cast [and_true];exact q l H5 _ s5 d5 (Dw l5) (M4 c)
noncomputable abbrev jy:Stmt:=top 45
theorem Bp:ax ["kinds","shape"] ["kinds","shape"] (ag jy):=⟨rfl,rfl,rfl,by decide+kernel,rfl,by decide+kernel,by decide+kernel⟩
theorem Ih (G:Gs w K mg κ) (D:Def K mg "_law_holes" jy ["kinds","shape"]):Has P w K mg base (k+1) "_law_holes" ["kinds","shape"] (j8 K):=by
 refine D.has Bp (λvs H Q E h=>?_) (λf cdv A outer s H vs Q E hr h=>?_)
 ·obtain ⟨_,_,_,_,rfl,_,_,_,_,_⟩:=h;rfl
 have nd:=Bp.nd;have hu:=bx hr;have hu0:=aae hu;obtain ⟨kt,st,kinds,sh,rfl,hK,hS,hw,hl,q⟩:=h;refine ⟨_,(A6 (AB (BT (BN ["word"] ["kinds"] [0] (aal rfl trivial) (aal (aal rfl (aal rfl rfl)) trivial)) (BS (A0 1)) (λ_ _ _=>(BA 0 (show abf (["word","kinds"]:List Str) by decide+kernel))) (λ_ _ _=>(BZ (BQ (@nj _ K rfl) (A0 0) (A9 1)))) (λ_ _ _=>(A0 0))))),?_⟩;rw[show start ["kinds","shape"] [.ref kt,.ref st]=[some (.ref kt),some (.ref st)] from rfl];clear hu hu0 nd hr;push_cast [and_true];have sz:=sizeLine_eq;have fl:(kinds.map V.str).all ik=true:=List.all_eq_true.mpr λx hx=>by obtain ⟨z,_,rfl⟩:=List.mem_map.mp hx;rfl
 refine ⟨⟨sh,hS⟩,λD hD=>Ar (xs:=sh) (λi ys=>ys=(sh.take i).filter (isH kinds)) hS (by omega) hD rfl (λi x ys H3 G' K' hx hP hl2 hS' hG hK'=>?_) λys H3 hP hl2 hS' hD2=>?_⟩
 ·have hxw:=hw x (aac hx);have et:sh.take (i+1)=sh.take i++[x]:=by rw[ab7,hx];rfl
  push_cast [rIn];refine ⟨_,.inr (hS'.tup hK),hxw.flat,fl,cf (λe=>?_) λe=>?_⟩
  ·rw[Ad hxw] at e;refine hK' _ _ (ak.refl _) ?_;rw[et,aba,←hP,aan,if_pos e];rfl
  ·rw[Ad hxw] at e;refine hG _ (ak.refl _) ?_;rw[et,aba,←hP,aan,if_neg e];exact (aay _).symm
 ·rw[abm,←iz] at hP;subst hP;exact q D H3 hS' hD hD2
noncomputable abbrev ni:Stmt:=top 46
theorem Gn:ax ["book","words","ends","found","back","place","rule","under"] ["book","words"] (ag ni):=⟨rfl,rfl,rfl,by decide+kernel,rfl,by decide+kernel,by decide+kernel⟩
theorem Ls (G:Gs w K mg κ) (h_law_ends:Has P w K mg base k "_law_ends" ["words"] (uo K)) (h_law_holes:Has P w K mg base k "_law_holes" ["kinds","shape"] (j8 K)) (h_law_laid:Has P w K mg base k "_law_laid" ["kinds","shape","words","ends","place"] (o7 K)) (D:Def K mg "_law_fits" ni ["book","words"]):Has P w K mg base (k+1) "_law_fits" ["book","words"] uc:=by
 refine D.has Gn (λvs H Q E h=>?_) (λf cdv A outer s H vs Q E hr h=>?_)
 ·obtain ⟨_,_,_,_,_,rfl,_,_,_,_,_⟩:=h;rfl
 have nd:=Gn.nd;have hu:=bx hr;have hu0:=aae hu;obtain ⟨b,wt,kinds,rs,ws,rfl,hB,hW,bk,tw,q⟩:=h;have m_len:=G.m_len;have m_list:=G.m_list;have m_range:=G.m_range;have m_zip:=G.m_zip;refine ⟨_,(A4 (A7 2 nd (AE h_law_ends hr (A1 (A0 1) (A2 0)))) (A4 (A7 3 nd (AG (A2 0))) (A4 (B0 (BU m_range (A1 (AC (AY 0) m_len cw (A1 (A0 1) (A2 0))) (A2 0))) (AO 4 nd (by first | exact ab4 rfl | exact ab6 rfl)) (A4 (A7 5 nd (A5 (B7 0) (A5 (B7 0) (AC (AY 0) m_len cw (A1 (A0 1) (A2 0))) (A3 0)) (A0 4))) (A6 (B0 (BS (A8 (AH 0) (A0 0) (A3 0))) (AO 6 nd (by first | exact ab4 rfl | exact ab6 rfl)) (A4 (A7 7 nd (AE h_law_laid hr (A1 (A8 (AH 0) (A0 0) (A3 0)) (A1 (A8 (AH 0) (A0 6) (A3 0)) (A1 (A0 1) (A1 (A0 2) (A1 (A0 5) (A2 0)))))))) (A6 (AD (BK (CJ (A0 7)) (by first | exact cn _ (by decide) (by decide) | rfl)) (A6 (AQ (AS PySem.F.plainAttrs_list PySem.F.slot_list_append PySem.F.type_list_append (AX 0) (A0 3) (A1 (AI (A1 (A0 6) (A1 (A0 5) (A1 (CM m_list m_zip (A1 (A8 (AH 0) (A0 7) (A3 0)) (A1 (AE h_law_holes hr (A1 (A8 (AH 0) (A0 0) (A3 0)) (A1 (A8 (AH 0) (A0 6) (A3 0)) (A2 0)))) (A2 0)))) (A2 0))))) (A2 0))))) (AL 0)))))))) (A6 (AB (A0 3)))))),?_⟩;rw[show start ["book","words","ends","found","back","place","rule","under"] [.ref b,.ref wt]=[some (.ref b),some (.ref wt),none,none,none,none,none,none] from rfl];clear hu hu0 nd hr;push_cast [and_true];have sz:=sizeLine_eq;have wl:=tw.len;have rl:=bk.len;refine Kf (SqT.of hW) (λv hv=>(tw.w v hv).1) tw.one wl λet H1 s1 het e1=>⟨aa7 _,λfl hfl=>⟨ws,.inr (SqT.of ((s1.trans (aa hfl _)) _ _ hW)),by omega,by omega,?_⟩⟩;obtain ⟨kt,rt,ra,hb,hkt,hrt,hRA⟩:=hB;rw[show ((ws.length:Nat):Int).toNat=ws.length by omega];obtain ⟨P1,eP1⟩:∃P1:Nat→L2.St→Hp→Prop,∀j σ H',P1 j σ H'↔∃(as:List Addr) (v4 v5 v6 v7:Option V),σ=[some (.ref b),some (.ref wt),some (.ref et),some (.ref fl),v4,v5,v6,v7]∧ak H1 H'∧H' fl=some (.lst (as.map V.ref))∧cq H' (λx=>H1 x≠none∨x=fl) as (Aj kinds rs ws j):=⟨_,λ_ _ _=>abg⟩;refine fq (lo:=0) P1 ((eP1 _ _ _).mpr ⟨[],none,none,none,none,rfl,aa hfl _,ae,cq.nil _ _⟩) ?_ ?_
 ·intro j σ H2 hj hh;refine ob5 ((eP1 _ _ _).mp hh) λas v4 v5 v6 v7 hh=>?_;have s2:=hh.2.1;have f2:=hh.2.2.1;have F2:=hh.2.2.2;obtain rfl:=hh.1;clear hh;have S2:=s1.trans s2;push_cast [and_true];refine ⟨ws,.inr (SqT.of (S2 _ _ hW)),?_⟩;obtain ⟨p,hp,ep⟩:∃p:Nat,p=ws.length - 1 - j∧((ws.length:Nat):Int) - 1 - (0+(j:Int))=(p:Int):=⟨_,rfl,by omega⟩;rw[ep];refine au (S2 _ _ hb) rfl ⟨rt,rfl,⟨_,SqT.of (S2 _ _ hrt)⟩,?_⟩;obtain ⟨P2,eP2⟩:∃P2:Nat→L2.St→Hp→Prop,∀i σ H',P2 i σ H'↔∃(as:List Addr) (v6 v7:Option V),σ=[some (.ref b),some (.ref wt),some (.ref et),some (.ref fl),some (.int (0+(j:Int))),some (.int (p:Int)),v6,v7]∧ak H1 H'∧H' fl=some (.lst (as.map V.ref))∧cq H' (λx=>H1 x≠none∨x=fl) as (Aj kinds rs ws j++(rs.take i).filterMap (i7 kinds ws p)):=⟨_,λ_ _ _=>abg⟩;refine jf (xs:=ra.map V.ref) P2 ((eP2 _ _ _).mpr ⟨as,v6,v7,rfl,s2,f2,by rw[List.take_zero];exact (aay _).symm ▸ F2⟩) (λi σ H' _ h=>by obtain ⟨_,_,_,_,s,_⟩:=(eP2 _ _ _).mp h;exact SqT.of ((s1.trans s) _ _ hrt)) ?_ ?_
  ·intro i y σ H5 hy hh;refine ob3 ((eP2 _ _ _).mp hh) λas v6 v7 hh=>?_;have s5:=hh.2.1;have f5:=hh.2.2.1;have F5:=hh.2.2.2;obtain rfl:=hh.1;clear hh;have S5:=s1.trans s5;rw[aa8] at hy;obtain ⟨ai,hai,rfl⟩:=Option.map_eq_some_iff.mp hy;have hil:i < rs.length:=by rw[←hRA.1];exact (List.getElem?_eq_some_iff.mp hai).1
   have hri:rs[i]?=some rs[i]:=aa1 hil;obtain ⟨a',ha',sa,da,ds,g1,g2,g3⟩:=hRA.2 i _ hri;obtain rfl:a'=ai:=aa3 (ha'.symm.trans hai);generalize rs[i]=r at hri g1 g2;have hrm:=aac hri;obtain ⟨w1,w2,w3⟩:=bk.sh r hrm;have et':(rs.take (i+1)).filterMap (i7 kinds ws p)=(rs.take i).filterMap (i7 kinds ws p)++(i7 kinds ws p r).toList:=by
    rw[ab7,hri,ada];congr 1
   push_cast [and_true];refine au (S5 _ _ hb) rfl (au (S5 _ _ g1) rfl (G6 (SqT.of (S5 _ _ g2)) (SqT.of (S5 _ _ hkt)) (SqT.of (S5 _ _ hW)) (s5 _ _ e1) bk.kd w1 w2 (by omega) tw (by omega) λH6 s6=>?_));have S6:=S5.trans s6;cases hu:bz kinds ws r.shape p ⟨[],[],[]⟩ with
   | none=>
    have ef:i7 kinds ws p r=none:=by unfold i7;rw[hu];rfl
    refine qi ?_;push_cast [pe];rw[if_neg (by simp)];refine (eP2 _ _ _).mpr ⟨as,_,_,rfl,s5.trans s6,s6 _ _ f5,?_⟩;rw[et',ef,show (none:Option Pc.Lf).toList=[] from rfl,aay];exact F5.same s6
   | some u=>
    intro t H7 s7 hu7 ok7;have ef:i7 kinds ws p r=some ⟨p,r,u.hs.zip (aq kinds r.shape)⟩:=by unfold i7;rw[hu];rfl
    have S7:=S6.trans s7;obtain ⟨t1,t2,t3,u1,u2,_⟩:=id hu7;push_cast [pe,tLZ];rw[if_pos (by simp)];have s57:=s6.trans s7;have f7:=s57 _ _ f5;have hn:=(ku bk.kd r.shape p _ u w1 hu).1;refine ⟨az f7,au u1 rfl (au (S7 _ _ hb) rfl (au (S7 _ _ g1) rfl (Bs (SqT.of (S7 _ _ hkt)) (SqT.of (S7 _ _ g2)) w1 (by omega) λl H8 s8 hl8 h8=>?_)))⟩;refine ⟨t1,rfl,l,rfl,u.hs.map plV,SqT.of (s8 _ _ u2),(aq kinds r.shape).map V.str,SqL.of h8,by rw[aa0,aa0];simpa using hn,λl2 bs H9 s9 hl9 hal hL hA=>⟨by show (3:Nat)≤sizeLine;decide,λpr hpr=>?_⟩⟩;have sA:=aa hpr (.tup [V.ref a',V.int (p:Int),V.ref l2]);have eA:upd H9 pr (.tup [V.ref a',V.int (p:Int),V.ref l2]) pr=some (.tup [V.ref a',V.int (p:Int),V.ref l2]):=ae;generalize upd H9 pr (.tup [V.ref a',V.int (p:Int),V.ref l2])=HA at sA eA ⊢;have s7A:=s8.trans (s9.trans sA);have fA:=s7A _ _ f7;have fal:as.length≤100000+100:=by
     rw[F5.1,aa2];have h1:=wq kinds rs ws rl j;have h2:((rs.take i).filterMap (i7 kinds ws p)).length≤(rs.take i).length:=abo _ _;rw[ab0] at h2;omega
    refine (bg (K:=K) fA (by rw[aa0];omega) ((eP2 _ _ _).mpr ⟨as++[pr],_,_,rfl,((s5.trans s57).trans s7A).upd hfl _,by rw[ae,aa5];rfl,?_⟩)).2;rw[et',ef,←abi];refine cq.kx (cq.snoc (F5.same (s57.trans s7A)) ⟨a',l2,?_,eA,⟨sa,da,ds,(S7.trans s7A) _ _ g1,(S7.trans s7A) _ _ g2,(S7.trans s7A) _ _ g3⟩,?_⟩) ((Kx.upd fA).weak λx hx=>.inr hx)
    ·have f9:H7 l2=none:=s8.free hl9;rintro (z | z)
     ·exact z ((s5.trans s57).free f9)
     ·exact (ah f7 f9) z.symm
    ·refine ⟨bs,sA _ _ hL,?_,λj' k hj'=>?_⟩
     ·rw[hal,aa0,adk];have:u.hs.length=(aq kinds r.shape).length:=by simpa using hn
      omega
     ·obtain ⟨k1,k2⟩:=List.getElem?_zip_eq_some.mp (show (u.hs.zip (aq kinds r.shape))[j']?=some (k.1,k.2) from hj');obtain ⟨a2,b1,b2⟩:=hA j' _ _ (by rw[aa8,k1];rfl) (by rw[aa8,k2];rfl);exact ⟨a2,b1,sA _ _ b2⟩
  ·intro σ H5 hh;refine ob3 ((eP2 _ _ _).mp hh) λas v6 v7 hh=>?_;have s5:=hh.2.1;have f5:=hh.2.2.1;have F5:=hh.2.2.2;obtain rfl:=hh.1;clear hh;refine (eP1 _ _ _).mpr ⟨as,_,_,_,_,rfl,s5,f5,?_⟩;rw[aa0,aby (by rw[hRA.1];exact aa4 _),hp] at F5;rw[qj];exact F5
 ·intro σ H2 hh;refine ob5 ((eP1 _ _ _).mp hh) λas v4 v5 v6 v7 hh=>?_;have s2:=hh.2.1;have f2:=hh.2.2.1;have F2:=hh.2.2.2;obtain rfl:=hh.1;clear hh;push_cast [and_true];exact q fl as H2 (s1.trans s2) (s1.free hfl) f2 (F2.weak λx hx=>.inl λz=>hx (s1.free z))
noncomputable abbrev nr:Stmt:=top 47
theorem Gm:ax ["rule","keys","least","cost","key"] ["rule","keys","least"] (ag nr):=⟨rfl,rfl,rfl,by decide+kernel,rfl,by decide+kernel,by decide+kernel⟩
theorem Mp (G:Gs w K mg κ) (D:Def K mg "_law_cost" nr ["rule","keys","least"]):Has P w K mg base (k+1) "_law_cost" ["rule","keys","least"] oj:=by
 refine D.has Gm (λvs H Q E h=>?_) (λf cdv A outer s H vs Q E hr h=>?_)
 ·obtain ⟨_,_,_,_,_,_,_,rfl,_,_,_,_⟩:=h;rfl
 have nd:=Gm.nd;have hu:=bx hr;have hu0:=aae hu;obtain ⟨ra,hl,d,r,hs,g,n,rfl,hR,hH,hT,q⟩:=h;refine ⟨_,(A4 (A7 3 nd (A8 (AH 0) (A0 0) (A3 0))) (A4 (B0 (BO (A0 1)) (AO 4 nd (by first | exact ab4 rfl | exact ab6 rfl)) (A4 (AD (BK (C4 hu (A0 4) (A0 2)) (by first | exact cn _ (by decide) (by decide) | rfl)) (A6 (AB (A3 0))) (AL 0)) (A6 (A7 3 nd (A5 (AR 0) (A0 3) (BE hu (A0 2) (A0 4))))))) (A6 (AB (A0 3))))),?_⟩;rw[show start ["rule","keys","least","cost","key"] [.ref ra,.ref hl,.ref d]=[some (.ref ra),some (.ref hl),some (.ref d),none,none] from rfl];clear hu hu0 nd hr;push_cast [and_true];obtain ⟨as,h1,h2,h3⟩:=hH;obtain ⟨sa,da,ds,r1,r2,r3⟩:=hR;refine au r1 rfl ⟨⟨_,SqL.of h1⟩,dz (xs:=as.map V.ref) (λi σ H'=>∃(c:Int) (v4:Option V),σ=[some (.ref ra),some (.ref hl),some (.ref d),some (.int c),v4]∧H=H'∧cost g c (hs.drop i)=cost g r.price hs) ⟨r.price,none,rfl,rfl,rfl⟩ (λi σ H' _ h=>by obtain ⟨_,_,_,rfl,_⟩:=h;exact SqL.of h1) ?_ ?_⟩
 ·rintro i y σ H' hy ⟨c,v4,rfl,rfl,hc⟩;rw[aa8] at hy;obtain ⟨a,ha,rfl⟩:=Option.map_eq_some_iff.mp hy;have hil:i < hs.length:=by rw[←h2];exact (List.getElem?_eq_some_iff.mp ha).1
  have hk:hs[i]?=some hs[i]:=aa1 hil;obtain ⟨a',ha',hA⟩:=h3 i _ hk;obtain rfl:a'=a:=aa3 (ha'.symm.trans ha);rw[aaw hil] at hc;push_cast [and_true];refine ⟨_,hT.get hA,?_⟩;cases e:g hs[i] with
  | none=>
   rw[gk e] at hc;rw[←hc] at q;rw[if_pos (by simp)];exact q
  | some v=>
   rw[gb e] at hc;have hG:=hT.val hA e;rw[if_neg (by simp)];exact ⟨_,hG,hc⟩
 ·rintro σ H' ⟨c,v4,rfl,rfl,hc⟩;rw[aa0,h2,aca] at hc;have hc:some c=cost g r.price hs:=hc;push_cast [and_true];rw[←hc] at q;exact q
noncomputable abbrev jn:Stmt:=top 48
theorem Bf:ax ["fits","least","again","rule","place","keys","cost","key"] ["fits"] (ag jn):=⟨rfl,rfl,rfl,by decide+kernel,rfl,by decide+kernel,by decide+kernel⟩
theorem Hl (G:Gs w K mg κ) (h_law_cost:Has P w K mg base k "_law_cost" ["rule","keys","least"] oj) (D:Def K mg "_law_least" jn ["fits"]):Has P w K mg base (k+1) "_law_least" ["fits"] oo:=by
 refine D.has Bf (λvs H Q E h=>?_) (λf cdv A outer s H vs Q E hr h=>?_)
 ·obtain ⟨_,_,_,rfl,_,_,_,_,_⟩:=h;rfl
 have nd:=Bf.nd;have hu:=bx hr;have hu0:=aae hu;obtain ⟨fl,as,fs,rfl,hF,hFs,hn,ho,q⟩:=h;refine ⟨_,(A4 (A7 1 nd (@ue _ _)) (A4 (A7 2 nd (BD 0)) (A4 (C0 (B9 (A0 2)) (A4 (A7 2 nd (BD 0)) (A6 (B0 (BO (A0 0)) (C3 3 (AV (AO 3 nd (by first | exact ab4 rfl | exact ab6 rfl)) (AV (AO 4 nd (by first | exact ab4 rfl | exact ab6 rfl)) (AV (AO 5 nd (by first | exact ab4 rfl | exact ab6 rfl)) (@ig _))))) (A4 (A7 6 nd (AE h_law_cost hr (A1 (A0 3) (A1 (A0 5) (A1 (A0 1) (A2 0)))))) (A4 (A7 7 nd (AI (A1 (A0 4) (A1 (A8 (AH 0) (A0 3) (A3 0)) (A2 0))))) (A6 (AD (BB (BL (AF (@iq _) (A0 6) (A3 0) (AA 0)) (BP (BB (C7 (BK (C4 hu (A0 7) (A0 1)) (by first | exact cn _ (by decide) (by decide) | rfl)) (C8 (AF (@pz _) (A0 6) (BE hu (A0 1) (A0 7)) (AA 0)))))))) (A4 (CN hu (A0 1) (A0 7) (A0 6)) (A6 (A7 2 nd (BD 0)))) (AL 0))))))))) (A6 (AB (A0 1)))))),?_⟩;rw[show start ["fits","least","again","rule","place","keys","cost","key"] [.ref fl]=[some (.ref fl),none,none,none,none,none,none,none] from rfl];clear hu hu0 nd hr;push_cast [and_true];have sz:=sizeLine_eq;have hal:=hFs.1;intro d hd;have own:∀f∈fs.map gz,1≤f.own:=λf hf=>by
  obtain ⟨f',hf',rfl⟩:=List.mem_map.mp hf;exact ho f' hf'
 obtain ⟨μ,Ok,ok0,okpos,okstep⟩:=ends (F:=fs.map gz) (g0:=λ_=>none) (λk v h=>nomatch h) own ⟨0,λk v h=>nomatch h⟩;have cl:∀g',cnt (fs.map gz) g'≤fs.length:=λg'=>by have:=E3 (fs.map gz) g';rw[aa0] at this;exact this
 obtain ⟨P1,eP1⟩:∃P1:L2.St→Hp→Prop,∀σ H',P1 σ H'↔∃(g':Ky→Option Int) (ks:List Ky) (b:Bool) (v3 v4 v5 v6 v7:Option V),σ=[some (.ref fl),some (.ref d),some (.bl b),v3,v4,v5,v6,v7]∧ak H H'∧TbK H' d g' ks∧ks.length≤cnt (fs.map gz) g'∧Ok g'∧Due (fs.map gz) g'∧(b=false→ji (fs.map gz) g'):=⟨_,λ_ _=>abg⟩;refine gn P1 (λσ H'=>2*μ (gOf H' d)+blAt2 σ) ((eP1 _ _).mpr ⟨λ_=>none,[],true,none,none,none,none,none,rfl,aa hd _,TbK.nil,aa7 _,ok0,(λk v h=>nomatch h),λe=>nomatch e⟩) ?_ ?_
 ·intro σ H1 hh;refine ob8 ((eP1 _ _).mp hh) λg1 ks1 b v3 v4 v5 v6 v7 hh=>?_;have s1:=hh.2.1;have T1:=hh.2.2.1;have L1:=hh.2.2.2.1;have ok1:=hh.2.2.2.2.1;have du1:=hh.2.2.2.2.2.1;have st1:=hh.2.2.2.2.2.2;obtain rfl:=hh.1;clear hh;push_cast [and_true];cases b with
  | false=>
   rw[if_neg (by simp)];exact q d H1 g1 ks1 s1 hd T1 ⟨st1 rfl,du1,okpos g1 ok1⟩ (aar L1 (cl g1))
  | true=>
   rw[if_pos (by simp)];have e1:=Ap T1.tb;obtain ⟨Pv,ePv⟩:∃Pv:Nat→L2.St→Hp→Prop,∀i σ H',Pv i σ H'↔∃(g':Ky→Option Int) (ks:List Ky) (b:Bool) (v3 v4 v5 v6 v7:Option V),σ=[some (.ref fl),some (.ref d),some (.bl b),v3,v4,v5,v6,v7]∧ak H H'∧TbK H' d g' ks∧ks.length≤cnt (fs.map gz) g'∧Ok g'∧Due (fs.map gz) g'∧(b=false→g'=g1∧∀(j:Nat) (f:Pc.Lf),j < i→fs[j]?=some f→StL g1 f)∧(b=true→μ g' < μ g1):=⟨_,λ_ _ _=>abg⟩;refine ⟨⟨_,SqL.of (s1 _ _ hF)⟩,dz (xs:=as.map V.ref) Pv ((ePv _ _ _).mpr ⟨g1,ks1,false,v3,v4,v5,v6,v7,rfl,s1,T1,L1,ok1,du1,λ_=>⟨rfl,λj f h=>absurd h (ac2 _)⟩,λe=>nomatch e⟩) (λi σ H' _ h=>by obtain ⟨_,_,_,_,_,_,_,_,_,s,_⟩:=(ePv _ _ _).mp h;exact SqL.of (s _ _ hF)) ?_ ?_⟩
   ·intro i y σ H2 hy hh;refine ob8 ((ePv _ _ _).mp hh) λg2 ks2 b v3 v4 v5 v6 v7 hh=>?_;have s2:=hh.2.1;have T2:=hh.2.2.1;have L2:=hh.2.2.2.1;have ok2:=hh.2.2.2.2.1;have du2:=hh.2.2.2.2.2.1;have bt2:=hh.2.2.2.2.2.2.1;have bf2:=hh.2.2.2.2.2.2.2;obtain rfl:=hh.1;clear hh;rw[aa8] at hy;obtain ⟨a,ha,rfl⟩:=Option.map_eq_some_iff.mp hy;obtain ⟨f,hfi,ra,hl,_,h3,h4,h5⟩:=(hFs.same s2).get ha;have hfm:=aac hfi;refine Bi h3 rfl ?_;push_cast [and_true];refine Fw h4 h5 T2.tb ?_;obtain ⟨sa,da,ds,r1,r2,r3⟩:=h4;refine au r1 rfl ⟨by show (2:Nat)≤sizeLine;decide,λp1 hp1=>?_⟩;have s3:=aa hp1 (.tup [V.int (f.place:Int),V.str f.r.kind]);have k3:upd H2 p1 (.tup [V.int (f.place:Int),V.str f.r.kind]) p1=some (kyT (f.place,f.r.kind)):=ae;generalize upd H2 p1 (.tup [V.int (f.place:Int),V.str f.r.kind])=H3 at s3 k3 ⊢;have T3:=T2.same s3;have no:∀w3 w4 w5 w6 w7,StL g2 f→Pv (i+1) [some (.ref fl),some (.ref d),some (.bl b),w3,w4,w5,w6,w7] H3:=λw3 w4 w5 w6 w7 so=>(ePv _ _ _).mpr ⟨g2,ks2,b,w3,w4,w5,w6,w7,rfl,s2.trans s3,T3,L2,ok2,du2,λe=>⟨(bt2 e).1,λj f' hj hf'=>by
     obtain ⟨e1',h⟩:=bt2 e;by_cases c:j < i
     ·exact h j f' c hf'
     ·obtain rfl:j=i:=by omega
      obtain rfl:f=f':=aa3 (hfi.symm.trans hf');rw[←e1'];exact so⟩,bf2⟩
    have yes:∀(c:Int) w3 w4 w5 w6 w7,cost g2 f.r.price f.hs=some c→Imp g2 (f.place,f.r.kind) c→∃H'',sj H3 d (.ref p1) (.int c) H''∧Pv (i+1) [some (.ref fl),some (.ref d),some (.bl true),w3,w4,w5,w6,w7] H'':=λc w3 w4 w5 w6 w7 hc im=>by
     have hfF:gz f∈fs.map gz:=List.mem_map.mpr ⟨f,hfm,rfl⟩;obtain ⟨o,ks',hput,htb,hle⟩:=T3.put (v:=c) k3 (by have:=cl g2;omega);obtain ⟨ok',lt⟩:=okstep g2 (gz f) c ok2 hfF hc im;refine ⟨upd H3 d o,hput,(ePv _ _ _).mpr ⟨fb g2 (f.place,f.r.kind) c,ks',true,w3,w4,w5,w6,w7,rfl,(s2.trans s3).upd hd o,htb,Pb hfF (f:=gz f) ?_,ok',Qj du2 hfF hc im,(λe=>nomatch e),λ_=>?_⟩⟩
     ·show ks'.length≤if (g2 (f.place,f.r.kind)).isSome then _ else _
      cases e:g2 (f.place,f.r.kind) with
      | none=>
       rw[e] at hle;simp only[acd,aaz,if_false] at hle ⊢;omega
      | some v=>
       rw[e] at hle;simp only[ac0,if_true] at hle ⊢;omega
     ·have lt:μ (fb g2 (f.place,f.r.kind) c) < μ g2:=lt;cases b with
      | false=>
       obtain ⟨rfl,_⟩:=bt2 rfl;exact lt
      | true=>
       have:=bf2 rfl;omega
    cases e:cost g2 f.r.price f.hs with
    | none=>
     exact ifN (by show ¬(0:Int) > 0;decide) (no _ _ _ _ _ λc hc=>by rw[e] at hc;cases hc)
    | some c=>
     have cp:=t7 (okpos g2 ok2) e;have cp2:=ho f hfm;refine cf (λ_=>⟨_,T3.tb.get k3,?_⟩) λz=>absurd (show c > 0 by omega) z;cases e2:g2 (f.place,f.r.kind) with
     | none=>
      rw[if_pos (by simp)];exact yes c _ _ _ _ _ e (.inl e2)
     | some v=>
      rw[if_neg (by simp)];refine ⟨_,T3.tb.val k3 e2,cf (λlt=>yes c _ _ _ _ _ e (.inr ⟨v,e2,lt⟩)) λnlt=>no _ _ _ _ _ λc' hc'=>⟨v,e2,?_⟩⟩;rw[e] at hc';have:=aa3 hc';have nlt:¬c < v:=nlt;omega
   ·intro σ H2 hh;refine ob8 ((ePv _ _ _).mp hh) λg2 ks2 b v3 v4 v5 v6 v7 hh=>?_;have s2:=hh.2.1;have T2:=hh.2.2.1;have L2:=hh.2.2.2.1;have ok2:=hh.2.2.2.2.1;have du2:=hh.2.2.2.2.2.1;have bt2:=hh.2.2.2.2.2.2.1;have bf2:=hh.2.2.2.2.2.2.2;obtain rfl:=hh.1;clear hh;refine ⟨(eP1 _ _).mpr ⟨g2,ks2,b,v3,v4,v5,v6,v7,rfl,s2,T2,L2,ok2,du2,λe=>?_⟩,?_⟩
    ·obtain ⟨rfl,h⟩:=bt2 e;exact Dt λj f hf=>h j f (by rw[aa0,hal];exact (List.getElem?_eq_some_iff.mp hf).1) hf
    ·rw[e1,Ap T2.tb];cases b with
     | false=>
      obtain ⟨rfl,_⟩:=bt2 rfl;show 2*μ g2+0 < 2*μ g2+1
      omega
     | true=>
      have:=bf2 rfl;show 2*μ g2+1 < 2*μ g1+1
      omega
 ·intro σ H1 Q1 Q2 h c;simp only[iu,tB,fo] at c ⊢;obtain ⟨v,hv,cc,e,hq⟩:=c;exact ⟨v,hv,cc,e,h _ _ hq⟩
noncomputable abbrev jq:Stmt:=top 49
theorem Cg:ax ["fits","least","found","rule","place","keys"] ["fits","least"] (ag jq):=⟨rfl,rfl,rfl,by decide+kernel,rfl,by decide+kernel,by decide+kernel⟩
theorem Hw (G:Gs w K mg κ) (h_law_cost:Has P w K mg base k "_law_cost" ["rule","keys","least"] oj) (D:Def K mg "_law_reaching" jq ["fits","least"]):Has P w K mg base (k+1) "_law_reaching" ["fits","least"] oh:=by
 refine D.has Cg (λvs H Q E h=>?_) (λf cdv A outer s H vs Q E hr h=>?_)
 ·obtain ⟨_,_,_,_,_,_,rfl,_,_,_,_,_,_,_⟩:=h;rfl
 have nd:=Cg.nd;have hu:=bx hr;have hu0:=aae hu;have hu8:=hu8_of hr;obtain ⟨fl,d,as,fs,g,ks,rfl,hF,hFs,hn,hT,hk,T,q⟩:=h;have m_dict:=G.m_dict;refine ⟨_,(A4 (A7 2 nd (B6 (@mn _ hu8) m_dict b_dict (A1 (@J9 _ _ _ (BT (BN ["key"] [] [] trivial trivial) (@Jn _ _ _ _ (A0 1)) (λ_ _ _=>(BA 0 (show abf (["key"]:List Str) by decide+kernel))) (λ_ _ _=>(@pif0 _)) (λ_ _ _=>(AI (A1 (A0 0) (A1 (AG (A2 0)) (A2 0))))))) (A2 0)))) (A4 (B0 (BO (A0 0)) (C3 3 (AV (AO 3 nd (by first | exact ab4 rfl | exact ab6 rfl)) (AV (AO 4 nd (by first | exact ab4 rfl | exact ab6 rfl)) (AV (AO 5 nd (by first | exact ab4 rfl | exact ab6 rfl)) (@ig _))))) (A6 (AD (AF (AM 0) (AE h_law_cost hr (A1 (A0 3) (A1 (A0 5) (A1 (A0 1) (A2 0))))) (AS PySem.F.plainAttrs_dict PySem.F.slot_dict_get PySem.F.type_dict_get (@Lq _ hu) (A0 1) (A1 (AI (A1 (A0 4) (A1 (A8 (AH 0) (A0 3) (A3 0)) (A2 0)))) (A1 (C9 (@kq _) (A3 0)) (A2 0)))) (AA 0)) (A6 (AQ (AS PySem.F.plainAttrs_list PySem.F.slot_list_append PySem.F.type_list_append (AX 0) (BE hu (A0 2) (AI (A1 (A0 4) (A1 (A8 (AH 0) (A0 3) (A3 0)) (A2 0))))) (A1 (A8 (AH 0) (A0 3) (A3 0)) (A2 0))))) (AL 0)))) (A6 (AB (A0 2))))),?_⟩;rw[show start ["fits","least","found","rule","place","keys"] [.ref fl,.ref d]=[some (.ref fl),some (.ref d),none,none,none,none] from rfl];clear hu hu0 nd hr;push_cast [Nf,Mr];have sz:=sizeLine_eq;have hal:=hFs.1;have hm:=hT.mem;obtain ⟨kvs,hd,hks,nd,hv⟩:=id hT;have kl:kvs.length=ks.length:=by
  have:=congrArg ac8 hks;rw[aa0,aa0] at this;exact this
 have ats:∀(i:Nat) (k:List Key) (v:V),kvs[i]?=some (k,v)→∃k',ks[i]?=some k'∧k=kyK k':=λi k v hi=>by
  have e:=congrArg (λl=>l[i]?) hks;simp only[aa8,hi,acw] at e;obtain ⟨k',h1,h2⟩:=Option.map_eq_some_iff.mp e.symm;exact ⟨k',h1,h2.symm⟩
 refine ⟨d,kvs,hd,kvs,hd,λo D hDn=>Ng (λi ys H1=>∃cs ls:List Addr,ys=cs.map V.ref∧Cz H H1 D ks i cs ls) (λi ys H1 H2 s h=>by obtain ⟨cs,ls,h1,h2⟩:=h;exact ⟨cs,ls,h1,h2.mono s⟩) ae (by omega) hDn ⟨[],[],rfl,rfl,rfl,acj,λj k h=>absurd h (ac2 _)⟩ (λi t k v ys H1 G' K' hi ht hP hys hl2 hS hG hK=>?_) λys H2 hP hl2 hS hD2=>?_⟩
 ·obtain ⟨k',hk',rfl⟩:=ats i k v hi;obtain ⟨cs,ls,rfl,hP⟩:=hP;have ht:H1 t=some (kyT k'):=ht;push_cast [and_true];refine ⟨aa7 _,λl hl=>⟨by show (2:Nat)≤sizeLine;decide,λc hc=>?_⟩⟩;have s2:=(aa hl (.lst [])).trans (aa hc (.tup [V.ref t,V.ref l]));have fl1:upd H d (.frz o (.dT kvs)) l=none:=hS.free hl;have nld:l≠d:=λz=>by rw[z,ae] at fl1;cases fl1
  have fc1:=(aa hl (.lst [])).free hc;refine hK _ _ s2 ⟨cs++[c],ls++[l],by rw[aa5];rfl,Cz.snoc (by rw[←kl];exact (List.getElem?_eq_some_iff.mp hi).1) hP hk' s2 hl (by rw[af nld] at fl1;exact fl1) (ah hys fc1).symm (eh ht hys (by intro z;cases z)) (ah hys hl).symm ae (s2 _ _ ht) (aa hc _ _ _ ae)⟩
 ·obtain ⟨cs,ls,rfl,hP⟩:=hP;rw[kl] at hP;have S3:=Ej hd hS;have fz:H2 d=some (.frz o (.dT kvs)):=hS _ _ ae;have nD:D≠d:=eh hD2 fz (by intro z;cases z);have kp:∀(b:Addr) (u:HO),(∀o' x,u≠.frz o' x)→H2 b=some u→upd H2 d (.dT kvs) b=some u:=λb u hu e=>by rw[af (eh e fz (hu _ _))];exact e
  have ll:=hP.2.1;refine ⟨⟨o,fz⟩,rfl,cs.map V.ref,by rw[af nD];exact hD2,(ks.zip ls).map λp=>(kyK p.1,V.ref p.2),by rw[aa0,aa0,adk,hP.1,ll,Nat.min_self],λi p hi=>?_,λfd hfd=>?_⟩
  ·rw[aa8] at hi;obtain ⟨⟨k,l⟩,hi2,rfl⟩:=Option.map_eq_some_iff.mp hi;obtain ⟨e1,e2⟩:=List.getElem?_zip_eq_some.mp hi2;obtain ⟨c,l',t,h1,h2,_,_,_,_,h7,h8,_⟩:=hP.2.2.2 i k (List.getElem?_eq_some_iff.mp e1).1 e1;obtain rfl:l'=l:=aa3 (h2.symm.trans e2);exact ⟨c,by rw[aa8,h1];rfl,t,kp _ _ (by intro _ _ z;cases z) h7,kp _ _ (by intro _ _ z;cases z) h8⟩
  ·rw[x9 _ [] (by rw[adh,vy ll];exact i6 (λa b e=>il e) nd),adh];have S4:=S3.trans (aa hfd (.dT ((ks.zip ls).map λp=>(kyK p.1,V.ref p.2))));have hfd0:=S3.free hfd;have R4:RcAt (upd (upd H2 d (.dT kvs)) fd (.dT ((ks.zip ls).map λp=>(kyK p.1,V.ref p.2)))) fd ks ls (ee (fs.take 0) g):=⟨ae,ll,λj k l h1 h2=>by
    obtain ⟨c,l',t,g1,g2,_,_,_,_,g7,g8,g9⟩:=hP.2.2.2 j k (List.getElem?_eq_some_iff.mp h1).1 h1;obtain rfl:l'=l:=aa3 (g2.symm.trans h2);have g9:=kp _ _ (by intro _ _ z;cases z) g9;rw[af (ah g9 hfd)];exact g9⟩
   have lf:∀l∈ls,H l=none:=λl hl=>by
    obtain ⟨j,hj⟩:=List.mem_iff_getElem?.mp hl;have hjl:j < ks.length:=by rw[←ll];exact (List.getElem?_eq_some_iff.mp hj).1
    obtain ⟨_,l',_,_,g2,_,_,_,g6,_⟩:=hP.2.2.2 j _ hjl (aa1 hjl);obtain rfl:l'=l:=aa3 (g2.symm.trans hj);exact g6
   have nl:=hP.2.2.1;generalize upd (upd H2 d (.dT kvs)) fd (.dT ((ks.zip ls).map λp=>(kyK p.1,V.ref p.2)))=H4 at S4 R4 ⊢;obtain ⟨P1,eP1⟩:∃P1:Nat→L2.St→Hp→Prop,∀i σ H',P1 i σ H'↔∃v3 v4 v5:Option V,σ=[some (.ref fl),some (.ref d),some (.ref fd),v3,v4,v5]∧ak H H'∧RcAt H' fd ks ls (ee (fs.take i) g):=⟨_,λ_ _ _=>abg⟩;refine ⟨⟨_,SqL.of (S4 _ _ hF)⟩,dz (xs:=as.map V.ref) P1 ((eP1 _ _ _).mpr ⟨none,none,none,rfl,S4,R4⟩) (λi σ H' _ h=>by obtain ⟨_,_,_,_,s,_⟩:=(eP1 _ _ _).mp h;exact SqL.of (s _ _ hF)) ?_ ?_⟩
   ·intro i y σ H5 hy hh;refine ob3 ((eP1 _ _ _).mp hh) λv3 v4 v5 hh=>?_;have s5:=hh.2.1;have R5:=hh.2.2;obtain rfl:=hh.1;clear hh;rw[aa8] at hy;obtain ⟨a,ha,rfl⟩:=Option.map_eq_some_iff.mp hy;obtain ⟨f,hfi,ra,hl,_,h3,h4,h5⟩:=(hFs.same s5).get ha;have hfm:=aac hfi;have T5:=hT.same s5;refine Bi h3 rfl ?_;push_cast [L4];refine Fw h4 h5 T5.tb ?_;obtain ⟨sa,da,ds,r1,r2,r3⟩:=h4;have en:=Ce hfi g;refine ⟨Jh (s5 _ _ hd),au r1 rfl ⟨by show (2:Nat)≤sizeLine;decide,λp hp=>?_⟩⟩;have s6:=aa hp (.tup [V.int (f.place:Int),V.str f.r.kind]);have e6:upd H5 p (.tup [V.int (f.place:Int),V.str f.r.kind]) p=some (kyT (f.place,f.r.kind)):=ae;generalize upd H5 p (.tup [V.int (f.place:Int),V.str f.r.kind])=H6 at s6 e6 ⊢;have T6:=T5.same s6;have R6:=R5.same s6;refine ⟨_,T6.tb.get e6,?_⟩;have no:(∀k∈ks,¬((f.place,f.r.kind)=k∧cost g f.r.price f.hs=g k))→∀w3 w4 w5,P1 (i+1) [some (.ref fl),some (.ref d),some (.ref fd),w3,w4,w5] H6:=λh w3 w4 w5=>(eP1 _ _ _).mpr ⟨w3,w4,w5,rfl,s5.trans s6,R6.congr λk hk=>by rw[en k,if_neg (h k hk),aay]⟩;cases e:g (f.place,f.r.kind) with
    | none=>
     refine ⟨rfl,?_⟩;have nk:(f.place,f.r.kind)∉ks:=λz=>by have:=(hm _).mp z;rw[e] at this;cases this
     rw[if_neg (λz=>by
      cases e2:cost g f.r.price f.hs with
      | none=>rw[e2] at z;exact absurd (V.int.inj z) (by decide)
      | some c=>
       obtain ⟨v,hv',_⟩:=T.st (gz f) (List.mem_map.mpr ⟨f,hfm,rfl⟩) c e2;rw[show g (gz f).key=g (f.place,f.r.kind) from rfl,e] at hv';cases hv')]
     exact no (λk hk z=>nk (by rw[z.1];exact hk)) _ _ _
    | some v=>
     have vp:=T.pos _ v e;have hkin:=(hm (f.place,f.r.kind)).mpr (by rw[e];rfl);refine ⟨rfl,?_⟩;by_cases c:cost g f.r.price f.hs=some v
     ·rw[if_pos (by rw[c];rfl)];refine au (s6 _ _ r1) rfl ⟨by show (2:Nat)≤sizeLine;decide,λp2 hp2=>?_⟩;have s7:=aa hp2 (.tup [V.int (f.place:Int),V.str f.r.kind]);have e7:upd H6 p2 (.tup [V.int (f.place:Int),V.str f.r.kind]) p2=some (kyT (f.place,f.r.kind)):=ae;generalize upd H6 p2 (.tup [V.int (f.place:Int),V.str f.r.kind])=H7 at s7 e7 ⊢;have R7:=R6.same s7;obtain ⟨j,l,hj,hlj,hG,hL⟩:=R7.get nd e7 hkin;have nle:(ee (fs.take i) g (f.place,f.r.kind)).length≤fs.length:=by
       unfold ee;rw[aa0];exact aar (ab8 _ _) (by rw[ab0];omega)
      refine ⟨_,hG,az hL,au ((s6.trans s7) _ _ r1) rfl (bg (K:=K) hL (by rw[aa0];omega) ((eP1 _ _ _).mpr ⟨_,_,_,rfl,(s5.trans (s6.trans s7)).upd (lf l (aac hlj)) _,?_⟩)).2⟩;exact R7.put nd nl hj hlj (by rw[en _,if_pos ⟨rfl,by rw[c,e]⟩]) λk' hk' ne=>by rw[en k',if_neg λz=>ne z.1.symm,aay]
     ·rw[if_neg (λz=>by
       cases e2:cost g f.r.price f.hs with
       | none=>rw[e2] at z;have:(0:Int)=v:=V.int.inj z;omega
       | some c'=>rw[e2] at z;have:c'=v:=V.int.inj z;rw[e2,this] at c;exact c rfl)]
      exact no (λk hk z=>by rw[←z.1,e] at z;exact c z.2) _ _ _
   ·intro σ H5 hh;refine ob3 ((eP1 _ _ _).mp hh) λv3 v4 v5 hh=>?_;have s5:=hh.2.1;have R5:=hh.2.2;obtain rfl:=hh.1;clear hh;push_cast [and_true];rw[aa0,hal,abm] at R5;exact q fd ls H5 s5 hfd0 R5
noncomputable abbrev J5:Stmt:=top 37
theorem Ha:ax ["found","due"] ["found","due"] (ag J5):=⟨rfl,rfl,rfl,by decide+kernel,rfl,by decide+kernel,by decide+kernel⟩
theorem Kq (G:Gs w K mg κ) (h_law_same:Has P w K mg base k "_law_same" ["found","due"] Gy) (D:Def K mg "_law_same" J5 ["found","due"]):Has P w K mg base (k+1) "_law_same" ["found","due"] t5:=by
 refine D.has Ha (λvs H Q E h=>?_) (λf cdv A outer s H vs Q E hr h=>?_)
 ·obtain ⟨_,rfl,_,_⟩:=h;rfl
 have nd:=Ha.nd;have hu:=bx hr;have hu0:=aae hu;obtain ⟨v,rfl,hv,q⟩:=h;have m_all:=G.m_all;have m_bool:=G.m_bool;have m_int:=G.m_int;have m_isinstance:=G.m_isinstance;have m_len:=G.m_len;have m_list:=G.m_list;have m_range:=G.m_range;have m_str:=G.m_str;have m_tuple:=G.m_tuple;refine ⟨_,(A4 (AD (B9 (AC (@gj _) m_isinstance ao (A1 (A9 1) (A1 (AI (A1 (AT m_tuple bw) (A1 (AT m_list pw) (A2 0)))) (A2 0))))) (A4 (AD (BB (C7 (AF (@Ff _) (AC (AZ 0) m_isinstance ao (A1 (A9 0) (A1 (AT m_tuple bw) (A2 0)))) (AC (AZ 0) m_isinstance ao (A1 (A9 1) (A1 (AT m_tuple bw) (A2 0)))) (AA 0)) (C8 (BY (B9 (AC (@gj _) m_isinstance ao (A1 (A9 0) (A1 (AI (A1 (AT m_tuple bw) (A1 (AT m_list pw) (A2 0)))) (A2 0))))))))) (A6 (AB (BD 0))) (AL 0)) (A6 (AB (BI (BJ (AM 0) (AC (AY 0) m_len cw (A1 (A9 0) (A2 0))) (AC (AY 0) m_len cw (A1 (A9 1) (A2 0))) (AA 0)) (BR (AC (@lz _ rfl) m_all b_all (A1 (BT (BN ["k"] ["found","due"] [0,1] (aal rfl (aal rfl trivial)) (aal (aal rfl (aal rfl rfl)) (aal (aal rfl (aal rfl rfl)) trivial))) (BU m_range (A1 (AC (AY 0) m_len cw (A1 (A9 1) (A2 0))) (A2 0))) (λ_ _ _=>(BA 0 (show abf (["k","found","due"]:List Str) by decide+kernel))) (λ_ _ _=>(@pif0 _)) (λ_ _ _=>(AE h_law_same hr (A1 (A8 (CI K) (A9 1) (A0 0)) (A1 (A8 (CI K) (A9 2) (A0 0)) (A2 0)))))) (A2 0)))))))) (AL 0)) (A4 (AD (B9 (AC (AZ 0) m_isinstance ao (A1 (A9 1) (A1 (AT m_str qz) (A2 0))))) (A6 (AB (BI (AC (AZ 0) m_isinstance ao (A1 (A9 0) (A1 (AT m_str qz) (A2 0)))) (BR (BJ (AM 0) (A9 0) (A9 1) (AA 0)))))) (AL 0)) (A4 (AD (B9 (AC (AZ 0) m_isinstance ao (A1 (A9 1) (A1 (AT m_bool qx) (A2 0))))) (A6 (AB (BI (AC (AZ 0) m_isinstance ao (A1 (A9 0) (A1 (AT m_bool qx) (A2 0)))) (BR (BJ (AM 0) (A9 0) (A9 1) (AA 0)))))) (AL 0)) (A6 (AB (BI (AC (AZ 0) m_isinstance ao (A1 (A9 0) (A1 (AT m_int pb) (A2 0)))) (BI (@Dr _ _ _ _ (AC (AZ 0) m_isinstance ao (A1 (A9 0) (A1 (AT m_bool qx) (A2 0))))) (BR (BJ (AM 0) (A9 0) (A9 1) (AA 0)))))))))),?_⟩;rw[show start ["found","due"] [v,v]=[some (v),some (v)] from rfl];clear hu hu0 nd hr;push_cast [t5];refine ⟨by show (2:Nat)≤sizeLine;decide,λp hp=>⟨_,_,ae,?_⟩⟩;have qq:=q _ (aa hp (.tup [V.ty "tuple",V.ty "list"]));obtain ⟨k',rfl⟩:=hv;cases k' with
 | inl i=>
  refine ⟨_,.int i,false,rfl,qf ⟨_,.int i,false,rfl,qf ⟨_,.int i,false,rfl,qf ⟨_,.int i,true,rfl,sg ⟨_,.int i,false,rfl,sg ⟨rfl,?_⟩⟩⟩⟩⟩⟩;exact qq
 | inr z=>
  refine ⟨_,.str z,false,rfl,qf ⟨_,.str z,true,rfl,sg ⟨_,.str z,true,rfl,sg ⟨rfl,?_⟩⟩⟩⟩;exact qq
noncomputable abbrev xj:Stmt:=top 37
theorem sr:ax ["found","due"] ["found","due"] (ag xj):=⟨rfl,rfl,rfl,by decide+kernel,rfl,by decide+kernel,by decide+kernel⟩
theorem J1 (G:Gs w K mg κ) (h_law_same:Has P w K mg base k "_law_same" ["found","due"] t5) (D:Def K mg "_law_same" xj ["found","due"]):Has P w K mg base (k+1) "_law_same" ["found","due"] gw:=by
 refine D.has sr (λvs H Q E h=>?_) (λf cdv A outer s H vs Q E hr h=>?_)
 ·obtain ⟨_,_,_,rfl,_,_,_,_,_⟩:=h;rfl
 have nd:=sr.nd;have hu:=bx hr;have hu0:=aae hu;obtain ⟨f1,d,xs,rfl,hF,hD,hx,hl,q⟩:=h;have m_all:=G.m_all;have m_bool:=G.m_bool;have m_int:=G.m_int;have m_isinstance:=G.m_isinstance;have m_len:=G.m_len;have m_list:=G.m_list;have m_range:=G.m_range;have m_str:=G.m_str;have m_tuple:=G.m_tuple;refine ⟨_,(A4 (AD (B9 (AC (@gj _) m_isinstance ao (A1 (A9 1) (A1 (AI (A1 (AT m_tuple bw) (A1 (AT m_list pw) (A2 0)))) (A2 0))))) (A4 (AD (BB (C7 (AF (@Ff _) (AC (AZ 0) m_isinstance ao (A1 (A9 0) (A1 (AT m_tuple bw) (A2 0)))) (AC (AZ 0) m_isinstance ao (A1 (A9 1) (A1 (AT m_tuple bw) (A2 0)))) (AA 0)) (C8 (BY (B9 (AC (@gj _) m_isinstance ao (A1 (A9 0) (A1 (AI (A1 (AT m_tuple bw) (A1 (AT m_list pw) (A2 0)))) (A2 0))))))))) (A6 (AB (BD 0))) (AL 0)) (A6 (AB (BI (BJ (AM 0) (AC (AY 0) m_len cw (A1 (A9 0) (A2 0))) (AC (AY 0) m_len cw (A1 (A9 1) (A2 0))) (AA 0)) (BR (AC (@lz _ rfl) m_all b_all (A1 (BT (BN ["k"] ["found","due"] [0,1] (aal rfl (aal rfl trivial)) (aal (aal rfl (aal rfl rfl)) (aal (aal rfl (aal rfl rfl)) trivial))) (BU m_range (A1 (AC (AY 0) m_len cw (A1 (A9 1) (A2 0))) (A2 0))) (λ_ _ _=>(BA 0 (show abf (["k","found","due"]:List Str) by decide+kernel))) (λ_ _ _=>(@pif0 _)) (λ_ _ _=>(AE h_law_same hr (A1 (A8 (CI K) (A9 1) (A0 0)) (A1 (A8 (CI K) (A9 2) (A0 0)) (A2 0)))))) (A2 0)))))))) (AL 0)) (A4 (AD (B9 (AC (AZ 0) m_isinstance ao (A1 (A9 1) (A1 (AT m_str qz) (A2 0))))) (A6 (AB (BI (AC (AZ 0) m_isinstance ao (A1 (A9 0) (A1 (AT m_str qz) (A2 0)))) (BR (BJ (AM 0) (A9 0) (A9 1) (AA 0)))))) (AL 0)) (A4 (AD (B9 (AC (AZ 0) m_isinstance ao (A1 (A9 1) (A1 (AT m_bool qx) (A2 0))))) (A6 (AB (BI (AC (AZ 0) m_isinstance ao (A1 (A9 0) (A1 (AT m_bool qx) (A2 0)))) (BR (BJ (AM 0) (A9 0) (A9 1) (AA 0)))))) (AL 0)) (A6 (AB (BI (AC (AZ 0) m_isinstance ao (A1 (A9 0) (A1 (AT m_int pb) (A2 0)))) (BI (@Dr _ _ _ _ (AC (AZ 0) m_isinstance ao (A1 (A9 0) (A1 (AT m_bool qx) (A2 0))))) (BR (BJ (AM 0) (A9 0) (A9 1) (AA 0)))))))))),?_⟩;rw[show start ["found","due"] [.ref f1,.ref d]=[some (.ref f1),some (.ref d)] from rfl];clear hu hu0 nd hr;push_cast [gw];have sz:=sizeLine_eq;refine ⟨by show (2:Nat)≤sizeLine;decide,λp hp=>⟨_,_,ae,?_⟩⟩;have s1:=aa hp (.tup [V.ty "tuple",V.ty "list"]);refine ⟨_,.tup (s1 _ _ hD),true,rfl,sg ⟨_,.tup (s1 _ _ hF),true,rfl,_,.tup (s1 _ _ hD),true,rfl,rfl,qf ⟨by show (2:Nat)≤sizeLine;decide,λp1 hp1=>⟨_,_,ae,?_⟩⟩⟩⟩;have s2:=s1.trans (aa hp1 (.tup [V.ty "tuple",V.ty "list"]));generalize upd (upd H p (.tup [V.ty "tuple",V.ty "list"])) p1 (.tup [V.ty "tuple",V.ty "list"])=H2 at s2 ⊢;refine ⟨_,.tup (s2 _ _ hF),true,rfl,qf ⟨xs,.inr (SqT.of (s2 _ _ hF)),xs,.inr (SqT.of (s2 _ _ hD)),rfl,?_⟩⟩;rw[if_pos rfl];refine ⟨xs,.inr (SqT.of (s2 _ _ hD)),by omega,by omega,λL hL=>?_⟩;refine Cr (λj ys=>ys=aaj j (V.bl true)) (by omega) hL rfl (λj ys H1 G' K' hj hP hl2 hS hG hK=>?_) λys H3 hP hl2 hS hL2=>?_
 ·push_cast [t5];have hj':j < xs.length:=by omega
  have hat:atI xs (0+(j:Int))=some xs[j]:=by
   rw[show (0+(j:Int))=((j:Nat):Int) by omega];exact bb (aa1 hj')
  exact au (hS _ _ (s2 _ _ hF)) hat (au (hS _ _ (s2 _ _ hD)) hat ⟨rfl,hx _ (ab3 hj'),λH' s'=>hK _ _ s' (by rw[hP,←aee])⟩)
 ·refine ⟨aaj ((xs.length:Nat):Int).toNat true,SqL.of (by rw[hL2,hP,List.map_replicate]),?_⟩;rw[show (aaj ((xs.length:Nat):Int).toNat true).all id=true by simp];exact q _ (s2.trans hS)
noncomputable abbrev yt:Stmt:=xj
theorem scSame:ax ["found","due"] ["found","due"] (ag yt):=sr
theorem Nc (D:Def K mg "_law_same" xj ["found","due"]):Has P w K mg base (k+1) "_law_same" ["found","due"] Gy:=D.has sr (λvs H Q E h=>h.elim) (λf cdv A outer s H vs Q E hr h=>h.elim)
theorem Ql (G:Gs w K mg κ) (D:Def K mg "_law_same" xj ["found","due"]):Has P w K mg base (k+3) "_law_same" ["found","due"] gw:=J1 (k:=k+2) G (Kq (k:=k+1) G (Nc D) D) D
noncomputable abbrev uz:Stmt:=top 50
theorem Ms:ax ["book","words","kind","reaching","ends","due","found","key","rule","under"] ["book","words","kind","reaching"] (ag uz):=⟨rfl,rfl,rfl,by decide+kernel,rfl,by decide+kernel,by decide+kernel⟩
theorem Pm (G:Gs w K mg κ) (h_law_ends:Has P w K mg base k "_law_ends" ["words"] (uo K)) (h_law_holes:Has P w K mg base k "_law_holes" ["kinds","shape"] (j8 K)) (h_law_laid:Has P w K mg base k "_law_laid" ["kinds","shape","words","ends","place"] (o7 K)) (D:Def K mg "_law_due" uz ["book","words","kind","reaching"]):Has P w K mg base (k+1) "_law_due" ["book","words","kind","reaching"] Ao:=by
 refine D.has Ms (λvs H Q E h=>?_) (λf cdv A outer s H vs Q E hr h=>?_)
 ·obtain ⟨_,_,_,_,_,_,_,_,_,_,rfl,_,_,_,_,_,_,_,_,_,_⟩:=h;rfl
 have nd:=Ms.nd;have hu:=bx hr;have hu0:=aae hu;obtain ⟨b,wt,rd,kd,kinds,rs,ws,ks,ls,g,rfl,hB,hW,bk,tw,hR,nd0,hm,T,q0,q⟩:=h;have m_list:=G.m_list;have m_reversed:=G.m_reversed;have m_tuple:=G.m_tuple;have m_zip:=G.m_zip;refine ⟨_,(A4 (AD (BK (C4 hu (AI (A1 (A3 0) (A1 (A0 2) (A2 0)))) (A0 3)) (by first | exact cn _ (by decide) (by decide) | rfl)) (A6 (AB (@vq _ _ _))) (AL 0)) (A4 (A7 4 nd (AE h_law_ends hr (A1 (A0 1) (A2 0)))) (A4 (A7 5 nd (AG (A1 (AI (A1 (A3 0) (A1 (A0 2) (A2 0)))) (A2 0)))) (A4 (CF 6 nd (AG (A2 0))) (A4 (C0 (AF (@Nj _ hu0) (A0 5) (AG (A2 0)) (AA 0)) (A4 (A7 7 nd (CC PySem.F.plainAttrs_list PySem.F.slot_list_pop PySem.F.type_list_pop (@qt _) (A0 5))) (A4 (AQ (AS PySem.F.plainAttrs_list PySem.F.slot_list_append PySem.F.type_list_append (AX 0) (A9 6) (A1 (A8 (AU 0) (BE hu (A0 3) (A0 7)) (A3 0)) (A2 0)))) (A4 (A7 8 nd (A8 (AU 0) (BT (BN ["one"] ["found"] [6] (aal rfl trivial) (aal (aal rfl (aal rfl rfl)) trivial)) (BS (A8 (AH 0) (A0 0) (A3 0))) (λ_ _ _=>(BA 0 (show abf (["one","found"]:List Str) by decide+kernel))) (λ_ _ _=>(BZ (AF (AM 0) (A8 (CI K) (A0 0) (A3 0)) (A8 (@o8 _ K rfl) (A9 1) (C9 (@kq _) (A3 0))) (AA 0)))) (λ_ _ _=>(A0 0))) (A3 0))) (A4 (A7 9 nd (AE h_law_laid hr (A1 (A8 (AH 0) (A0 0) (A3 0)) (A1 (A8 (AH 0) (A0 8) (A3 0)) (A1 (A0 1) (A1 (A0 4) (A1 (A8 (AH 0) (A0 7) (A3 0)) (A2 0)))))))) (A6 (AQ (AS PySem.F.plainAttrs_list PySem.F.slot_list_extend PySem.F.type_list_extend (@lj _) (A0 5) (A1 (@vn _ _ _ _ _ _ _ rfl rfl m_list rfl m_reversed (A1 (CM m_list m_zip (A1 (A8 (AH 0) (A0 9) (A3 0)) (A1 (AE h_law_holes hr (A1 (A8 (AH 0) (A0 0) (A3 0)) (A1 (A8 (AH 0) (A0 8) (A3 0)) (A2 0)))) (A2 0)))) (A2 0)) rfl rfl) (A2 0)))))))))) (A6 (AB (B6 (BC 0) m_tuple bw (A1 (A9 6) (A2 0)))))))))),?_⟩;rw[show start ["book","words","kind","reaching","ends","due","found","key","rule","under"] [.ref b,.ref wt,.str kd,.ref rd]=[some (.ref b),some (.ref wt),some (.str kd),some (.ref rd),none,none,none,none,none,none] from rfl];clear hu hu0 nd hr;push_cast [and_true];have sz:=sizeLine_eq;have rl:=bk.len;refine ⟨by show (2:Nat)≤sizeLine;decide,λp0 hp0=>?_⟩;have q1:=aa hp0 (.tup [V.int 0,V.str kd]);have k1:upd H p0 (.tup [V.int 0,V.str kd]) p0=some (kyT (0,kd)):=ae;generalize upd H p0 (.tup [V.int 0,V.str kd])=H1 at q1 k1 ⊢;have R1:=hR.same q1;cases ek:g (0,kd) with
 | none=>exact ⟨none,R1.miss k1 (λz=>by have:=(hm _).mp z;rw[ek] at this;cases this),sg (q0 ek H1 q1)⟩
 | some v=>
  obtain ⟨_,_,_,_,hG,_⟩:=R1.get nd0 k1 ((hm _).mpr (by rw[ek];rfl));refine ⟨_,hG,qf (Kf (SqT.of (q1 _ _ hW)) (λv hv=>(tw.w v hv).1) tw.one tw.len λet H2 s2 het e2=>⟨by show (2:Nat)≤sizeLine;decide,λp2 hp2=>⟨by show (1:Nat)≤sizeLine;decide,λdl hdl=>⟨aa7 _,λfl hfl=>?_⟩⟩⟩)⟩;have s12:=q1.trans s2;have s4:=aa hp2 (.tup [V.int 0,V.str kd]);have s5:=aa hdl (.lst [V.ref p2]);have s5':=aa hfl (.lst []);have S5:=s12.trans (s4.trans (s5.trans s5'));have fdl:=(s12.trans s4).free hdl;have ffl:=(s12.trans (s4.trans s5)).free hfl;have ned:et≠dl:=ah (s4 _ _ e2) hdl;have nef:et≠fl:=ah ((s4.trans s5) _ _ e2) hfl;have ndf:dl≠fl:=ah (ae (H:=upd H2 p2 (.tup [V.int 0,V.str kd])) (a:=dl) (o:=.lst [V.ref p2])) hfl;have e5:=(s4.trans (s5.trans s5')) _ _ e2;have p5:=(s5.trans s5') _ _ (ae (H:=H2) (a:=p2) (o:=.tup [V.int 0,V.str kd]));have d5:=s5' _ _ (ae (H:=upd H2 p2 (.tup [V.int 0,V.str kd])) (a:=dl) (o:=.lst [V.ref p2]));have f5:upd (upd (upd H2 p2 (.tup [V.int 0,V.str kd])) dl (.lst [V.ref p2])) fl (.lst []) fl=some (.lst []):=ae;generalize upd (upd (upd H2 p2 (.tup [V.int 0,V.str kd])) dl (.lst [V.ref p2])) fl (.lst [])=H5 at s5' S5 e5 p5 d5 f5 ⊢;have wp:=tw.pos;obtain ⟨P1,eP1⟩:∃P1:L2.St→Hp→Prop,∀σ H',P1 σ H'↔∃(bs:List Addr) (done:List Str) (st:List Ky) (v7 v8 v9:Option V),σ=[some (.ref b),some (.ref wt),some (.str kd),some (.ref rd),some (.ref et),some (.ref dl),some (.ref fl),v7,v8,v9]∧ak H H'∧H' et=some (.lst ((aav ws.length).map λq=>plV (endAt ws q)))∧H' dl=some (.lst (bs.map V.ref))∧H' fl=some (.lst (done.map V.str))∧KsL H' bs st.reverse∧Prd g st∧done.length+jl kinds ws g st≤61000∧done++cov kinds rs ws g st=cov kinds rs ws g [(0,kd)]:=⟨_,λ_ _=>abg⟩;refine gn P1 (λ_ H'=>61000 - ly H' fl) ((eP1 _ _).mpr ⟨[p2],[],[(0,kd)],none,none,none,rfl,S5,e5,d5,f5,KsL.one p5,λk hk=>?_,by have:=vi bk tw g kd wp;show 0+_≤_;omega,rfl⟩) ?_ λσ H Q Q' h c=>Jj h c
  ·rw[List.mem_singleton.mp hk];exact ⟨v,ek,T.pos _ _ ek⟩
  intro σ H6 hh;obtain ⟨bs,done,st,v7,v8,v9,rfl,s6,e6,d6,f6,K6,pr6,l6,cv6⟩:=(eP1 _ _).mp hh;have bl:=K6.1;rw[aas] at bl;push_cast [and_true];refine ⟨aa7 _,λp3 hp3=>Jq (aa hp3 _ _ _ d6) ae ?_⟩;have q3:=aa hp3 (.lst []);cases st with
  | nil=>
   have:bs=[]:=by simpa using bl
   subst this;refine qf ⟨_,.inl ⟨SqL.of (q3 _ _ f6),λt ht=>?_⟩⟩;rw[Fg,aay] at cv6;refine q v t _ ek (s6.trans (q3.trans (aa ht (.tup (done.map V.str))))) ?_;rw[ae,cv6]
  | cons k st=>
   obtain ⟨bs',a2,rfl,K6',hk⟩:=K6.pop;obtain ⟨vk,hvk,_⟩:=pr6 k aa9;obtain ⟨i,r,u,h1,h2,h3,h4,h5,h6,h7,h8⟩:=tf bk T hvk;obtain ⟨pr',_⟩:=pr6.step bk T;have ph:=qe bk tw T pr6;have lp:=wd kinds ws g (xq kinds rs ws (pick kinds rs ws g k) k.1++st);rw[De bk T pr6] at cv6;have d7:=q3 _ _ d6;rw[aa5] at d7;rw[show (!((bs'++[a2]).map V.ref).isEmpty)=true by simp];refine sg (qg (xs:=bs'.map V.ref) (y:=.ref a2) d7 ?_);generalize upd H6 p3 (.lst [])=H7 at q3 d7 ⊢;have sA:=(s6.trans q3).upd fdl (.lst (bs'.map V.ref));have tkA:TK H6 (upd H7 dl (.lst (bs'.map V.ref))):=(TK.of q3).trans (TK.put d7 (λ_ z=>nomatch z));have eA:upd H7 dl (.lst (bs'.map V.ref)) et=some (.lst ((aav ws.length).map λq=>plV (endAt ws q))):=by rw[af ned];exact q3 _ _ e6
   have dA:upd H7 dl (.lst (bs'.map V.ref)) dl=some (.lst (bs'.map V.ref)):=ae;have fA:upd H7 dl (.lst (bs'.map V.ref)) fl=some (.lst (done.map V.str)):=by rw[af ndf.symm];exact q3 _ _ f6
   have hkA:upd H7 dl (.lst (bs'.map V.ref)) a2=some (kyT k):=tkA _ _ hk;have KA:=K6'.tk tkA;generalize upd H7 dl (.lst (bs'.map V.ref))=HA at sA tkA eA dA fA hkA KA ⊢;obtain ⟨_,lx,_,_,gA,nA⟩:=(hR.same sA).get nd0 hkA ((hm _).mpr (by rw[hvk];rfl));push_cast [and_true];refine ⟨az fA,_,gA,aw (v:=.str (pick kinds rs ws g k)) nA (bb (j:=0) (by rw[aa8,Hh bk T hvk];rfl)) ?_⟩;have sB:=sA.upd ffl (.lst (done.map V.str++[V.str (pick kinds rs ws g k)]));have tkB:TK HA (upd HA fl (.lst (done.map V.str++[V.str (pick kinds rs ws g k)]))):=TK.put fA (λ_ z=>nomatch z);have dB:upd HA fl (.lst (done.map V.str++[V.str (pick kinds rs ws g k)])) dl=some (.lst (bs'.map V.ref)):=by rw[af ndf];exact dA
   have eB:upd HA fl (.lst (done.map V.str++[V.str (pick kinds rs ws g k)])) et=some (.lst ((aav ws.length).map λq=>plV (endAt ws q))):=by rw[af nef];exact eA
   have fB:upd HA fl (.lst (done.map V.str++[V.str (pick kinds rs ws g k)])) fl=some (.lst (done.map V.str++[V.str (pick kinds rs ws g k)])):=ae;have hkB:upd HA fl (.lst (done.map V.str++[V.str (pick kinds rs ws g k)])) a2=some (kyT k):=tkB _ _ hkA;have KB:=KA.tk tkB;refine (bg (K:=K) fA (by rw[aa0];omega) ?_).2;generalize upd HA fl (.lst (done.map V.str++[V.str (pick kinds rs ws g k)]))=HB at sB tkB dB eB fB hkB KB ⊢;obtain ⟨kt,rt,ra,hb,hkt,hrt,hRA⟩:=id (hB.same sB);have ral:=hRA.1;push_cast [tLR,tLZ];obtain ⟨ar,har,sa,da,dd,g1,g2,g3⟩:=hRA.2 i r h1;refine au hb rfl ⟨rt,rfl,⟨_,SqT.of hrt⟩,λD hD=>Ar (xs:=ra.map V.ref) (λj ys=>ys=if i < j then [V.ref ar] else []) (SqT.of hrt) (by rw[aa0];omega) hD (by rw[if_neg (ac2 _)]) (λj x ys HC G' K' hx hP hl2 hS hG hK=>?_) λys HC hP hl2 hS hD2=>?_⟩
   ·rw[aa8] at hx;obtain ⟨aj,haj,rfl⟩:=Option.map_eq_some_iff.mp hx;have hjl:j < rs.length:=by rw[←ral];exact (List.getElem?_eq_some_iff.mp haj).1
    have hrj:rs[j]?=some rs[j]:=aa1 hjl;obtain ⟨a',ha',sa',da',dd',g1',_,_⟩:=hRA.2 j _ hrj;obtain rfl:a'=aj:=aa3 (ha'.symm.trans haj);generalize rs[j]=x at hrj g1';push_cast [and_true];refine au (hS _ _ g1') rfl (aw (v:=.str (pick kinds rs ws g k)) (hS _ _ fB) (Lp _ _) ⟨rfl,?_⟩);by_cases c:x.name=pick kinds rs ws g k
    ·obtain rfl:j=i:=bk.name hrj h1 (h2.trans c.symm);obtain rfl:ar=a':=aa3 (har.symm.trans haj);refine ifY (by rw[c]) (hK _ _ (ak.refl _) ?_);rw[hP,if_neg (abc _),if_pos (ae2 _)];rfl
    ·have ne:j≠i:=λz=>c (by subst z;rw[←h2,aa3 (hrj.symm.trans h1)]);refine ifN (by simpa using c) (hG _ (ak.refl _) ?_);rw[hP];by_cases z:i < j
     ·rw[if_pos z,if_pos (by omega)]
     ·rw[if_neg z,if_neg (by omega)]
   rw[aa0,if_pos (by rw[ral];exact (List.getElem?_eq_some_iff.mp h1).1)] at hP;subst hP;obtain ⟨w1,w2,w3⟩:=bk.sh r (aac h1);have sBC:=hS;refine aw hD2 (bb (j:=0) rfl) (au (hS _ _ hb) rfl (au (hS _ _ g1) rfl (au (hS _ _ hkB) rfl (G6 (SqT.of (hS _ _ g2)) (SqT.of (hS _ _ hkt)) (SqT.of (hS _ _ (sB _ _ hW))) (hS _ _ eB) bk.kd w1 w2 (by omega) tw h8 λHD sD=>?_))));rw[h4];intro t HE sE hu7 ok7;have sBE:=hS.trans (sD.trans sE);have dE:=sBE _ _ dB;have hl:u.hs.length=(aq kinds r.shape).length:=by
    have:=(ku bk.kd _ _ _ _ w1 h4).1;simpa using this
   obtain ⟨t1,t2,t3,u1,u2,_⟩:=id hu7;refine ⟨az dE,au u1 rfl (au (sBE _ _ hb) rfl (au (sBE _ _ g1) rfl (Bs (SqT.of (sBE _ _ hkt)) (SqT.of (sBE _ _ g2)) w1 (by omega) λl HF sF hlF h9=>?_)))⟩;refine ⟨t1,rfl,l,rfl,u.hs.map plV,SqT.of (sF _ _ u2),(aq kinds r.shape).map V.str,SqL.of h9,by rw[aa0,aa0];exact hl,λl2 cs HG sG hl2 hal hL hA=>⟨_,SqL.of hL,λp6 hp6=>?_⟩⟩;have sJ:=aa hp6 (.lst (cs.map V.ref).reverse);have pJ:upd HG p6 (.lst (cs.map V.ref).reverse) p6=some (.lst (cs.map V.ref).reverse):=ae;have KJ:=((KsL.zip hl hal hA).tk (TK.of sJ)).rev;generalize upd HG p6 (.lst (cs.map V.ref).reverse)=HJ at sJ pJ KJ ⊢;have sBJ:=sBE.trans (sF.trans (sG.trans sJ));have dJ:=sBJ _ _ dB;have tkJ:TK HJ (upd HJ dl (.lst (bs'.map V.ref++(cs.map V.ref).reverse))):=TK.put dJ (λ_ z=>nomatch z);have bl':=KA.1;have csl:=KJ.1;rw[aas] at bl';rw[aas,aas] at csl;rw[h5] at pr' ph lp cv6;rw[aa2] at lp;have fJ:upd HJ dl (.lst (bs'.map V.ref++(cs.map V.ref).reverse)) fl=some (.lst ((done++[pick kinds rs ws g k]).map V.str)):=by rw[af ndf.symm,aa5];exact sBJ _ _ fB
   have dl':(done++[pick kinds rs ws g k]).length=done.length+1:=by rw[aa2];rfl
   refine ⟨dl,p6,bs'.map V.ref,(cs.map V.ref).reverse,rfl,rfl,dJ,pJ,by rw[aas,aa0,aa0];omega,(eP1 _ _).mpr ⟨bs'++cs.reverse,done++[pick kinds rs ws g k],u.hs.zip (aq kinds r.shape)++st,_,_,_,rfl,(sB.trans sBJ).upd fdl _,by rw[af ned];exact sBJ _ _ eB,by rw[ae,aa5,af3],fJ,?_,pr',by omega,by rw[abi];exact cv6⟩,?_⟩
   ·rw[aem];exact ((KB.tk (TK.of sBJ)).app KJ).tk tkJ
   ·rw[gc fJ,gc f6,aa0,aa0];omega
noncomputable abbrev uf:Stmt:=top 51
theorem Le:ax ["book","words","kind","caught","e"] ["book","words","kind"] (ag uf):=⟨rfl,rfl,rfl,by decide+kernel,rfl,by decide+kernel,by decide+kernel⟩
theorem Qg (G:Gs w K mg κ) (h_cheapest:m7 P w K mg base k "cheapest" ["book","words","kind"] (jb κ)) (D:Def K mg "_law_refused" uf ["book","words","kind"]):Has P w K mg base (k+1) "_law_refused" ["book","words","kind"] zy:=by
 refine D.has Le (λvs H Q E h=>?_) (λf cdv A outer s H vs Q E hr h=>?_)
 ·obtain ⟨_,_,_,_,_,_,_,rfl,_,_,_,_,_,_,_,_,_,_⟩:=h;rfl
 have nd:=Le.nd;have hu:=bx hr;have hu0:=aae hu;obtain ⟨b,wt,kd,kinds,rs,ws,g,rfl,hB,hW,bk,tw,hkd,kz,rz,T,hg,q⟩:=h;have m_BadCover:=G.er.m_badCover;have m_BadDeed:=G.er.m_badDeed;have m_BadRow:=G.er.m_badRow;have m_BadShape:=G.er.m_badShape;have m_CoverError:=G.er.m_cov;have m_NoBox:=G.er.m_noBox;have m_NoCover:=G.er.m_noCover;have m_NoName:=G.er.m_noName;have m_NoTerm:=G.er.m_noTerm;have m_NoValue:=G.er.m_noValue;have m_Twice:=G.er.m_twice;have m_Unsound:=G.er.m_unsound;have m_ValueError:=G.m_ValueError;have m_isinstance:=G.m_isinstance;refine ⟨_,(A4 (A7 3 nd (@vq _ _ _)) (A4 (@ps_try _ _ _ 4 _ _ _ _ _ _ _ _ _ _ (aes _ (aes _ (aes _ (aal rfl (aal rfl rfl))))) nd rfl rfl rfl G.er.x_cov m_CoverError (@Ma _ _ _ _ _ _ _ _ _ _ _ h_cheapest hr (A1 (A0 0) (A1 (A0 1) (A1 (A0 2) (A2 0)))) rfl (by decide+kernel) rfl rfl rfl) (λ_=>(A6 (A7 3 nd (A0 4)))) rfl (by decide+kernel)) (A4 (AD (B9 (AC (@Af _) m_isinstance ao (A1 (A0 3) (A1 (AI (A1 (BH m_BadCover) (A1 (BH m_BadDeed) (A1 (BH m_BadRow) (A1 (BH m_BadShape) (A1 (BH m_NoBox) (A1 (BH m_NoName) (A1 (BH m_NoTerm) (A1 (BH m_NoValue) (A1 (BH m_Twice) (A1 (BH m_Unsound) (A2 0)))))))))))) (A2 0))))) (A6 (AB (BD 0))) (AL 0)) (A6 (AB (BI (AC (@zf _) m_isinstance ao (A1 (A0 3) (A1 (BH m_NoCover) (A2 0)))) (BR (AC (@Av _) m_isinstance ao (A1 (A0 3) (A1 (AT m_ValueError An) (A2 0))))))))))),?_⟩;rw[show start ["book","words","kind","caught","e"] [.ref b,.ref wt,.str kd]=[some (.ref b),some (.ref wt),some (.str kd),none,none] from rfl];clear hu hu0 nd hr;push_cast [and_true];have sz:=sizeLine_eq;have er:=G.er;push_cast [tTry,Ll,tIsN];refine Dc hB hW bk tw hkd kz rz (λt H' g' v s' ht T' hv hT=>?_) λH2 g' s2 T' hg'=>?_
 ·obtain rfl:g=g':=T.eq T' (Cd bk);rw[hg] at hv;cases hv
 refine ⟨κ.noCover,rfl,cbm κ,er.x_noCover,by rw[isC,decide_eq_true (rfl:κ.cov=κ.cov),acn],λe he=>⟨by show (10:Nat)≤sizeLine;decide,λp3 hp3=>?_⟩⟩;have s3:=aa he (XO e κ.noCover none false);have s4:=aa hp3 (.tup [V.ref κ.badCover,V.ref κ.badDeed,V.ref κ.badRow,V.ref κ.badShape,V.ref κ.noBox,V.ref κ.noName,V.ref κ.noTerm,V.ref κ.noValue,V.ref κ.twice,V.ref κ.unsound]);have he4:=s4 _ _ (ae (H:=H2) (a:=e) (o:=XO e κ.noCover none false));have hp4:upd (upd H2 e (XO e κ.noCover none false)) p3 (.tup [V.ref κ.badCover,V.ref κ.badDeed,V.ref κ.badRow,V.ref κ.badShape,V.ref κ.noBox,V.ref κ.noName,V.ref κ.noTerm,V.ref κ.noValue,V.ref κ.twice,V.ref κ.unsound]) p3=some (.tup [V.ref κ.badCover,V.ref κ.badDeed,V.ref κ.badRow,V.ref κ.badShape,V.ref κ.noBox,V.ref κ.noName,V.ref κ.noTerm,V.ref κ.noValue,V.ref κ.twice,V.ref κ.unsound]):=ae;generalize upd (upd H2 e (XO e κ.noCover none false)) p3 (.tup [V.ref κ.badCover,V.ref κ.badDeed,V.ref κ.badRow,V.ref κ.badShape,V.ref κ.noBox,V.ref κ.noName,V.ref κ.noTerm,V.ref κ.noValue,V.ref κ.twice,V.ref κ.unsound])=H4 at s4 he4 hp4 ⊢;have is4:XIs K H4 (.ref e) κ.noCover (cbm κ):=⟨er.x_noCover,e,none,false,rfl,he4,.inl rfl⟩;refine ⟨[κ.badCover,κ.badDeed,κ.badRow,κ.badShape,κ.noBox,κ.noName,κ.noTerm,κ.noValue,κ.twice,κ.unsound],hp4,λD hD=>?_,_,⟨_,_,is4,rfl⟩,?_⟩
 ·simp only[aaq,aah,or_false] at hD;rcases hD with rfl | rfl | rfl | rfl | rfl | rfl | rfl | rfl | rfl | rfl
  ·exact ⟨_,er.x_badCover⟩
  ·exact ⟨_,er.x_badDeed⟩
  ·exact ⟨_,er.x_badRow⟩
  ·exact ⟨_,er.x_badShape⟩
  ·exact ⟨_,er.x_noBox⟩
  ·exact ⟨_,er.x_noName⟩
  ·exact ⟨_,er.x_noTerm⟩
  ·exact ⟨_,er.x_noValue⟩
  ·exact ⟨_,er.x_twice⟩
  ·exact ⟨_,er.x_unsound⟩
 rw[anyC (λD hD=>?_)]
 ·refine qf ⟨κ.noCover,cbm κ,is4,⟨_,er.x_noCover⟩,?_⟩;rw[isC,decide_eq_true (rfl:κ.noCover=κ.noCover),Bool.true_or];refine sg ⟨κ.noCover,cbm κ,is4,by decide+kernel,?_⟩;rw[er.x_noCover.hv];exact q _ (s2.trans (s3.trans s4))
 ·simp only[aaq,aah,or_false] at hD;rcases hD with rfl | rfl | rfl | rfl | rfl | rfl | rfl | rfl | rfl | rfl
  ·exact ⟨er.ne 3 4 rfl rfl (by decide),er.ne 3 0 rfl rfl (by decide)⟩
  ·exact ⟨er.ne 10 4 rfl rfl (by decide),er.ne 10 0 rfl rfl (by decide)⟩
  ·exact ⟨er.ne 5 4 rfl rfl (by decide),er.ne 5 0 rfl rfl (by decide)⟩
  ·exact ⟨er.ne 9 4 rfl rfl (by decide),er.ne 9 0 rfl rfl (by decide)⟩
  ·exact ⟨er.ne 2 4 rfl rfl (by decide),er.ne 2 0 rfl rfl (by decide)⟩
  ·exact ⟨er.ne 8 4 rfl rfl (by decide),er.ne 8 0 rfl rfl (by decide)⟩
  ·exact ⟨er.ne 1 4 rfl rfl (by decide),er.ne 1 0 rfl rfl (by decide)⟩
  ·exact ⟨er.ne 6 4 rfl rfl (by decide),er.ne 6 0 rfl rfl (by decide)⟩
  ·exact ⟨er.ne 7 4 rfl rfl (by decide),er.ne 7 0 rfl rfl (by decide)⟩
  ·exact ⟨er.ne 11 4 rfl rfl (by decide),er.ne 11 0 rfl rfl (by decide)⟩
noncomputable abbrev zx:Stmt:=top 52
theorem scLaw:ax ["script","deck","cell","names","book","words","fits","reaching","kind","due"] ["script"] (ag zx):=⟨rfl,rfl,rfl,by decide+kernel,rfl,by decide+kernel,by decide+kernel⟩
theorem hasLaw {f:Addr} {fd:FuncData} (G:Gs w K mg κ) (h_law_book:Has P w K mg base k "_law_book" ["deck","names"] Ak) (h_law_due:Has P w K mg base k "_law_due" ["book","words","kind","reaching"] Ao) (h_law_fits:Has P w K mg base k "_law_fits" ["book","words"] uc) (h_law_least:Has P w K mg base k "_law_least" ["fits"] oo) (h_law_names:Has P w K mg base k "_law_names" ["deck"] ow) (h_law_next:Has P w K mg base k "_law_next" ["deck"] jg) (h_law_reaching:Has P w K mg base k "_law_reaching" ["fits","least"] oh) (h_law_refused:Has P w K mg base k "_law_refused" ["book","words","kind"] zy) (h_law_same:Has P w K mg base k "_law_same" ["found","due"] gw) (h_law_term:Has P w K mg base k "_law_term" ["deck","names","most"] t4) (h_cheapest:m7 P w K mg base k "cheapest" ["book","words","kind"] (jb κ)) (F:Fun K "law" "law" zx f fd):lu P w K mg base CX0 (k+1) f fd ["script"] (Gr K):=by
 refine F.ok scLaw (λvs H Q E h=>?_) (λcdv A outer s H vs Q E hr h=>?_)
 ·obtain ⟨_,_,rfl,_,_,_⟩:=h;rfl
 have nd:=scLaw.nd;have hu:=bx hr;have hu0:=aae hu;obtain ⟨a,ns,rfl,hA,hn,q⟩:=h;refine ⟨_,(A4 (A7 1 nd (AG (A1 (CG (@sx _) (A0 0) (@oa _) (CH (A3 0))) (A1 (A3 0) (A2 0))))) (A4 (A7 2 nd (AE h_law_next hr (A1 (A0 1) (A2 0)))) (A4 (A7 3 nd (AE h_law_names hr (A1 (A0 1) (A2 0)))) (A4 (A7 4 nd (AE h_law_book hr (A1 (A0 1) (A1 (A0 3) (A2 0))))) (A4 (A7 5 nd (AE h_law_term hr (A1 (A0 1) (A1 (A0 3) (A1 (A8 (AU 0) (AG (BF (BX (BX (BX (BG 0)))))) (A5 (AJ 0) (A0 2) (A3 0))) (A2 0)))))) (A4 (A7 6 nd (AE h_law_fits hr (A1 (A0 4) (A1 (A0 5) (A2 0))))) (A4 (A7 7 nd (AE h_law_reaching hr (A1 (A0 6) (A1 (AE h_law_least hr (A1 (A0 6) (A2 0))) (A2 0))))) (A4 (B0 (BS (A5 (@Gu _) (A8 (AH 0) (A0 4) (A3 0)) (AI (A1 (A8 (AU 0) (A0 3) (A3 0)) (A2 0))))) (AO 8 nd (by first | exact ab4 rfl | exact ab6 rfl)) (A4 (A7 9 nd (AE h_law_due hr (A1 (A0 4) (A1 (A0 5) (A1 (A0 8) (A1 (A0 7) (A2 0))))))) (A6 (AD (BK (@pc_isN _ _ _ _ _ (A0 9)) (by first | exact cn _ (by decide) (by decide) | rfl)) (A6 (AD (BY (B9 (AE h_law_refused hr (A1 (A0 4) (A1 (A0 5) (A1 (A0 8) (A2 0))))))) (A6 (AB (BD 0))) (AL 0))) (A6 (AD (BB (C7 (BY (B9 (AE h_law_same hr (A1 (@G1 _ _ _ _ _ _ _ _ _ _ h_cheapest hr (A1 (A0 4) (A1 (A0 5) (A1 (A0 8) (A2 0)))) rfl (by decide+kernel) rfl rfl) (A1 (A0 9) (A2 0)))))) (C8 (BY (B9 (AE h_law_same hr (A1 (@G1 _ _ _ _ _ _ _ _ _ _ h_cheapest hr (A1 (A0 4) (A1 (A0 5) (A1 (A0 8) (A2 0)))) rfl (by decide+kernel) rfl rfl) (A1 (A0 9) (A2 0))))))))) (A6 (AB (BD 0))) (AL 0))))))) (A6 (AB (BD 0))))))))))),?_⟩;rw[show start ["script","deck","cell","names","book","words","fits","reaching","kind","due"] [.ref a]=[some (.ref a),none,none,none,none,none,none,none,none,none] from rfl];clear hu hu0 nd hr;push_cast [jg,qb];have sz:=sizeLine_eq;obtain ⟨ms,em,hms⟩:=M6 ns none (some 200);refine ⟨ns.map V.int,hA,λp hp=>?_⟩;rw[em];refine ⟨by show (2:Nat)≤sizeLine;decide,λd hd=>⟨p,ms,0,⟨ae,aa hd _ _ _ ae⟩,by decide,λc H1 s1 d1=>?_⟩⟩;have D1:fm H1 d p ms 1:=fm.next ⟨ae,aa hd _ _ _ ae⟩ s1 d1
 refine My D1 (by omega) λnl H2 zs s2 d2 N2 tx=>?_;have D2:fm H2 d p ms 2:=D1.next s2 d2
 refine mkBook D2 N2 (by omega) λbt n3 H3 kinds rs s3 d3 hn3 B3 bk hrs hrn hkz=>?_;have D3:=D2.next s3 d3
 have N3:=N2.j6 D2 s3;refine ⟨by show (3:Nat)≤sizeLine;decide,λp4 hp4=>?_⟩;obtain ⟨m,hm1,hm2,hat⟩:∃m:Nat,1≤m∧m≤120∧atI [V.int 3,V.int 15,V.int 40] (c % 3)=some (.int (m:Int)):=by
  rcases (show c % 3=((0:Nat):Int)∨c % 3=((1:Nat):Int)∨c % 3=((2:Nat):Int) by omega) with e | e | e
  ·rw[e];exact ⟨3,by decide,by decide,bb rfl⟩
  ·rw[e];exact ⟨15,by decide,by decide,bb rfl⟩
  ·rw[e];exact ⟨40,by decide,by decide,bb rfl⟩
 have q4:=aa hp4 (.lst [V.int 3,V.int 15,V.int 40]);refine aw ae hat (Pz (D3.same q4) (N3.same q4) hm1 hm2 (by omega) λt n5 H5 ws s5 d5 hn5 ht h5 tw hwl=>?_);have B5:=(B3.same q4).keep (kr (D3.same q4) s5);have D5:=(D3.same q4).next s5 d5
 have N5:=(N3.same q4).j6 (D3.same q4) s5;clear hd hp4 q4 s1 s2 s3 s5 D1 D2 D3 N2 N3 d1 d2 d3;have twl:=tw.len;have kz:∀z∈kinds,gr z:=λz hz=>tx z (hkz z hz);have rz:∀r∈rs,gr r.name:=λr hr=>tx _ (hrn r hr);have zl:=N5.2.1;obtain ⟨z0,hz0⟩:∃z0,zs[53]?=some z0:=⟨_,aa1 (by omega)⟩;have tz0:=tx z0 (aac hz0);refine Nq B5 h5 bk tw λfl as H6 s6 hfl f6 F6=>?_;have fl6:(kj kinds rs ws).length≤100000:=aar (wq kinds rs ws bk.len ws.length) (by omega);have F6':=F6.weak (no':=λ_=>False) λ_ z=>z.elim;refine Jv f6 F6' (by omega) (lf_own bk) λld H7 g ks s7 hld T7 T hkl=>?_;have TT:Tbl (dw kinds rs ws) g:=T.of_mem (lf_mem kinds rs ws);refine Lu (s7 _ _ f6) (F6'.same s7) (by omega) T7 (by omega) T λrd lx H8 s8 hrd R8=>?_;have hm:=(T7.same s8).mem;have S8:=s6.trans (s7.trans s8);obtain ⟨_,_,_,nd,_⟩:=id T7;have B8:=B5.same S8;have w8:=S8 _ _ h5;have N8:=N5.same S8;have fin:∀{g':Ky→Option Int},Tbl (dw kinds rs ws) g'→g'=g:=λT'=>T'.eq TT (Cd bk);clear s6 s7 s8 f6 F6 F6' T7 hkl hfl hld hrd;have kl:=bk.kl;obtain ⟨kt,rt,ra,hb,hkt,hrt,hRA⟩:=id B8;refine au hb rfl (aw (v:=.str z0) N8.1 (bb (j:=53) (by rw[aa8,hz0];rfl)) ⟨by show (1:Nat)≤sizeLine;decide,λp6 hp6=>?_⟩);have s6:=aa hp6 (.tup [V.str z0]);refine Qy (xs:=kinds) (ys:=[z0]) (s6 _ _ hkt) ae (by show _+1≤_;omega) λk9 H9 s9 h9=>⟨k9,rfl,⟨_,SqT.of h9⟩,?_⟩;have S9:=s6.trans s9;obtain ⟨P1,eP1⟩:∃P1:Nat→L2.St→Hp→Prop,∀j σ H',P1 j σ H'↔∃v8 v9:Option V,σ=[some (.ref a),some (.ref d),some (.int c),some (.ref nl),some (.ref bt),some (.ref t),some (.ref fl),some (.ref rd),v8,v9]∧ak H9 H':=⟨_,λ_ _ _=>abg⟩;refine jf (xs:=(kinds++[z0]).map V.str) P1 ((eP1 _ _ _).mpr ⟨none,none,rfl,ak.refl _⟩) (λi σ H' _ h=>by obtain ⟨_,_,_,s⟩:=(eP1 _ _ _).mp h;exact SqT.of (s _ _ h9)) ?_ λσ H' _=>q H';intro i y σ HA hy hh;obtain ⟨v8,v9,rfl,sA⟩:=(eP1 _ _ _).mp hh;rw[aa8] at hy;obtain ⟨kd,hkd,rfl⟩:=Option.map_eq_some_iff.mp hy;have tkd:gr kd:=Nt kz (λz hz=>by rw[List.mem_singleton.mp hz];exact tz0) kd (aac hkd);have S:=S9.trans sA;push_cast [tIsN];refine mkLDue (B8.same S) (S _ _ w8) bk tw (R8.same S) nd hm TT (λhg HB sB=>ifY rfl (mkLRef ((B8.same S).same sB) (sB _ _ (S _ _ w8)) bk tw tkd kz rz TT hg λHC sC=>ifN (by decide) ((eP1 _ _ _).mpr ⟨_,_,rfl,(sA.trans sB).trans sC⟩))) λv t' HB hg sB hT=>ifN (by intro z;cases z) ?_;have cl:(cov kinds rs ws g [(0,kd)]).length≤61000:=aar (Gf bk tw TT _ _ λk hk=>by rw[List.mem_singleton.mp hk];exact ⟨v,hg,TT.pos _ _ hg⟩) (vi bk tw g kd tw.pos);have one:∀(HC:Hp) (Q':VK),ak HB HC→(∀HD,ak HB HD→Q' (.bl true) HD)→jb κ [.ref bt,.ref t,.str kd] HC (λx H1=>gw [x,.ref t'] H1 Q' E0) E0:=λHC Q' sC q'=>Dc (B8.same (S.trans (sB.trans sC))) ((S.trans (sB.trans sC)) _ _ w8) bk tw tkd kz rz (λt2 HD g' v' sD ht2 T' hv' hT2=>by
  obtain rfl:=fin T';exact M8 hT2 ((sC.trans sD) _ _ hT) (λx hx=>by obtain ⟨z,_,rfl⟩:=List.mem_map.mp hx;exact ⟨.inr z,rfl⟩) (by rw[aa0];omega) λHE sE=>q' HE (sC.trans (sD.trans sE))) λH' g' s' T' hg'=>by
  obtain rfl:=fin T';rw[hg] at hg';cases hg'
 refine one HB _ (ak.refl _) λHC sC=>ifN (by decide) (one HC _ sC λHD sD=>ifN (by decide) ((eP1 _ _ _).mpr ⟨_,_,rfl,(sA.trans sB).trans sD⟩))
end
end K52
namespace K52
open PySem PySem.Spec L2 PyProof.Rows Pc
theorem all_mk {l:PySem.W.OpenLaw} {w:World} {K:PySem.W.Frag} {h:Heap} {mg:Str→Option Value} {fa:Addr} (X:K.In h) (G:h.Ns mainGlobals mg) (hfa:mg "law"=some (.ref fa))
  {f0 f1 f2 f3 f4 f5 f6 f7 f8 f9 f10 f11 f12 f13 f14 f15 f16 f17 f18 f19 f20 f21 f22 f23 f24 f25 f26 f27 f28 f29 f30 f31 f32 f33 g0:Addr} {od0 an0 od1 an1 od2 an2 od3 an3 od4 an4 od5 an5 od6 an6 od7 an7 od8 an8 od9 an9 od10 an10 od11 an11 od12 an12 od13 an13 od14 an14 od15 an15 od16 an16 od17 an17 od18 an18 od19 an19 od20 an20 od21 an21 od22 an22 od23 an23 od24 an24 od25 an25 od26 an26 od27 an27 od28 an28 od29 an29 od30 an30 od31 an31 od32 an32 od33 an33:Option Addr} {sl0 sl1 sl2 sl3 sl4 sl5 sl6 sl7 sl8 sl9 sl10 sl11 sl12 sl13 sl14 sl15 sl16 sl17 sl18 sl19 sl20 sl21 sl22 sl23 sl24 sl25 sl26 sl27 sl28 sl29 sl30 sl31 sl32 sl33:Array (Option Value)} {oc0 kV0 dc0 pm0 cd0 ct0 oc1 kV1 dc1 pm1 cd1 ct1 oc2 kV2 dc2 pm2 cd2 ct2 oc3 kV3 dc3 pm3 cd3 ct3 oc4 kV4 dc4 pm4 cd4 ct4 oc5 kV5 dc5 pm5 cd5 ct5 oc6 kV6 dc6 pm6 cd6 ct6 oc7 kV7 dc7 pm7 cd7 ct7 oc8 kV8 dc8 pm8 cd8 ct8 oc9 kV9 dc9 pm9 cd9 ct9 oc10 kV10 dc10 pm10 cd10 ct10 oc11 kV11 dc11 pm11 cd11 ct11 oc12 kV12 dc12 pm12 cd12 ct12 oc13 kV13 dc13 pm13 cd13 ct13 oc14 kV14 dc14 pm14 cd14 ct14 oc15 kV15 dc15 pm15 cd15 ct15 oc16 kV16 dc16 pm16 cd16 ct16 oc17 kV17 dc17 pm17 cd17 ct17 oc18 kV18 dc18 pm18 cd18 ct18 oc19 kV19 dc19 pm19 cd19 ct19 oc20 kV20 dc20 pm20 cd20 ct20 oc21 kV21 dc21 pm21 cd21 ct21 oc22 kV22 dc22 pm22 cd22 ct22 oc23 kV23 dc23 pm23 cd23 ct23 oc24 kV24 dc24 pm24 cd24 ct24 oc25 kV25 dc25 pm25 cd25 ct25 oc26 kV26 dc26 pm26 cd26 ct26 oc27 kV27 dc27 pm27 cd27 ct27 oc28 kV28 dc28 pm28 cd28 ct28 oc29 kV29 dc29 pm29 cd29 ct29 oc30 kV30 dc30 pm30 cd30 ct30 oc31 kV31 dc31 pm31 cd31 ct31 oc32 kV32 dc32 pm32 cd32 ct32 oc33 kV33 dc33 pm33 cd33 ct33:Value} {dt0x0 dt0x1 dt0x2 dt0x3 du0x0 du0x1 du0x2 du0x3 dp0:Nat} {dh0x0 dh0x1 dh0x2 dh0x3:Int} {e0 e1 e2 e3 e4 e5 e6 e7 e8 e9 e10 e11 eN0 eN1 eN2 eN3 eN4 eN5 eN6 eN7 eN8 eN9 eN10 eN11:Addr} {enm0 enm1 enm2 enm3 enm4 enm5 enm6 enm7 enm8 enm9 enm10 enm11 eqn0 eqn1 eqn2 eqn3 eqn4 eqn5 eqn6 eqn7 eqn8 eqn9 eqn10 eqn11:Str} {ebs0 ebs1 ebs2 ebs3 ebs4 ebs5 ebs6 ebs7 ebs8 ebs9 ebs10 ebs11 esu0 esu1 esu2 esu3 esu4 esu5 esu6 esu7 esu8 esu9 esu10 esu11:List Value} {esn0 esn1 esn2 esn3 esn4 esn5 esn6 esn7 esn8 esn9 esn10 esn11:List Str} {eab0 eab1 eab2 eab3 eab4 eab5 eab6 eab7 eab8 eab9 eab10 eab11:Bool} {eco0 eco1 eco2 eco3 eco4 eco5 eco6 eco7 eco8 eco9 eco10 eco11:Option Bool} {edd0 edd1 edd2 edd3 edd4 edd5 edd6 edd7 edd8 edd9 edd10 edd11:Option Addr} {eka0 eka1 eka2 eka3 eka4 eka5 eka6 eka7 eka8 eka9 eka10 eka11 ekb0 ekb1 ekb2 ekb3 ekb4 ekb5 ekb6 ekb7 ekb8 ekb9 ekb10 ekb11 ekc0 ekc1 ekc2 ekc3 ekc4 ekc5 ekc6 ekc7 ekc8 ekc9 ekc10 ekc11 ekd0 ekd1 ekd2 ekd3 ekd4 ekd5 ekd6 ekd7 ekd8 ekd9 ekd10 ekd11 eke0 eke1 eke2 eke3 eke4 eke5 eke6 eke7 eke8 eke9 eke10 eke11:Option Value}
  (a0:PySem.W.nsIn K mainGlobals "how_many_below"=some (some (.ref f0)))
  (l0:K.lookup f0=some ⟨oc0,od0,.func (PySem.W.fnOf "how_many_below" "how_many_below" (ba Ee) (av Ee) (ag Ee) .none kV0 dc0 pm0 an0 cd0 ct0),sl0⟩)
  (c0:PySem.W.codeIn K cd0 "how_many_below"=true)
  (k0:PySem.W.keepIn K (.ref f0)=true)
  (a1:PySem.W.nsIn K mainGlobals "place_behind"=some (some (.ref f1)))
  (l1:K.lookup f1=some ⟨oc1,od1,.func (PySem.W.fnOf "place_behind" "place_behind" (ba jr) (av jr) (ag jr) .none kV1 dc1 pm1 an1 cd1 ct1),sl1⟩)
  (c1:PySem.W.codeIn K cd1 "place_behind"=true)
  (k1:PySem.W.keepIn K (.ref f1)=true)
  (a2:PySem.W.nsIn K mainGlobals "leaf_letter"=some (some (.ref f2)))
  (l2:K.lookup f2=some ⟨oc2,od2,.func (PySem.W.fnOf "leaf_letter" "leaf_letter" (ba va) (av va) (ag va) .none kV2 dc2 pm2 an2 cd2 ct2),sl2⟩)
  (c2:PySem.W.codeIn K cd2 "leaf_letter"=true)
  (k2:PySem.W.keepIn K (.ref f2)=true)
  (a3:PySem.W.nsIn K mainGlobals "lies_upon"=some (some (.ref f3)))
  (l3:K.lookup f3=some ⟨oc3,od3,.func (PySem.W.fnOf "lies_upon" "lies_upon" (ba xg) (av xg) (ag xg) .none kV3 dc3 pm3 an3 cd3 ct3),sl3⟩)
  (c3:PySem.W.codeIn K cd3 "lies_upon"=true)
  (k3:PySem.W.keepIn K (.ref f3)=true)
  (a4:PySem.W.nsIn K mainGlobals "laid"=some (some (.ref f4)))
  (l4:K.lookup f4=some ⟨oc4,od4,.func (PySem.W.fnOf "laid" "laid" (ba vc) (av vc) (ag vc) .none kV4 dc4 pm4 an4 cd4 ct4),sl4⟩)
  (c4:PySem.W.codeIn K cd4 "laid"=true)
  (k4:PySem.W.keepIn K (.ref f4)=true)
  (a5:PySem.W.nsIn K mainGlobals "holes_under"=some (some (.ref f5)))
  (l5:K.lookup f5=some ⟨oc5,od5,.func (PySem.W.fnOf "holes_under" "holes_under" (ba jj) (av jj) (ag jj) .none kV5 dc5 pm5 an5 cd5 ct5),sl5⟩)
  (c5:PySem.W.codeIn K cd5 "holes_under"=true)
  (k5:PySem.W.keepIn K (.ref f5)=true)
  (a6:PySem.W.nsIn K mainGlobals "fitting_rules"=some (some (.ref f6)))
  (l6:K.lookup f6=some ⟨oc6,od6,.func (PySem.W.fnOf "fitting_rules" "fitting_rules" (ba gq) (av gq) (ag gq) .none kV6 dc6 pm6 an6 cd6 ct6),sl6⟩)
  (c6:PySem.W.codeIn K cd6 "fitting_rules"=true)
  (k6:PySem.W.keepIn K (.ref f6)=true)
  (a7:PySem.W.nsIn K mainGlobals "price_there"=some (some (.ref f7)))
  (l7:K.lookup f7=some ⟨oc7,od7,.func (PySem.W.fnOf "price_there" "price_there" (ba m4) (av m4) (ag m4) .none kV7 dc7 pm7 an7 cd7 ct7),sl7⟩)
  (c7:PySem.W.codeIn K cd7 "price_there"=true)
  (k7:PySem.W.keepIn K (.ref f7)=true)
  (a8:PySem.W.nsIn K mainGlobals "settle_part"=some (some (.ref f8)))
  (l8:K.lookup f8=some ⟨oc8,od8,.func (PySem.W.fnOf "settle_part" "settle_part" (ba jx) (av jx) (ag jx) .none kV8 dc8 pm8 an8 cd8 ct8),sl8⟩)
  (c8:PySem.W.codeIn K cd8 "settle_part"=true)
  (k8:PySem.W.keepIn K (.ref f8)=true)
  (a9:PySem.W.nsIn K mainGlobals "rules_with_price"=some (some (.ref f9)))
  (l9:K.lookup f9=some ⟨oc9,od9,.func (PySem.W.fnOf "rules_with_price" "rules_with_price" (ba uk) (av uk) (ag uk) .none kV9 dc9 pm9 an9 cd9 ct9),sl9⟩)
  (c9:PySem.W.codeIn K cd9 "rules_with_price"=true)
  (k9:PySem.W.keepIn K (.ref f9)=true)
  (a10:PySem.W.nsIn K mainGlobals "rows_of_part"=some (some (.ref f10)))
  (l10:K.lookup f10=some ⟨oc10,od10,.func (PySem.W.fnOf "rows_of_part" "rows_of_part" (ba nu) (av nu) (ag nu) .none kV10 dc10 pm10 an10 cd10 ct10),sl10⟩)
  (c10:PySem.W.codeIn K cd10 "rows_of_part"=true)
  (k10:PySem.W.keepIn K (.ref f10)=true)
  (a11:PySem.W.nsIn K mainGlobals "rows_with_all_rules"=some (some (.ref f11)))
  (l11:K.lookup f11=some ⟨oc11,od11,.func (PySem.W.fnOf "rows_with_all_rules" "rows_with_all_rules" (ba m9) (av m9) (ag m9) .none kV11 dc11 pm11 an11 cd11 ct11),sl11⟩)
  (c11:PySem.W.codeIn K cd11 "rows_with_all_rules"=true)
  (k11:PySem.W.keepIn K (.ref f11)=true)
  (a12:PySem.W.nsIn K mainGlobals "prices"=some (some (.ref f12)))
  (l12:K.lookup f12=some ⟨oc12,od12,.func (PySem.W.fnOf "prices" "prices" (ba jh) (av jh) (ag jh) .none kV12 dc12 pm12 an12 cd12 ct12),sl12⟩)
  (c12:PySem.W.codeIn K cd12 "prices"=true)
  (k12:PySem.W.keepIn K (.ref f12)=true)
  (a13:PySem.W.nsIn K mainGlobals "laid_rule"=some (some (.ref f13)))
  (l13:K.lookup f13=some ⟨oc13,od13,.func (PySem.W.fnOf "laid_rule" "laid_rule" (ba mw) (av mw) (ag mw) .none kV13 dc13 pm13 an13 cd13 ct13),sl13⟩)
  (c13:PySem.W.codeIn K cd13 "laid_rule"=true)
  (k13:PySem.W.keepIn K (.ref f13)=true)
  (a14:PySem.W.nsIn K mainGlobals "last_hole_first"=some (some (.ref f14)))
  (l14:K.lookup f14=some ⟨oc14,od14,.func (PySem.W.fnOf "last_hole_first" "last_hole_first" (ba wm) (av wm) (ag wm) .none kV14 dc14 pm14 an14 cd14 ct14),sl14⟩)
  (c14:PySem.W.codeIn K cd14 "last_hole_first"=true)
  (k14:PySem.W.keepIn K (.ref f14)=true)
  (a15:PySem.W.nsIn K mainGlobals "rules_of_table"=some (some (.ref f15)))
  (l15:K.lookup f15=some ⟨oc15,od15,.func (PySem.W.fnOf "rules_of_table" "rules_of_table" (ba m8) (av m8) (ag m8) .none kV15 dc15 pm15 an15 cd15 ct15),sl15⟩)
  (c15:PySem.W.codeIn K cd15 "rules_of_table"=true)
  (k15:PySem.W.keepIn K (.ref f15)=true)
  (a16:PySem.W.nsIn K mainGlobals "cheapest"=some (some (.ref f16)))
  (l16:K.lookup f16=some ⟨oc16,od16,.func (PySem.W.fnOf "cheapest" "cheapest" (ba mz) (av mz) (ag mz) .none kV16 dc16 pm16 an16 cd16 ct16),sl16⟩)
  (c16:PySem.W.codeIn K cd16 "cheapest"=true)
  (k16:PySem.W.keepIn K (.ref f16)=true)
  (a17:PySem.W.nsIn K mainGlobals "_law_next"=some (some (.ref f17)))
  (l17:K.lookup f17=some ⟨oc17,od17,.func (PySem.W.fnOf "_law_next" "_law_next" (ba wa) (av wa) (ag wa) .none kV17 dc17 pm17 an17 cd17 ct17),sl17⟩)
  (c17:PySem.W.codeIn K cd17 "_law_next"=true)
  (k17:PySem.W.keepIn K (.ref f17)=true)
  (a18:PySem.W.nsIn K mainGlobals "_law_ends"=some (some (.ref f18)))
  (l18:K.lookup f18=some ⟨oc18,od18,.func (PySem.W.fnOf "_law_ends" "_law_ends" (ba wo) (av wo) (ag wo) .none kV18 dc18 pm18 an18 cd18 ct18),sl18⟩)
  (c18:PySem.W.codeIn K cd18 "_law_ends"=true)
  (k18:PySem.W.keepIn K (.ref f18)=true)
  (a19:PySem.W.nsIn K mainGlobals "_law_laid"=some (some (.ref f19)))
  (l19:K.lookup f19=some ⟨oc19,od19,.func (PySem.W.fnOf "_law_laid" "_law_laid" (ba mv) (av mv) (ag mv) .none kV19 dc19 pm19 an19 cd19 ct19),sl19⟩)
  (c19:PySem.W.codeIn K cd19 "_law_laid"=true)
  (k19:PySem.W.keepIn K (.ref f19)=true)
  (a20:PySem.W.nsIn K mainGlobals "_law_term"=some (some (.ref f20)))
  (l20:K.lookup f20=some ⟨oc20,od20,.func (PySem.W.fnOf "_law_term" "_law_term" (ba ux) (av ux) (ag ux) .none kV20 dc20 pm20 an20 cd20 ct20),sl20⟩)
  (c20:PySem.W.codeIn K cd20 "_law_term"=true)
  (k20:PySem.W.keepIn K (.ref f20)=true)
  (a21:PySem.W.nsIn K mainGlobals "_law_shape"=some (some (.ref f21)))
  (l21:K.lookup f21=some ⟨oc21,od21,.func (PySem.W.fnOf "_law_shape" "_law_shape" (ba nq) (av nq) (ag nq) .none kV21 dc21 pm21 an21 cd21 ct21),sl21⟩)
  (c21:PySem.W.codeIn K cd21 "_law_shape"=true)
  (k21:PySem.W.keepIn K (.ref f21)=true)
  (a22:PySem.W.nsIn K mainGlobals "_law_deeds"=some (some (.ref f22)))
  (l22:K.lookup f22=some ⟨oc22,od22,.func (PySem.W.fnOf "_law_deeds" "_law_deeds" (ba mq) (av mq) (ag mq) .none kV22 dc22 pm22 an22 cd22 ct22),sl22⟩)
  (c22:PySem.W.codeIn K cd22 "_law_deeds"=true)
  (k22:PySem.W.keepIn K (.ref f22)=true)
  (a23:PySem.W.nsIn K mainGlobals "_law_book"=some (some (.ref f23)))
  (l23:K.lookup f23=some ⟨oc23,od23,.func (PySem.W.fnOf "_law_book" "_law_book" (ba xm) (av xm) (ag xm) .none kV23 dc23 pm23 an23 cd23 ct23),sl23⟩)
  (c23:PySem.W.codeIn K cd23 "_law_book"=true)
  (k23:PySem.W.keepIn K (.ref f23)=true)
  (a24:PySem.W.nsIn K mainGlobals "_law_names"=some (some (.ref f24)))
  (l24:K.lookup f24=some ⟨oc24,od24,.func (PySem.W.fnOf "_law_names" "_law_names" (ba mx) (av mx) (ag mx) .none kV24 dc24 pm24 an24 cd24 ct24),sl24⟩)
  (c24:PySem.W.codeIn K cd24 "_law_names"=true)
  (k24:PySem.W.keepIn K (.ref f24)=true)
  (a25:PySem.W.nsIn K mainGlobals "_law_holes"=some (some (.ref f25)))
  (l25:K.lookup f25=some ⟨oc25,od25,.func (PySem.W.fnOf "_law_holes" "_law_holes" (ba jy) (av jy) (ag jy) .none kV25 dc25 pm25 an25 cd25 ct25),sl25⟩)
  (c25:PySem.W.codeIn K cd25 "_law_holes"=true)
  (k25:PySem.W.keepIn K (.ref f25)=true)
  (a26:PySem.W.nsIn K mainGlobals "_law_fits"=some (some (.ref f26)))
  (l26:K.lookup f26=some ⟨oc26,od26,.func (PySem.W.fnOf "_law_fits" "_law_fits" (ba ni) (av ni) (ag ni) .none kV26 dc26 pm26 an26 cd26 ct26),sl26⟩)
  (c26:PySem.W.codeIn K cd26 "_law_fits"=true)
  (k26:PySem.W.keepIn K (.ref f26)=true)
  (a27:PySem.W.nsIn K mainGlobals "_law_cost"=some (some (.ref f27)))
  (l27:K.lookup f27=some ⟨oc27,od27,.func (PySem.W.fnOf "_law_cost" "_law_cost" (ba nr) (av nr) (ag nr) .none kV27 dc27 pm27 an27 cd27 ct27),sl27⟩)
  (c27:PySem.W.codeIn K cd27 "_law_cost"=true)
  (k27:PySem.W.keepIn K (.ref f27)=true)
  (a28:PySem.W.nsIn K mainGlobals "_law_least"=some (some (.ref f28)))
  (l28:K.lookup f28=some ⟨oc28,od28,.func (PySem.W.fnOf "_law_least" "_law_least" (ba jn) (av jn) (ag jn) .none kV28 dc28 pm28 an28 cd28 ct28),sl28⟩)
  (c28:PySem.W.codeIn K cd28 "_law_least"=true)
  (k28:PySem.W.keepIn K (.ref f28)=true)
  (a29:PySem.W.nsIn K mainGlobals "_law_reaching"=some (some (.ref f29)))
  (l29:K.lookup f29=some ⟨oc29,od29,.func (PySem.W.fnOf "_law_reaching" "_law_reaching" (ba jq) (av jq) (ag jq) .none kV29 dc29 pm29 an29 cd29 ct29),sl29⟩)
  (c29:PySem.W.codeIn K cd29 "_law_reaching"=true)
  (k29:PySem.W.keepIn K (.ref f29)=true)
  (a30:PySem.W.nsIn K mainGlobals "_law_same"=some (some (.ref f30)))
  (l30:K.lookup f30=some ⟨oc30,od30,.func (PySem.W.fnOf "_law_same" "_law_same" (ba yt) (av yt) (ag yt) .none kV30 dc30 pm30 an30 cd30 ct30),sl30⟩)
  (c30:PySem.W.codeIn K cd30 "_law_same"=true)
  (k30:PySem.W.keepIn K (.ref f30)=true)
  (a31:PySem.W.nsIn K mainGlobals "_law_due"=some (some (.ref f31)))
  (l31:K.lookup f31=some ⟨oc31,od31,.func (PySem.W.fnOf "_law_due" "_law_due" (ba uz) (av uz) (ag uz) .none kV31 dc31 pm31 an31 cd31 ct31),sl31⟩)
  (c31:PySem.W.codeIn K cd31 "_law_due"=true)
  (k31:PySem.W.keepIn K (.ref f31)=true)
  (a32:PySem.W.nsIn K mainGlobals "_law_refused"=some (some (.ref f32)))
  (l32:K.lookup f32=some ⟨oc32,od32,.func (PySem.W.fnOf "_law_refused" "_law_refused" (ba uf) (av uf) (ag uf) .none kV32 dc32 pm32 an32 cd32 ct32),sl32⟩)
  (c32:PySem.W.codeIn K cd32 "_law_refused"=true)
  (k32:PySem.W.keepIn K (.ref f32)=true)
  (a33:PySem.W.nsIn K mainGlobals "law"=some (some (.ref f33)))
  (l33:K.lookup f33=some ⟨oc33,od33,.func (PySem.W.fnOf "law" "law" (ba zx) (av zx) (ag zx) .none kV33 dc33 pm33 an33 cd33 ct33),sl33⟩)
  (c33:PySem.W.codeIn K cd33 "law"=true)
  (k33:PySem.W.keepIn K (.ref f33)=true)
  (z0:PySem.W.nsIn K mainGlobals "ValueError"=some none)
  (z1:PySem.W.nsIn K mainGlobals "all"=some none)
  (z2:PySem.W.nsIn K mainGlobals "bool"=some none)
  (z3:PySem.W.nsIn K mainGlobals "dict"=some none)
  (z4:PySem.W.nsIn K mainGlobals "int"=some none)
  (z5:PySem.W.nsIn K mainGlobals "isinstance"=some none)
  (z6:PySem.W.nsIn K mainGlobals "len"=some none)
  (z7:PySem.W.nsIn K mainGlobals "list"=some none)
  (z8:PySem.W.nsIn K mainGlobals "range"=some none)
  (z9:PySem.W.nsIn K mainGlobals "reversed"=some none)
  (z10:PySem.W.nsIn K mainGlobals "sorted"=some none)
  (z11:PySem.W.nsIn K mainGlobals "str"=some none)
  (z12:PySem.W.nsIn K mainGlobals "tuple"=some none)
  (z13:PySem.W.nsIn K mainGlobals "zip"=some none)
  (y0:PySem.W.nsIn K mainGlobals "PARTS_BELOW"=some (some (.ref g0)))
  (x0:K.lookup g0=some ⟨.type "dict",none,.dict #[⟨dh0x0,.str "add" dt0x0,.int 2 du0x0⟩,⟨dh0x1,.str "sub" dt0x1,.int 2 du0x1⟩,⟨dh0x2,.str "mul" dt0x2,.int 2 du0x2⟩,⟨dh0x3,.str "neg" dt0x3,.int 1 du0x3⟩] dp0,#[]⟩)
  (hh0x0:dh0x0=hashStr w "add")
  (hh0x1:dh0x1=hashStr w "sub")
  (hh0x2:dh0x2=hashStr w "mul")
  (hh0x3:dh0x3=hashStr w "neg")
  (ha0:(g0==sysModules)=false)
  (cn0:PySem.W.nsIn K mainGlobals "CoverError"=some (some (.ref e0)))
  (cl0:K.lookup e0=some (excClassObj enm0 eqn0 e0 eN0 ebs0 vbm true esn0 esu0 eab0 eco0 edd0 eka0 ekb0 ekc0 ekd0 eke0 "ValueError.__new__"))
  (ck0:PySem.W.keepIn K (.ref e0)=true)
  (cs0:PySem.W.findIn K (.ref e0) "__setattr__"=some (some (.builtin "object.__setattr__")))
  (cg0:PySem.W.findIn K (.ref e0) "__getattribute__"=some (some (.builtin "BaseException.__getattribute__")))
  (ch0:PySem.W.findIn K (.ref e0) "__getattr__"=some (none))
  (cc0:PySem.W.findIn K (.ref e0) "__class__"=some (some (.builtin "object.__class__")))
  (cn1:PySem.W.nsIn K mainGlobals "NoTerm"=some (some (.ref e1)))
  (cl1:K.lookup e1=some (excClassObj enm1 eqn1 e1 eN1 ebs1 (.ref e0::vbm) true esn1 esu1 eab1 eco1 edd1 eka1 ekb1 ekc1 ekd1 eke1 "ValueError.__new__"))
  (ck1:PySem.W.keepIn K (.ref e1)=true)
  (cs1:PySem.W.findIn K (.ref e1) "__setattr__"=some (some (.builtin "object.__setattr__")))
  (cg1:PySem.W.findIn K (.ref e1) "__getattribute__"=some (some (.builtin "BaseException.__getattribute__")))
  (ch1:PySem.W.findIn K (.ref e1) "__getattr__"=some (none))
  (cc1:PySem.W.findIn K (.ref e1) "__class__"=some (some (.builtin "object.__class__")))
  (cn2:PySem.W.nsIn K mainGlobals "NoBox"=some (some (.ref e2)))
  (cl2:K.lookup e2=some (excClassObj enm2 eqn2 e2 eN2 ebs2 (.ref e0::vbm) true esn2 esu2 eab2 eco2 edd2 eka2 ekb2 ekc2 ekd2 eke2 "ValueError.__new__"))
  (ck2:PySem.W.keepIn K (.ref e2)=true)
  (cs2:PySem.W.findIn K (.ref e2) "__setattr__"=some (some (.builtin "object.__setattr__")))
  (cg2:PySem.W.findIn K (.ref e2) "__getattribute__"=some (some (.builtin "BaseException.__getattribute__")))
  (ch2:PySem.W.findIn K (.ref e2) "__getattr__"=some (none))
  (cc2:PySem.W.findIn K (.ref e2) "__class__"=some (some (.builtin "object.__class__")))
  (cn3:PySem.W.nsIn K mainGlobals "BadCover"=some (some (.ref e3)))
  (cl3:K.lookup e3=some (excClassObj enm3 eqn3 e3 eN3 ebs3 (.ref e0::vbm) true esn3 esu3 eab3 eco3 edd3 eka3 ekb3 ekc3 ekd3 eke3 "ValueError.__new__"))
  (ck3:PySem.W.keepIn K (.ref e3)=true)
  (cs3:PySem.W.findIn K (.ref e3) "__setattr__"=some (some (.builtin "object.__setattr__")))
  (cg3:PySem.W.findIn K (.ref e3) "__getattribute__"=some (some (.builtin "BaseException.__getattribute__")))
  (ch3:PySem.W.findIn K (.ref e3) "__getattr__"=some (none))
  (cc3:PySem.W.findIn K (.ref e3) "__class__"=some (some (.builtin "object.__class__")))
  (cn4:PySem.W.nsIn K mainGlobals "NoCover"=some (some (.ref e4)))
  (cl4:K.lookup e4=some (excClassObj enm4 eqn4 e4 eN4 ebs4 (.ref e0::vbm) true esn4 esu4 eab4 eco4 edd4 eka4 ekb4 ekc4 ekd4 eke4 "ValueError.__new__"))
  (ck4:PySem.W.keepIn K (.ref e4)=true)
  (cs4:PySem.W.findIn K (.ref e4) "__setattr__"=some (some (.builtin "object.__setattr__")))
  (cg4:PySem.W.findIn K (.ref e4) "__getattribute__"=some (some (.builtin "BaseException.__getattribute__")))
  (ch4:PySem.W.findIn K (.ref e4) "__getattr__"=some (none))
  (cc4:PySem.W.findIn K (.ref e4) "__class__"=some (some (.builtin "object.__class__")))
  (cn5:PySem.W.nsIn K mainGlobals "BadRow"=some (some (.ref e5)))
  (cl5:K.lookup e5=some (excClassObj enm5 eqn5 e5 eN5 ebs5 (.ref e0::vbm) true esn5 esu5 eab5 eco5 edd5 eka5 ekb5 ekc5 ekd5 eke5 "ValueError.__new__"))
  (ck5:PySem.W.keepIn K (.ref e5)=true)
  (cs5:PySem.W.findIn K (.ref e5) "__setattr__"=some (some (.builtin "object.__setattr__")))
  (cg5:PySem.W.findIn K (.ref e5) "__getattribute__"=some (some (.builtin "BaseException.__getattribute__")))
  (ch5:PySem.W.findIn K (.ref e5) "__getattr__"=some (none))
  (cc5:PySem.W.findIn K (.ref e5) "__class__"=some (some (.builtin "object.__class__")))
  (cn6:PySem.W.nsIn K mainGlobals "NoValue"=some (some (.ref e6)))
  (cl6:K.lookup e6=some (excClassObj enm6 eqn6 e6 eN6 ebs6 (.ref e0::vbm) true esn6 esu6 eab6 eco6 edd6 eka6 ekb6 ekc6 ekd6 eke6 "ValueError.__new__"))
  (ck6:PySem.W.keepIn K (.ref e6)=true)
  (cs6:PySem.W.findIn K (.ref e6) "__setattr__"=some (some (.builtin "object.__setattr__")))
  (cg6:PySem.W.findIn K (.ref e6) "__getattribute__"=some (some (.builtin "BaseException.__getattribute__")))
  (ch6:PySem.W.findIn K (.ref e6) "__getattr__"=some (none))
  (cc6:PySem.W.findIn K (.ref e6) "__class__"=some (some (.builtin "object.__class__")))
  (cn7:PySem.W.nsIn K mainGlobals "Twice"=some (some (.ref e7)))
  (cl7:K.lookup e7=some (excClassObj enm7 eqn7 e7 eN7 ebs7 (.ref e0::vbm) true esn7 esu7 eab7 eco7 edd7 eka7 ekb7 ekc7 ekd7 eke7 "ValueError.__new__"))
  (ck7:PySem.W.keepIn K (.ref e7)=true)
  (cs7:PySem.W.findIn K (.ref e7) "__setattr__"=some (some (.builtin "object.__setattr__")))
  (cg7:PySem.W.findIn K (.ref e7) "__getattribute__"=some (some (.builtin "BaseException.__getattribute__")))
  (ch7:PySem.W.findIn K (.ref e7) "__getattr__"=some (none))
  (cc7:PySem.W.findIn K (.ref e7) "__class__"=some (some (.builtin "object.__class__")))
  (cn8:PySem.W.nsIn K mainGlobals "NoName"=some (some (.ref e8)))
  (cl8:K.lookup e8=some (excClassObj enm8 eqn8 e8 eN8 ebs8 (.ref e0::vbm) true esn8 esu8 eab8 eco8 edd8 eka8 ekb8 ekc8 ekd8 eke8 "ValueError.__new__"))
  (ck8:PySem.W.keepIn K (.ref e8)=true)
  (cs8:PySem.W.findIn K (.ref e8) "__setattr__"=some (some (.builtin "object.__setattr__")))
  (cg8:PySem.W.findIn K (.ref e8) "__getattribute__"=some (some (.builtin "BaseException.__getattribute__")))
  (ch8:PySem.W.findIn K (.ref e8) "__getattr__"=some (none))
  (cc8:PySem.W.findIn K (.ref e8) "__class__"=some (some (.builtin "object.__class__")))
  (cn9:PySem.W.nsIn K mainGlobals "BadShape"=some (some (.ref e9)))
  (cl9:K.lookup e9=some (excClassObj enm9 eqn9 e9 eN9 ebs9 (.ref e0::vbm) true esn9 esu9 eab9 eco9 edd9 eka9 ekb9 ekc9 ekd9 eke9 "ValueError.__new__"))
  (ck9:PySem.W.keepIn K (.ref e9)=true)
  (cs9:PySem.W.findIn K (.ref e9) "__setattr__"=some (some (.builtin "object.__setattr__")))
  (cg9:PySem.W.findIn K (.ref e9) "__getattribute__"=some (some (.builtin "BaseException.__getattribute__")))
  (ch9:PySem.W.findIn K (.ref e9) "__getattr__"=some (none))
  (cc9:PySem.W.findIn K (.ref e9) "__class__"=some (some (.builtin "object.__class__")))
  (cn10:PySem.W.nsIn K mainGlobals "BadDeed"=some (some (.ref e10)))
  (cl10:K.lookup e10=some (excClassObj enm10 eqn10 e10 eN10 ebs10 (.ref e0::vbm) true esn10 esu10 eab10 eco10 edd10 eka10 ekb10 ekc10 ekd10 eke10 "ValueError.__new__"))
  (ck10:PySem.W.keepIn K (.ref e10)=true)
  (cs10:PySem.W.findIn K (.ref e10) "__setattr__"=some (some (.builtin "object.__setattr__")))
  (cg10:PySem.W.findIn K (.ref e10) "__getattribute__"=some (some (.builtin "BaseException.__getattribute__")))
  (ch10:PySem.W.findIn K (.ref e10) "__getattr__"=some (none))
  (cc10:PySem.W.findIn K (.ref e10) "__class__"=some (some (.builtin "object.__class__")))
  (cn11:PySem.W.nsIn K mainGlobals "Unsound"=some (some (.ref e11)))
  (cl11:K.lookup e11=some (excClassObj enm11 eqn11 e11 eN11 ebs11 (.ref e0::vbm) true esn11 esu11 eab11 eco11 edd11 eka11 ekb11 ekc11 ekd11 eke11 "ValueError.__new__"))
  (ck11:PySem.W.keepIn K (.ref e11)=true)
  (cs11:PySem.W.findIn K (.ref e11) "__setattr__"=some (some (.builtin "object.__setattr__")))
  (cg11:PySem.W.findIn K (.ref e11) "__getattribute__"=some (some (.builtin "BaseException.__getattribute__")))
  (ch11:PySem.W.findIn K (.ref e11) "__getattr__"=some (none))
  (cc11:PySem.W.findIn K (.ref e11) "__class__"=some (some (.builtin "object.__class__")))
  (crd:PySem.W.readsIn K e0 (.type "type")=true)
  (cty:PySem.W.typeIn K (.ref e0)=some (.type "type"))
  (cfi:PySem.W.findCls K (.ref e0) (.type "type") "__init__"=some (.val (.builtin "ValueError.__init__")))
  (ndup:([e0,e1,e2,e3,e4,e5,e6,e7,e8,e9,e10,e11]:List Addr).Nodup)
  (ip3:PySem.W.findIn K (.ref e3) "__init__"=some (some (.builtin "ValueError.__init__")))
  (ip4:PySem.W.findIn K (.ref e4) "__init__"=some (some (.builtin "ValueError.__init__"))):
  ∃fd:FuncData,(∀(s:Shared) (v:Value),BindsTo s fd ⟨[v],[]⟩ [("script",v)])∧∀base:Heap,K.In base→base.Ns mainGlobals mg→lu l.prog w K mg base CX0 10 fa fd ["script"] (Gr K):=by
 have e:=hfa.symm.trans (PySem.W.mg_of X G a33);cases e
 have G0:Gs w K mg ⟨e0,e1,e2,e3,e4,e5,e6,e7,e8,e9,e10,e11⟩:=⟨⟨ndup,PySem.W.mg_of X G cn0,PySem.W.mg_of X G cn1,PySem.W.mg_of X G cn2,PySem.W.mg_of X G cn3,PySem.W.mg_of X G cn4,PySem.W.mg_of X G cn5,PySem.W.mg_of X G cn6,PySem.W.mg_of X G cn7,PySem.W.mg_of X G cn8,PySem.W.mg_of X G cn9,PySem.W.mg_of X G cn10,PySem.W.mg_of X G cn11,Xc.mk' cl0 ck0 cs0 cg0 ch0 cc0 (.inl rfl),Xc.mk' cl1 ck1 cs1 cg1 ch1 cc1 (.inr ⟨_,rfl⟩),Xc.mk' cl2 ck2 cs2 cg2 ch2 cc2 (.inr ⟨_,rfl⟩),Xc.mk' cl3 ck3 cs3 cg3 ch3 cc3 (.inr ⟨_,rfl⟩),Xc.mk' cl4 ck4 cs4 cg4 ch4 cc4 (.inr ⟨_,rfl⟩),Xc.mk' cl5 ck5 cs5 cg5 ch5 cc5 (.inr ⟨_,rfl⟩),Xc.mk' cl6 ck6 cs6 cg6 ch6 cc6 (.inr ⟨_,rfl⟩),Xc.mk' cl7 ck7 cs7 cg7 ch7 cc7 (.inr ⟨_,rfl⟩),Xc.mk' cl8 ck8 cs8 cg8 ch8 cc8 (.inr ⟨_,rfl⟩),Xc.mk' cl9 ck9 cs9 cg9 ch9 cc9 (.inr ⟨_,rfl⟩),Xc.mk' cl10 ck10 cs10 cg10 ch10 cc10 (.inr ⟨_,rfl⟩),Xc.mk' cl11 ck11 cs11 cg11 ch11 cc11 (.inr ⟨_,rfl⟩),crd,cty,cfi⟩,ip3,ip4,PySem.W.mg_none_of X G z0,PySem.W.mg_none_of X G z1,PySem.W.mg_none_of X G z2,PySem.W.mg_none_of X G z3,PySem.W.mg_none_of X G z4,PySem.W.mg_none_of X G z5,PySem.W.mg_none_of X G z6,PySem.W.mg_none_of X G z7,PySem.W.mg_none_of X G z8,PySem.W.mg_none_of X G z9,PySem.W.mg_none_of X G z10,PySem.W.mg_none_of X G z11,PySem.W.mg_none_of X G z12,PySem.W.mg_none_of X G z13,⟨g0,PySem.W.mg_of X G y0,Oz [(dh0x0,"add",dt0x0,2,du0x0),(dh0x1,"sub",dt0x1,2,du0x1),(dh0x2,"mul",dt0x2,2,du0x2),(dh0x3,"neg",dt0x3,1,du0x3)] x0 ha0 (by intro e he;simp only[aaq,aah,or_false] at he;rcases he with rfl | rfl | rfl | rfl <;> assumption) (by show abf ([Sum.inr "add",Sum.inr "sub",Sum.inr "mul",Sum.inr "neg"]:List Key);decide+kernel)⟩⟩;have F0:=bo (st:=Ee) l0 c0 k0;have D0:Def K mg "how_many_below" Ee ["word"]:=⟨f0,_,F0,F0.binds (ps:=["word"]) (λ_ _ _ _ _ _ us hl=>by refine us1 (P:=λus=>bindArgs _ ⟨us,[]⟩=pure (ab2 _ us)) hl ?_;intros;rfl),PySem.W.mg_of X G a0⟩;have F1:=bo (st:=jr) l1 c1 k1;have D1:Def K mg "place_behind" jr ["words","place"]:=⟨f1,_,F1,F1.binds (ps:=["words","place"]) (λ_ _ _ _ _ _ us hl=>by refine us2 (P:=λus=>bindArgs _ ⟨us,[]⟩=pure (ab2 _ us)) hl ?_;intros;rfl),PySem.W.mg_of X G a1⟩;have F2:=bo (st:=va) l2 c2 k2;have D2:Def K mg "leaf_letter" va ["word","kinds"]:=⟨f2,_,F2,F2.binds (ps:=["word","kinds"]) (λ_ _ _ _ _ _ us hl=>by refine us2 (P:=λus=>bindArgs _ ⟨us,[]⟩=pure (ab2 _ us)) hl ?_;intros;rfl),PySem.W.mg_of X G a2⟩;have F3:=bo (st:=xg) l3 c3 k3;have D3:Def K mg "lies_upon" xg ["letter","shape_word","word"]:=⟨f3,_,F3,F3.binds (ps:=["letter","shape_word","word"]) (λ_ _ _ _ _ _ us hl=>by refine us3 (P:=λus=>bindArgs _ ⟨us,[]⟩=pure (ab2 _ us)) hl ?_;intros;rfl),PySem.W.mg_of X G a3⟩;have F4:=bo (st:=vc) l4 c4 k4;have D4:Def K mg "laid" vc ["shape","kinds","words","place"]:=⟨f4,_,F4,F4.binds (ps:=["shape","kinds","words","place"]) (λ_ _ _ _ _ _ us hl=>by refine us4 (P:=λus=>bindArgs _ ⟨us,[]⟩=pure (ab2 _ us)) hl ?_;intros;rfl),PySem.W.mg_of X G a4⟩;have F5:=bo (st:=jj) l5 c5 k5;have D5:Def K mg "holes_under" jj ["shape","kinds","under"]:=⟨f5,_,F5,F5.binds (ps:=["shape","kinds","under"]) (λ_ _ _ _ _ _ us hl=>by refine us3 (P:=λus=>bindArgs _ ⟨us,[]⟩=pure (ab2 _ us)) hl ?_;intros;rfl),PySem.W.mg_of X G a5⟩;have F6:=bo (st:=gq) l6 c6 k6;have D6:Def K mg "fitting_rules" gq ["book","words","place"]:=⟨f6,_,F6,F6.binds (ps:=["book","words","place"]) (λ_ _ _ _ _ _ us hl=>by refine us3 (P:=λus=>bindArgs _ ⟨us,[]⟩=pure (ab2 _ us)) hl ?_;intros;rfl),PySem.W.mg_of X G a6⟩;have F7:=bo (st:=m4) l7 c7 k7;have D7:Def K mg "price_there" m4 ["own","holes","least"]:=⟨f7,_,F7,F7.binds (ps:=["own","holes","least"]) (λ_ _ _ _ _ _ us hl=>by refine us3 (P:=λus=>bindArgs _ ⟨us,[]⟩=pure (ab2 _ us)) hl ?_;intros;rfl),PySem.W.mg_of X G a7⟩;have F8:=bo (st:=jx) l8 c8 k8;have D8:Def K mg "settle_part" jx ["place","fitting","least"]:=⟨f8,_,F8,F8.binds (ps:=["place","fitting","least"]) (λ_ _ _ _ _ _ us hl=>by refine us3 (P:=λus=>bindArgs _ ⟨us,[]⟩=pure (ab2 _ us)) hl ?_;intros;rfl),PySem.W.mg_of X G a8⟩;have F9:=bo (st:=uk) l9 c9 k9;have D9:Def K mg "rules_with_price" uk ["kind","price","fitting","least"]:=⟨f9,_,F9,F9.binds (ps:=["kind","price","fitting","least"]) (λ_ _ _ _ _ _ us hl=>by refine us4 (P:=λus=>bindArgs _ ⟨us,[]⟩=pure (ab2 _ us)) hl ?_;intros;rfl),PySem.W.mg_of X G a9⟩;have F10:=bo (st:=nu) l10 c10 k10;have D10:Def K mg "rows_of_part" nu ["book","place","fitting","least"]:=⟨f10,_,F10,F10.binds (ps:=["book","place","fitting","least"]) (λ_ _ _ _ _ _ us hl=>by refine us4 (P:=λus=>bindArgs _ ⟨us,[]⟩=pure (ab2 _ us)) hl ?_;intros;rfl),PySem.W.mg_of X G a10⟩;have F11:=bo (st:=m9) l11 c11 k11;have D11:Def K mg "rows_with_all_rules" m9 ["book","words"]:=⟨f11,_,F11,F11.binds (ps:=["book","words"]) (λ_ _ _ _ _ _ us hl=>by refine us2 (P:=λus=>bindArgs _ ⟨us,[]⟩=pure (ab2 _ us)) hl ?_;intros;rfl),PySem.W.mg_of X G a11⟩;have F12:=bo (st:=jh) l12 c12 k12;have D12:Def K mg "prices" jh ["book","words"]:=⟨f12,_,F12,F12.binds (ps:=["book","words"]) (λ_ _ _ _ _ _ us hl=>by refine us2 (P:=λus=>bindArgs _ ⟨us,[]⟩=pure (ab2 _ us)) hl ?_;intros;rfl),PySem.W.mg_of X G a12⟩;have F13:=bo (st:=mw) l13 c13 k13;have D13:Def K mg "laid_rule" mw ["book","name","words","place","kind"]:=⟨f13,_,F13,F13.binds (ps:=["book","name","words","place","kind"]) (λ_ _ _ _ _ _ us hl=>by refine us5 (P:=λus=>bindArgs _ ⟨us,[]⟩=pure (ab2 _ us)) hl ?_;intros;rfl),PySem.W.mg_of X G a13⟩;have F14:=bo (st:=wm) l14 c14 k14;have D14:Def K mg "last_hole_first" wm ["book","step"]:=⟨f14,_,F14,F14.binds (ps:=["book","step"]) (λ_ _ _ _ _ _ us hl=>by refine us2 (P:=λus=>bindArgs _ ⟨us,[]⟩=pure (ab2 _ us)) hl ?_;intros;rfl),PySem.W.mg_of X G a14⟩;have F15:=bo (st:=m8) l15 c15 k15;have D15:Def K mg "rules_of_table" m8 ["book","words"]:=⟨f15,_,F15,F15.binds (ps:=["book","words"]) (λ_ _ _ _ _ _ us hl=>by refine us2 (P:=λus=>bindArgs _ ⟨us,[]⟩=pure (ab2 _ us)) hl ?_;intros;rfl),PySem.W.mg_of X G a15⟩;have F16:=bo (st:=mz) l16 c16 k16;have D16:Def K mg "cheapest" mz ["book","words","kind"]:=⟨f16,_,F16,F16.binds (ps:=["book","words","kind"]) (λ_ _ _ _ _ _ us hl=>by refine us3 (P:=λus=>bindArgs _ ⟨us,[]⟩=pure (ab2 _ us)) hl ?_;intros;rfl),PySem.W.mg_of X G a16⟩;have F17:=bo (st:=wa) l17 c17 k17;have D17:Def K mg "_law_next" wa ["deck"]:=⟨f17,_,F17,F17.binds (ps:=["deck"]) (λ_ _ _ _ _ _ us hl=>by refine us1 (P:=λus=>bindArgs _ ⟨us,[]⟩=pure (ab2 _ us)) hl ?_;intros;rfl),PySem.W.mg_of X G a17⟩;have F18:=bo (st:=wo) l18 c18 k18;have D18:Def K mg "_law_ends" wo ["words"]:=⟨f18,_,F18,F18.binds (ps:=["words"]) (λ_ _ _ _ _ _ us hl=>by refine us1 (P:=λus=>bindArgs _ ⟨us,[]⟩=pure (ab2 _ us)) hl ?_;intros;rfl),PySem.W.mg_of X G a18⟩;have F19:=bo (st:=mv) l19 c19 k19;have D19:Def K mg "_law_laid" mv ["kinds","shape","words","ends","place"]:=⟨f19,_,F19,F19.binds (ps:=["kinds","shape","words","ends","place"]) (λ_ _ _ _ _ _ us hl=>by refine us5 (P:=λus=>bindArgs _ ⟨us,[]⟩=pure (ab2 _ us)) hl ?_;intros;rfl),PySem.W.mg_of X G a19⟩;have F20:=bo (st:=ux) l20 c20 k20;have D20:Def K mg "_law_term" ux ["deck","names","most"]:=⟨f20,_,F20,F20.binds (ps:=["deck","names","most"]) (λ_ _ _ _ _ _ us hl=>by refine us3 (P:=λus=>bindArgs _ ⟨us,[]⟩=pure (ab2 _ us)) hl ?_;intros;rfl),PySem.W.mg_of X G a20⟩;have F21:=bo (st:=nq) l21 c21 k21;have D21:Def K mg "_law_shape" nq ["deck","kinds"]:=⟨f21,_,F21,F21.binds (ps:=["deck","kinds"]) (λ_ _ _ _ _ _ us hl=>by refine us2 (P:=λus=>bindArgs _ ⟨us,[]⟩=pure (ab2 _ us)) hl ?_;intros;rfl),PySem.W.mg_of X G a21⟩;have F22:=bo (st:=mq) l22 c22 k22;have D22:Def K mg "_law_deeds" mq ["kinds","shape"]:=⟨f22,_,F22,F22.binds (ps:=["kinds","shape"]) (λ_ _ _ _ _ _ us hl=>by refine us2 (P:=λus=>bindArgs _ ⟨us,[]⟩=pure (ab2 _ us)) hl ?_;intros;rfl),PySem.W.mg_of X G a22⟩;have F23:=bo (st:=xm) l23 c23 k23;have D23:Def K mg "_law_book" xm ["deck","names"]:=⟨f23,_,F23,F23.binds (ps:=["deck","names"]) (λ_ _ _ _ _ _ us hl=>by refine us2 (P:=λus=>bindArgs _ ⟨us,[]⟩=pure (ab2 _ us)) hl ?_;intros;rfl),PySem.W.mg_of X G a23⟩;have F24:=bo (st:=mx) l24 c24 k24;have D24:Def K mg "_law_names" mx ["deck"]:=⟨f24,_,F24,F24.binds (ps:=["deck"]) (λ_ _ _ _ _ _ us hl=>by refine us1 (P:=λus=>bindArgs _ ⟨us,[]⟩=pure (ab2 _ us)) hl ?_;intros;rfl),PySem.W.mg_of X G a24⟩;have F25:=bo (st:=jy) l25 c25 k25;have D25:Def K mg "_law_holes" jy ["kinds","shape"]:=⟨f25,_,F25,F25.binds (ps:=["kinds","shape"]) (λ_ _ _ _ _ _ us hl=>by refine us2 (P:=λus=>bindArgs _ ⟨us,[]⟩=pure (ab2 _ us)) hl ?_;intros;rfl),PySem.W.mg_of X G a25⟩;have F26:=bo (st:=ni) l26 c26 k26;have D26:Def K mg "_law_fits" ni ["book","words"]:=⟨f26,_,F26,F26.binds (ps:=["book","words"]) (λ_ _ _ _ _ _ us hl=>by refine us2 (P:=λus=>bindArgs _ ⟨us,[]⟩=pure (ab2 _ us)) hl ?_;intros;rfl),PySem.W.mg_of X G a26⟩;have F27:=bo (st:=nr) l27 c27 k27;have D27:Def K mg "_law_cost" nr ["rule","keys","least"]:=⟨f27,_,F27,F27.binds (ps:=["rule","keys","least"]) (λ_ _ _ _ _ _ us hl=>by refine us3 (P:=λus=>bindArgs _ ⟨us,[]⟩=pure (ab2 _ us)) hl ?_;intros;rfl),PySem.W.mg_of X G a27⟩;have F28:=bo (st:=jn) l28 c28 k28;have D28:Def K mg "_law_least" jn ["fits"]:=⟨f28,_,F28,F28.binds (ps:=["fits"]) (λ_ _ _ _ _ _ us hl=>by refine us1 (P:=λus=>bindArgs _ ⟨us,[]⟩=pure (ab2 _ us)) hl ?_;intros;rfl),PySem.W.mg_of X G a28⟩;have F29:=bo (st:=jq) l29 c29 k29;have D29:Def K mg "_law_reaching" jq ["fits","least"]:=⟨f29,_,F29,F29.binds (ps:=["fits","least"]) (λ_ _ _ _ _ _ us hl=>by refine us2 (P:=λus=>bindArgs _ ⟨us,[]⟩=pure (ab2 _ us)) hl ?_;intros;rfl),PySem.W.mg_of X G a29⟩;have F30:=bo (st:=yt) l30 c30 k30;have D30:Def K mg "_law_same" yt ["found","due"]:=⟨f30,_,F30,F30.binds (ps:=["found","due"]) (λ_ _ _ _ _ _ us hl=>by refine us2 (P:=λus=>bindArgs _ ⟨us,[]⟩=pure (ab2 _ us)) hl ?_;intros;rfl),PySem.W.mg_of X G a30⟩;have F31:=bo (st:=uz) l31 c31 k31;have D31:Def K mg "_law_due" uz ["book","words","kind","reaching"]:=⟨f31,_,F31,F31.binds (ps:=["book","words","kind","reaching"]) (λ_ _ _ _ _ _ us hl=>by refine us4 (P:=λus=>bindArgs _ ⟨us,[]⟩=pure (ab2 _ us)) hl ?_;intros;rfl),PySem.W.mg_of X G a31⟩;have F32:=bo (st:=uf) l32 c32 k32;have D32:Def K mg "_law_refused" uf ["book","words","kind"]:=⟨f32,_,F32,F32.binds (ps:=["book","words","kind"]) (λ_ _ _ _ _ _ us hl=>by refine us3 (P:=λus=>bindArgs _ ⟨us,[]⟩=pure (ab2 _ us)) hl ?_;intros;rfl),PySem.W.mg_of X G a32⟩;have F33:=bo (st:=zx) l33 c33 k33;refine ⟨PySem.W.fnOf "law" "law" (ba zx) (av zx) (ag zx) .none kV33 dc33 pm33 an33 cd33 ct33,λs v=>.of_eq rfl,λbase _ _=>?_⟩;have H0:Has l.prog w K mg base 1 "how_many_below" ["word"] xn:=hasHow (k:=0) G0   D0;have H1:Has l.prog w K mg base 2 "place_behind" ["words","place"] (ur K):=Ij (k:=1) G0 (H0.up (by decide))  D1;have H2:Has l.prog w K mg base 1 "leaf_letter" ["word","kinds"] (jk K):=Qm (k:=0) G0   D2;have H3:Has l.prog w K mg base 2 "lies_upon" ["letter","shape_word","word"] zw:=Qe (k:=1) G0 (H0.up (by decide))  D3;have H4:Has l.prog w K mg base 3 "laid" ["shape","kinds","words","place"] (wx K):=O8 (k:=2) G0 (H2.up (by decide)) (H3.up (by decide)) (H1.up (by decide))  D4;have H5:Has l.prog w K mg base 2 "holes_under" ["shape","kinds","under"] (kg K):=Ik (k:=1) G0 (H2.up (by decide))  D5;have H6:Has l.prog w K mg base 4 "fitting_rules" ["book","words","place"] lg:=E7 (k:=3) G0 (H5.up (by decide)) (H4.up (by decide))  D6;have H7:Has l.prog w K mg base 1 "price_there" ["own","holes","least"] jt:=M7 (k:=0) G0   D7;have H8:Has l.prog w K mg base 2 "settle_part" ["place","fitting","least"] pq:=Ib (k:=1) G0 (H7.up (by decide))  D8;have H9:Has l.prog w K mg base 2 "rules_with_price" ["kind","price","fitting","least"] Bb:=hasWith (k:=1) G0 (H7.up (by decide))  D9;have H10:Has l.prog w K mg base 3 "rows_of_part" ["book","place","fitting","least"] ud:=J0 (k:=2) G0 (H9.up (by decide))  D10;have H11:Has l.prog w K mg base 5 "rows_with_all_rules" ["book","words"] zr:=Ku (k:=4) G0 (H6.up (by decide)) (H10.up (by decide)) (H8.up (by decide))  D11;have H12:Has l.prog w K mg base 6 "prices" ["book","words"] pj:=Ii (k:=5) G0 (H11.up (by decide))  D12;have H13:m7 l.prog w K mg base 4 "laid_rule" ["book","name","words","place","kind"] (ou (Cl.mk e0 e1 e2 e3 e4 e5 e6 e7 e8 e9 e10 e11)):=Lc (k:=3) G0 (H4.up (by decide))  D13;have H14:Has l.prog w K mg base 3 "last_hole_first" ["book","step"] zo:=Oy (k:=2) G0 (H5.up (by decide))  D14;have H15:Has l.prog w K mg base 7 "rules_of_table" ["book","words"] sy:=Lv (k:=6) G0 (H12.up (by decide))  D15;have H16:m7 l.prog w K mg base 8 "cheapest" ["book","words","kind"] (jb (Cl.mk e0 e1 e2 e3 e4 e5 e6 e7 e8 e9 e10 e11)):=Lm (k:=7) G0 (H13.up (by decide)) (H14.up (by decide)) (H15.up (by decide))  D16;have H17:Has l.prog w K mg base 1 "_law_next" ["deck"] jg:=hasNext (k:=0) G0   D17;have H18:Has l.prog w K mg base 1 "_law_ends" ["words"] (uo K):=Ph (k:=0) G0   D18;have H19:Has l.prog w K mg base 1 "_law_laid" ["kinds","shape","words","ends","place"] (o7 K):=Kd (k:=0) G0   D19;have H20:Has l.prog w K mg base 2 "_law_term" ["deck","names","most"] t4:=N0 (k:=1) G0 (H17.up (by decide))  D20;have H21:Has l.prog w K mg base 2 "_law_shape" ["deck","kinds"] tm:=Lb (k:=1) G0 (H17.up (by decide))  D21;have H22:Has l.prog w K mg base 1 "_law_deeds" ["kinds","shape"] (ub K):=Ka (k:=0) G0   D22;have H23:Has l.prog w K mg base 3 "_law_book" ["deck","names"] Ak:=Qk (k:=2) G0 (H22.up (by decide)) (H17.up (by decide)) (H21.up (by decide))  D23;have H24:Has l.prog w K mg base 2 "_law_names" ["deck"] ow:=Mu (k:=1) G0 (H17.up (by decide))  D24;have H25:Has l.prog w K mg base 1 "_law_holes" ["kinds","shape"] (j8 K):=Ih (k:=0) G0   D25;have H26:Has l.prog w K mg base 2 "_law_fits" ["book","words"] uc:=Ls (k:=1) G0 (H18.up (by decide)) (H25.up (by decide)) (H19.up (by decide))  D26;have H27:Has l.prog w K mg base 1 "_law_cost" ["rule","keys","least"] oj:=Mp (k:=0) G0   D27;have H28:Has l.prog w K mg base 2 "_law_least" ["fits"] oo:=Hl (k:=1) G0 (H27.up (by decide))  D28;have H29:Has l.prog w K mg base 2 "_law_reaching" ["fits","least"] oh:=Hw (k:=1) G0 (H27.up (by decide))  D29;have H30:Has l.prog w K mg base 3 "_law_same" ["found","due"] gw:=Ql (k:=0) G0   D30;have H31:Has l.prog w K mg base 2 "_law_due" ["book","words","kind","reaching"] Ao:=Pm (k:=1) G0 (H18.up (by decide)) (H25.up (by decide)) (H19.up (by decide))  D31;have H32:Has l.prog w K mg base 9 "_law_refused" ["book","words","kind"] zy:=Qg (k:=8) G0 (H16.up (by decide))  D32;exact hasLaw (k:=9) G0 (H23.up (by decide)) (H31.up (by decide)) (H26.up (by decide)) (H28.up (by decide)) (H24.up (by decide)) (H17.up (by decide)) (H29.up (by decide)) (H32.up (by decide)) (H30.up (by decide)) (H20.up (by decide)) (H16.up (by decide))  F33
theorem walk {l:PySem.W.OpenLaw} {q:Program} {loose:List Str} {XP:(Str→Option Value)→Heap→Prop} {YP:World→Heap→Prop} {d:DefRec} {K:Params→PySem.W.Frag} (hn:l.most=some 63) (hdf:d.params.defaults=[])
  (hY:∀(w:World) (h:Heap),YP w h→(K w.params).In h)
  (F:∀(w:World) (mg:Str→Option Value) (fa:Addr) (h:Heap),(K w.params).In h→h.Ns mainGlobals mg→mg d.name=some (.ref fa)→
   ∃fd:FuncData,(∀(s:Shared) (u:Value),BindsTo s fd ⟨[u],[]⟩ [("script",u)])∧∀base:Heap,(K w.params).In base→base.Ns mainGlobals mg→lu l.prog w (K w.params) mg base CX0 10 fa fd ["script"] (Gr (K w.params))):
  PySem.W.WalkO q loose XP YP l.row.toRowW d [] (λf vs=>PySem.call f vs):=
 L2.Qh (n:=63) (k:=10) (x:="script") (CX:=λ_=>CX0) (sp:=λw=>Gr (K w.params)) hn (by decide) hdf ⟨rfl,by decide,by decide⟩ hY F (λ_ _ a ns hl _ hS=>⟨a,ns,rfl,hS,hl,λ_=>rfl⟩) λ_ _ _ _ _ z=>z
end K52
namespace PySem.W.Fast
def tw7388384240588633499:=()
def tw17321019862222926681:=()
def tw1061773815160597759:=()
def tw10090675649136346836:=()
def tw14216936300687138284:=()
def tw1158316585696135143:=()
def tw16020616505697809638:=()
def tw11953610167108828440:=()
def tw11404809984505640467:=()
def tw14546904755812116581:=()
def tw1761405784399167019:=()
def tw10214575334934602328:=()
def tw2637779380944393372:=()
def tw10303829790229779270:=()
def tw7317879518843216450:=()
def tw18182232113470025099:=()
def tw8766670546276836321:=()
def tw12959194986408902055:=()
def tw16402343876121929382:=()
def tw4520364013732898667:=()
def tw853469259499831556:=()
def tw14140126502320133489:=()
def tw8387911793376717647:=()
def tw12317307344283697100:=()
def tw16463676118945152900:=()
def tw10611433461476344789:=()
def tw2733416808463724868:=()
def tw17463903068465430589:=()
def tw8475151373833401884:=()
def tw15714738168872630038:=()
def tw3539867589053764953:=()
def tw16318765947661051246:=()
def tw17533816723716385471:=()
def tw9385591254861308601:=()
def tw12278938487460174776:=()
def tw12782844830791150168:=()
def tw9719493856724360271:=()
def tw11414906385828606852:=()
def tw4600491461250167113:=()
def tw6446280230833646073:=()
def tw4912216226069739057:=()
def tw6643913022886088217:=()
def tw8929439029758790062:=()
def tw4043984950934660845:=()
def tw6404722663692915786:=()
def tw8374255342099159584:=()
def tw9322377738341196488:=()
def tw8963624849050037047:=()
def tw5410154965791331120:=()
def tw13847349287960917810:=()
def tw6955537478255032154:=()
def tw1569574688859065525:=()
def tw490701852528040810:=()
def tw13825774710582406151:=()
def tw8712098580451734965:=()
def tw11984101546626249247:=()
def tw11514715930326573520:=()
def tw11183009989225751611:=()
def tw8579391908585270314:=()
def tw9970358161954232607:=()
def tw2460427523222830116:=()
def tw8235370880647325317:=()
def tw14751339617999104119:=()
def tw9697876533434644844:=()
def tw12373338609549858694:=()
def tw16525282145017071411:=()
def tw6308995976230074045:=()
def tw4733632627345782856:=()
def tw10941780602769679605:=()
def tw16289255150805026030:=()
def tw12725096672311770750:=()
def tw14037350213366633610:=()
def tw11851246329177670968:=()
def tw16117267662549144264:=()
def tw16744253245007003588:=()
def tw1852085316166801761:=()
def tw14700917579794536677:=()
def tw8986158329730852148:=()
def tw14932736282477407772:=()
def tw15112804227447077036:=()
def tw14136322365558498471:=()
def tw8090584938914896198:=()
def tw4547814758891711498:=()
def tw17614408710500028080:=()
def tw12942111541338227356:=()
def tw10962998252505211628:=()
def tw14342476153163988675:=()
def tw11467815064194558362:=()
def tw6993710203713635466:=()
def tw4555064577871542721:=()
def tw12104885697565681840:=()
def tw13606501843507081074:=()
def tw9385200855056050954:=()
def tw11061465568928818187:=()
def tw3234995129493221861:=()
def tw15971480433986547389:=()
def tw4071628123405640630:=()
def tw6424011749567698997:=()
def tw11889163923135737390:=()
def tw254918373966283326:=()
def tw586916383721892543:=()
def tw10292065488426770866:=()
def tw15949374111224463441:=()
def tw17077223433988715567:=()
def tw18389284627900302470:=()
def tw4558973447543832716:=()
def tw8636513155754561687:=()
def tw16407090812447033357:=()
def tw2229969021712090362:=()
def tw9876700271472640999:=()
def tw18341901525063666416:=()
def tw421662885140346798:=()
def tw8318345497559935466:=()
def tw11611321512830032727:=()
def tw12193704363039953741:=()
def tw821910168229494990:=()
def tw8401028295534709343:=()
def tw8563472719815515519:=()
def tw8833699884910710147:=()
def tw926731951231800125:=()
def tw2049479976577935792:=()
def tw4440096467417098425:=()
def tw9053527805068753339:=()
def tw7427722954763342230:=()
def tw15441561033763926241:=()
def tw5244490226185007300:=()
def tw13632884902969227661:=()
def tw14583405174250020123:=()
def tw1553817387335574270:=()
def tw6029231216030537026:=()
def tw12302559045323784943:=()
def tw9839238522755753060:=()
def tw17512512034946491092:=()
def tw3627533327345391090:=()
def tw9892477467088831652:=()
def tw5113928964816949630:=()
def tw12463447368410283225:=()
def tw16767993962376873924:=()
def tw5415086247251038764:=()
def tw16660655084418056778:=()
def tw14737272680277988229:=()
def tw14075001006581591977:=()
def tw4443900877302023957:=()
def tw13065711693778844678:=()
def tw7523166286048164743:=()
def tw8663680358792774889:=()
def tw10363407810989714499:=()
def tw11751792775577337281:=()
def tw15797218255241789538:=()
def tw1512202124290774273:=()
def tw3233316769703199090:=()
def tw15571209292964577496:=()
def tw2920616525169149895:=()
def tw8953876415055729316:=()
def tw13668896482194108415:=()
def tw10659412922765792335:=()
def tw3672253193796002380:=()
def tw17257751209125403987:=()
def tw14406229960788298692:=()
def tw5526325192309282314:=()
def tw11672409149371646511:=()
def tw4099753785607530605:=()
def tw2593480265971035437:=()
def tw453187521458598282:=()
def tw7621922343240696778:=()
def tw4944583055373760064:=()
def tw1294314639663412285:=()
def tw2119976190229714746:=()
def tw15206743736771150063:=()
def tw18302520260426251579:=()
def tw15504037119363287645:=()
def tw9097513483939028618:=()
def tw9017360041199432975:=()
def tw17599958638450209176:=()
def tw4868541344224046729:=()
def tw14990380390886265096:=()
def tw16531468612905131471:=()
def tw12792509251158786195:=()
def tw17239871353920888948:=()
def tw13897267923095306532:=()
def tw13261863765246917517:=()
def tw2535785920121578430:=()
def tw9353077499603059488:=()
def tw2647974599491242223:=()
def tw550084989082764506:=()
def tw8049080231745962805:=()
def tw2968231998382503344:=()
def tw6857540907991086701:=()
def tw10026423819291339291:=()
def tw6110217333079259760:=()
def tw5157769118369045342:=()
def tw13393141340678047179:=()
def tw9960328064832765115:=()
def tw14420829541992465747:=()
def tw3152439418887449453:=()
def tw115638714765773775:=()
def tw1308680499488517689:=()
def tw17008967502004964736:=()
def tw4084265262740314766:=()
def tw8772399041763650710:=()
def tw1270840443568406505:=()
def tw6050417073808554912:=()
def tw11966013304542798642:=()
def tw8642934598057610415:=()
def tw1643513285281587189:=()
def tw136489236287796616:=()
def tw8096321132480198780:=()
def tw6651551754748600470:=()
def tw17327720414324395323:=()
def tw16014997925303427888:=()
def tw15788779140395548875:=()
def tw15582029855740926306:=()
def tw11129857269663768348:=()
def tw2716119720475009682:=()
def tw13210414273331354022:=()
def tw10124278685577802025:=()
def tw8549685480626274594:=()
def tw7271475058454055557:=()
def tw14982205995335190835:=()
def tw16721346119131228194:=()
def tw15668008595515007736:=()
def tw9422315815459664580:=()
def tw15455236213558048614:=()
def tw8815122622507819952:=()
def tw3117508876478137264:=()
def tw8392564277013614853:=()
def tw5751914769513766788:=()
def tw2462120862487745492:=()
def tw16548543137597531972:=()
def tw946682392853665355:=()
def tw7906562015324451932:=()
def tw1676442255049059106:=()
def tw10725292403666287225:=()
def tw2360167501971590323:=()
def tw17913710041410491174:=()
def tw2467276842935302810:=()
def tw14432822775327943906:=()
def tw16608603647639673997:=()
def tw13247960958276313812:=()
def tw1311754167510554615:=()
def tw12880807771279982374:=()
def tw9377999814748517510:=()
def tw15223088687554080883:=()
def tw8349963764439807753:=()
def tw16900996605408731062:=()
def tw15179779934994706182:=()
def tw17086749777411666283:=()
def tw6170606238299196668:=()
def tw4614610313283626482:=()
def tw5030572543759383648:=()
def tw14087035544929299505:=()
def tw7798386873623049181:=()
def tw12414989403146760857:=()
def tw10273405694472102385:=()
def tw12497485983734976002:=()
def tw16485698157110794888:=()
def tw2748590069779134761:=()
def tw6152305699871193692:=()
def tw16928205048665480043:=()
def tw713089470892599471:=()
def tw16920931614820636947:=()
def tw10994151038231708658:=()
def tw12486005274800266711:=()
def tw15017197318021719876:=()
def tw1235878051155342340:=()
def tw17939064296017838229:=()
def tw4871374477604675305:=()
def tw3243536001259334166:=()
def tw9830198056541950881:=()
def tw12097924813424369628:=()
def tw16606051783635700289:=()
def tw11012986620612633037:=()
def tw6241074050393057061:=()
def tw1138327469568921951:=()
def tw10548607706297182203:=()
def tw16913721640224823696:=()
def tw13309419116251367629:=()
def tw205125471301385497:=()
def tw157785896010930532:=()
def tw3957871358977918599:=()
def tw3403855568176441689:=()
def tw11366122374472471203:=()
def tw6101333096905110857:=()
def tw16809801755866320399:=()
def tw6301998503823967113:=()
def tw8123002130354167613:=()
def tw347539555066646175:=()
def tw15286960269338324925:=()
def tw1605725654872726686:=()
def tw16715787738279161655:=()
def tw17252700826143646923:=()
def tw13805490411825838916:=()
def tw9693866393718085797:=()
def tw7758868186517381893:=()
def tw7147954171636809583:=()
def tw1763474827640628183:=()
def tw3387941626069560761:=()
def tw2980855476121599575:=()
def tw16660392706152433140:=()
def tw3013672873519936511:=()
def tw16388918760898202212:=()
def tw13503811239728084803:=()
def tw7460502772249654650:=()
def tw13284698115824850596:=()
def tw6333657625644751418:=()
def tw3313837296013981171:=()
def tw18057512969249079717:=()
def tw6252666153964020004:=()
def tw13965737919309415609:=()
def tw6763080217354855774:=()
def tw1565803613771218306:=()
def tw16921042499136635113:=()
def tw2864773191201178660:=()
def tw11945060749220348633:=()
def tw17732632567627540321:=()
def tw6020087704945500844:=()
def tw7071909284388603522:=()
def tw2242404455178983450:=()
def tw7119436419732998731:=()
def tw17042516782098275420:=()
def tw1101169820141727781:=()
def tw17302097407845662970:=()
def tw10915522515346631426:=()
def tw7043285171191815281:=()
def tw8087072385972198491:=()
def tw13354935770338203680:=()
def tw4047888618158323253:=()
def tw13444332148476910861:=()
def tw9272509413132241980:=()
def tw40349105225536780:=()
def tw12199602939162329236:=()
def tw5442148296085756726:=()
def tw2467179664776168907:=()
def tw5038019590629574911:=()
def tw12946618987455880509:=()
def tw1021070594610328806:=()
def tw4773955565818201953:=()
def tw7415367192305859919:=()
def tw15698781840136553751:=()
def tw16802649031925366568:=()
def tw12926116500300494179:=()
def tw5794648846335614501:=()
def tw4356841490999326585:=()
def tw2563398215223907607:=()
def tw7570651135060035221:=()
def tw5890889602348578421:=()
def tw10273039668911471543:=()
def tw15604681628512199250:=()
def tw2044967427264855956:=()
def tw4214012368692731536:=()
def tw17703563279469939273:=()
def tw10069621161050991098:=()
def tw10008381754347967435:=()
def tw6391791652034587273:=()
def tw3724161277279951039:=()
def tw16541754290780716644:=()
def tw1174264688550143445:=()
def tw16485076999980548317:=()
def tw5871481192939457681:=()
def tw17118005952347501918:=()
def tw5423256585241247954:=()
def tw7196029133137102522:=()
def tw17518847712560554016:=()
def tw15459281196420866579:=()
def tw10022239576456642927:=()
def tw14172857866245373744:=()
def tw18408510577594338023:=()
def tw9401774510170991462:=()
def tw14239907957685555350:=()
def tw15575678165076586710:=()
def tw1408332909901407980:=()
def tw9749408462699406480:=()
def tw9392778475473544185:=()
def tw13431706194750063228:=()
def tw17685475397979657553:=()
def tw11618923277820972092:=()
def tw3662784638872710424:=()
def tw9825911890031506060:=()
def tw18145661379360642762:=()
def tw5856706992134223833:=()
def tw6400986030507270071:=()
def tw637430490068767628:=()
def tw12299042015565826420:=()
def tw4539607372360624689:=()
def tw16159077650640716968:=()
def tw16077686074996816416:=()
def tw3411688692105910557:=()
def tw15712447277056270602:=()
def tw4436801173806961295:=()
def tw10399941349458197051:=()
def tw9064748875169360497:=()
def tw11366459185854554186:=()
def tw10957809096405598260:=()
def tw4054636199138454011:=()
def tw11660665049763828412:=()
def tw1802657405894629006:=()
def tw10227465158478794985:=()
def tw16476540677050291517:=()
def tw7596991451094533115:=()
def tw12364082009167402727:=()
def tw17747556826182182081:=()
def tw11753686027807265002:=()
def tw12742086748140394857:=()
def tw8011948625876230866:=()
def tw2828894346891862053:=()
def tw3281951181231299038:=()
def tw9723859944999750067:=()
def tw13126378816233395283:=()
def tw9164950167722225723:=()
def tw10473567205682104293:=()
def tw2137570811256914650:=()
def tw5214640149500311627:=()
def tw8812702755773364007:=()
def tw6485554994067176932:=()
def tw15733264397514261716:=()
def tw7391667070540124060:=()
def tw18195284209653629809:=()
def tw12938398114641551372:=()
def tw9596630620038349419:=()
def tw12034222866615502365:=()
def tw16443479408614464204:=()
def tw468883192219104238:=()
def tw6725470936649801614:=()
def tw8841888055625905445:=()
def tw7907838964545633735:=()
def tw11562400083131995989:=()
def tw16083756899052420776:=()
def tw11072099965267926939:=()
def tw12737450623793704756:=()
end PySem.W.Fast
open PySem PySem.W PyProof.Rows
set_option maxRecDepth 100000 in
set_option maxHeartbeats 0 in
theorem PySem.Challenge.cw_pricecover_k52_cheapest_holds : PySem.Challenge.rw_pricecover_k52_cheapest.Holds := by
 w_on;o_law;k_head;(case hw=>w_witness2)
 k_fill
 refine K52.walk (l:=PySem.Challenge.rw_pricecover_k52_cheapest) rfl rfl (fun w h Y=>PySem.W.kIn_of Y) ?F
 case F=>
  intro w mg fa h KX G hmg
  refine' K52.all_mk KX G hmg ?a0 ?l0 ?c0 ?k0 ?a1 ?l1 ?c1 ?k1 ?a2 ?l2 ?c2 ?k2 ?a3 ?l3 ?c3 ?k3 ?a4 ?l4 ?c4 ?k4 ?a5 ?l5 ?c5 ?k5 ?a6 ?l6 ?c6 ?k6 ?a7 ?l7 ?c7 ?k7 ?a8 ?l8 ?c8 ?k8 ?a9 ?l9 ?c9 ?k9 ?a10 ?l10 ?c10 ?k10 ?a11 ?l11 ?c11 ?k11 ?a12 ?l12 ?c12 ?k12 ?a13 ?l13 ?c13 ?k13 ?a14 ?l14 ?c14 ?k14 ?a15 ?l15 ?c15 ?k15 ?a16 ?l16 ?c16 ?k16 ?a17 ?l17 ?c17 ?k17 ?a18 ?l18 ?c18 ?k18 ?a19 ?l19 ?c19 ?k19 ?a20 ?l20 ?c20 ?k20 ?a21 ?l21 ?c21 ?k21 ?a22 ?l22 ?c22 ?k22 ?a23 ?l23 ?c23 ?k23 ?a24 ?l24 ?c24 ?k24 ?a25 ?l25 ?c25 ?k25 ?a26 ?l26 ?c26 ?k26 ?a27 ?l27 ?c27 ?k27 ?a28 ?l28 ?c28 ?k28 ?a29 ?l29 ?c29 ?k29 ?a30 ?l30 ?c30 ?k30 ?a31 ?l31 ?c31 ?k31 ?a32 ?l32 ?c32 ?k32 ?a33 ?l33 ?c33 ?k33 ?z0 ?z1 ?z2 ?z3 ?z4 ?z5 ?z6 ?z7 ?z8 ?z9 ?z10 ?z11 ?z12 ?z13 ?y0 ?x0 ?hh0x0 ?hh0x1 ?hh0x2 ?hh0x3 ?ha0 ?cn0 ?cl0 ?ck0 ?cs0 ?cg0 ?ch0 ?cc0 ?cn1 ?cl1 ?ck1 ?cs1 ?cg1 ?ch1 ?cc1 ?cn2 ?cl2 ?ck2 ?cs2 ?cg2 ?ch2 ?cc2 ?cn3 ?cl3 ?ck3 ?cs3 ?cg3 ?ch3 ?cc3 ?cn4 ?cl4 ?ck4 ?cs4 ?cg4 ?ch4 ?cc4 ?cn5 ?cl5 ?ck5 ?cs5 ?cg5 ?ch5 ?cc5 ?cn6 ?cl6 ?ck6 ?cs6 ?cg6 ?ch6 ?cc6 ?cn7 ?cl7 ?ck7 ?cs7 ?cg7 ?ch7 ?cc7 ?cn8 ?cl8 ?ck8 ?cs8 ?cg8 ?ch8 ?cc8 ?cn9 ?cl9 ?ck9 ?cs9 ?cg9 ?ch9 ?cc9 ?cn10 ?cl10 ?ck10 ?cs10 ?cg10 ?ch10 ?cc10 ?cn11 ?cl11 ?ck11 ?cs11 ?cg11 ?ch11 ?cc11 ?crd ?cty ?cfi ?ndup ?ip3 ?ip4
  (case a0=>k_is)
  (case l0=>k_is)
  (case c0=>k_is)
  (case k0=>k_is)
  (case a1=>k_is)
  (case l1=>k_is)
  (case c1=>k_is)
  (case k1=>k_is)
  (case a2=>k_is)
  (case l2=>k_is)
  (case c2=>k_is)
  (case k2=>k_is)
  (case a3=>k_is)
  (case l3=>k_is)
  (case c3=>k_is)
  (case k3=>k_is)
  (case a4=>k_is)
  (case l4=>k_is)
  (case c4=>k_is)
  (case k4=>k_is)
  (case a5=>k_is)
  (case l5=>k_is)
  (case c5=>k_is)
  (case k5=>k_is)
  (case a6=>k_is)
  (case l6=>k_is)
  (case c6=>k_is)
  (case k6=>k_is)
  (case a7=>k_is)
  (case l7=>k_is)
  (case c7=>k_is)
  (case k7=>k_is)
  (case a8=>k_is)
  (case l8=>k_is)
  (case c8=>k_is)
  (case k8=>k_is)
  (case a9=>k_is)
  (case l9=>k_is)
  (case c9=>k_is)
  (case k9=>k_is)
  (case a10=>k_is)
  (case l10=>k_is)
  (case c10=>k_is)
  (case k10=>k_is)
  (case a11=>k_is)
  (case l11=>k_is)
  (case c11=>k_is)
  (case k11=>k_is)
  (case a12=>k_is)
  (case l12=>k_is)
  (case c12=>k_is)
  (case k12=>k_is)
  (case a13=>k_is)
  (case l13=>k_is)
  (case c13=>k_is)
  (case k13=>k_is)
  (case a14=>k_is)
  (case l14=>k_is)
  (case c14=>k_is)
  (case k14=>k_is)
  (case a15=>k_is)
  (case l15=>k_is)
  (case c15=>k_is)
  (case k15=>k_is)
  (case a16=>k_is)
  (case l16=>k_is)
  (case c16=>k_is)
  (case k16=>k_is)
  (case a17=>k_is)
  (case l17=>k_is)
  (case c17=>k_is)
  (case k17=>k_is)
  (case a18=>k_is)
  (case l18=>k_is)
  (case c18=>k_is)
  (case k18=>k_is)
  (case a19=>k_is)
  (case l19=>k_is)
  (case c19=>k_is)
  (case k19=>k_is)
  (case a20=>k_is)
  (case l20=>k_is)
  (case c20=>k_is)
  (case k20=>k_is)
  (case a21=>k_is)
  (case l21=>k_is)
  (case c21=>k_is)
  (case k21=>k_is)
  (case a22=>k_is)
  (case l22=>k_is)
  (case c22=>k_is)
  (case k22=>k_is)
  (case a23=>k_is)
  (case l23=>k_is)
  (case c23=>k_is)
  (case k23=>k_is)
  (case a24=>k_is)
  (case l24=>k_is)
  (case c24=>k_is)
  (case k24=>k_is)
  (case a25=>k_is)
  (case l25=>k_is)
  (case c25=>k_is)
  (case k25=>k_is)
  (case a26=>k_is)
  (case l26=>k_is)
  (case c26=>k_is)
  (case k26=>k_is)
  (case a27=>k_is)
  (case l27=>k_is)
  (case c27=>k_is)
  (case k27=>k_is)
  (case a28=>k_is)
  (case l28=>k_is)
  (case c28=>k_is)
  (case k28=>k_is)
  (case a29=>k_is)
  (case l29=>k_is)
  (case c29=>k_is)
  (case k29=>k_is)
  (case a30=>k_is)
  (case l30=>k_is)
  (case c30=>k_is)
  (case k30=>k_is)
  (case a31=>k_is)
  (case l31=>k_is)
  (case c31=>k_is)
  (case k31=>k_is)
  (case a32=>k_is)
  (case l32=>k_is)
  (case c32=>k_is)
  (case k32=>k_is)
  (case a33=>k_is)
  (case l33=>k_is)
  (case c33=>k_is)
  (case k33=>k_is)
  (case z0=>k_is)
  (case z1=>k_is)
  (case z2=>k_is)
  (case z3=>k_is)
  (case z4=>k_is)
  (case z5=>k_is)
  (case z6=>k_is)
  (case z7=>k_is)
  (case z8=>k_is)
  (case z9=>k_is)
  (case z10=>k_is)
  (case z11=>k_is)
  (case z12=>k_is)
  (case z13=>k_is)
  (case y0=>k_is)
  (case x0=>k_is)
  (case hh0x0=>first | rfl | k_is)
  (case hh0x1=>first | rfl | k_is)
  (case hh0x2=>first | rfl | k_is)
  (case hh0x3=>first | rfl | k_is)
  (case ha0=>first | rfl | decide | k_is)
  (case cn0=>k_is)
  (case cl0=>k_is)
  (case ck0=>k_is)
  (case cs0=>k_is)
  (case cg0=>k_is)
  (case ch0=>k_is)
  (case cc0=>k_is)
  (case cn1=>k_is)
  (case cl1=>k_is)
  (case ck1=>k_is)
  (case cs1=>k_is)
  (case cg1=>k_is)
  (case ch1=>k_is)
  (case cc1=>k_is)
  (case cn2=>k_is)
  (case cl2=>k_is)
  (case ck2=>k_is)
  (case cs2=>k_is)
  (case cg2=>k_is)
  (case ch2=>k_is)
  (case cc2=>k_is)
  (case cn3=>k_is)
  (case cl3=>k_is)
  (case ck3=>k_is)
  (case cs3=>k_is)
  (case cg3=>k_is)
  (case ch3=>k_is)
  (case cc3=>k_is)
  (case cn4=>k_is)
  (case cl4=>k_is)
  (case ck4=>k_is)
  (case cs4=>k_is)
  (case cg4=>k_is)
  (case ch4=>k_is)
  (case cc4=>k_is)
  (case cn5=>k_is)
  (case cl5=>k_is)
  (case ck5=>k_is)
  (case cs5=>k_is)
  (case cg5=>k_is)
  (case ch5=>k_is)
  (case cc5=>k_is)
  (case cn6=>k_is)
  (case cl6=>k_is)
  (case ck6=>k_is)
  (case cs6=>k_is)
  (case cg6=>k_is)
  (case ch6=>k_is)
  (case cc6=>k_is)
  (case cn7=>k_is)
  (case cl7=>k_is)
  (case ck7=>k_is)
  (case cs7=>k_is)
  (case cg7=>k_is)
  (case ch7=>k_is)
  (case cc7=>k_is)
  (case cn8=>k_is)
  (case cl8=>k_is)
  (case ck8=>k_is)
  (case cs8=>k_is)
  (case cg8=>k_is)
  (case ch8=>k_is)
  (case cc8=>k_is)
  (case cn9=>k_is)
  (case cl9=>k_is)
  (case ck9=>k_is)
  (case cs9=>k_is)
  (case cg9=>k_is)
  (case ch9=>k_is)
  (case cc9=>k_is)
  (case cn10=>k_is)
  (case cl10=>k_is)
  (case ck10=>k_is)
  (case cs10=>k_is)
  (case cg10=>k_is)
  (case ch10=>k_is)
  (case cc10=>k_is)
  (case cn11=>k_is)
  (case cl11=>k_is)
  (case ck11=>k_is)
  (case cs11=>k_is)
  (case cg11=>k_is)
  (case ch11=>k_is)
  (case cc11=>k_is)
  (case crd=>k_is)
  (case cty=>k_is)
  (case cfi=>k_is)
  (case ndup=>decide)
  (case ip3=>k_is)
  (case ip4=>k_is)
#print axioms PySem.Challenge.cw_pricecover_k52_cheapest_holds
