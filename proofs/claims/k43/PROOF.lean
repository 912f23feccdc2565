import PyProof.Rows.All
import Wide.All
import OpenK.AllK
import Wide.FinOn
import Lean
import PyProof.EqAt
import PyProof.EqKinds
import PyProof.TupleCall
import KE.KSortTup
import PyProof.EnumMake
import PyProof.EnumStmt
import PyProof.ListRange
import PyProof.Rows.SortPure
import PyProof.Rows.SortRuns
import KE.KDictList
import KE.KRevIter
import PyProof.DictItems
import PyProof.ZipIter
import PyProof.DictUpdate
import PyProof.TupleIter
import PyProof.ListNew
import PyProof.Rows.ZipGen
import PyProof.AttrMiss
import PyProof.FactsAll.dict_1
import PyProof.AttrMissHeap
import KE.KDictOf
import PyProof.Rows.SetFrom
import PyProof.Rows.Range3
import PyProof.DictIter
import PyProof.Rows.TupDisplay
import PyProof.Draws
import PyProof.Rows.CallKwBuiltin
import PySem.Challenge.RW_pricecover_k43_is_table
set_option Elab.async false
set_option bootstrap.genMatcherCode false
set_option linter.all false
set_option maxRecDepth 100000
set_option maxHeartbeats 4000000
open List renaming getElem?_eq_getElem → aa0,length_map → aa1,length_append → aa2,getD_eq_getElem?_getD → aa4,size_toArray → aa5,getElem?_map → aa7,length_singleton → aa9,map_append → aaa,getElem?_append_right → aac,not_mem_nil → aad,getElem?_append_left → aae,length_drop → aah,mem_cons_of_mem → aaj,mem_of_getElem? → aak,length_cons → aal,mem_cons_self → aan,replicate → aap,mem_cons → aaq,range → aat,filter_cons → aau,drop_eq_getElem_cons → aav,length_take → aaw,append_assoc → aax,map_cons → ab0,append_nil → ab1,getElem_mem → ab3,mem_append_right → ab8,pairwise_append → ab9,take_append_drop → aba,replicate_succ → abb,zip → abc,length_range → abd,filter_append → abe,length_filter_le → abf,getElem?_eq_none → abg,take_add_one → abh,length_replicate → abi,mem_of_mem_take → abk,take_of_length_le → abu,filterMap_cons → abv,take_length → abx,length_filterMap_le → aby,length → ac0,Nodup → ac2,count_append → ac3,map_map → ac5,mem_of_mem_drop → ac7,flatten_cons → ac9,ext_getElem? → acd,count_replicate_self → ace,drop_drop → acg,drop_length → ach,length_reverse → aci,map_drop → acj,find?_cons → acm,length_nil → acn,getElem?_drop → acp,nodup_nil → acv,perm_append_comm → acz,count_replicate → ad1,count_singleton → ad2,getElem_of_mem → ad4,nil_append → ad5,getElem?_take_of_lt → ad7,getElem?_cons_succ → ada,drop_of_length_le → ade,drop_eq_nil_of_le → adg,any_cons → adh,map → adi,filterMap_append → adj,mem_append_left → adk,of_mem_zip → adl,forIn_cons → adm,toArray → adn,length_zip → ado,map_congr_left → adp,getElem?_range → adq,forIn_nil → adt,take_sublist → adw,getElem_drop → adz,getElem_take → ae0,map_nil → ae3,lookup_cons → ae4,ext_getElem → ae6,getElem_map → ae7,getElem?_replicate → ae8,length_set → ae9,range_succ → aeb,getElem?_set_self → aec,countP_mono_left → aee,set_append_right → aef,getElem?_toArray → aeg,getElem?_set_ne → aei,length_dropLast → aej,dropLast_concat → aek,getLast?_concat → ael,reverse_reverse → aem,getElem?_append → aen,map_take → aeo,flatMap_append → aep,filter_sublist → aeq,reverse_append → aer,zip_cons_cons → aev,getElem?_tail → aew,getElem?_take → aex,getElem_range → aey,map_filterMap → aez,getElem?_inj → af2,reverse_cons → af3,getElem_inj → af4,cons_append → af6,all_eq_true → af7,countP_cons → af8,append_inj' → af9,zipIdx_cons → afa,getElem_zip → afb,mem_flatMap → afc,foldl → afd,foldl_cons → afe,zipIdx_nil → afg
open Option.some renaming inj → aa3,injEq → ae1
open Nat renaming le_refl → aa6,zero_le → aa8,ne_of_lt → aaf,lt_of_succ_lt → aai,lt_of_lt_of_le → aam,le_trans → aay,le_add_right → ab2,lt_irrefl → abj,ne_of_gt → abq,eq_zero_or_pos → abr,zero_add → abt,le_of_lt → ac4,not_lt_zero → acb,le_succ_of_le → acu,sub_zero → acw,sub_self → acx,add_lt_add_left → ad3,lt_of_le_of_lt → ad8,add_sub_cancel → adu,lt_succ_of_lt → ady,min_self → ae5,add_comm → aes,succ_pos → aet,le_of_not_lt → af5,min_eq_left → aff
open Bool renaming false_ne_true → aab,false_eq_true → aaz,eq_iff_iff → ack,and_eq_true → ad0,or_eq_true → aea,and_false → aed,not_eq_true' → af1
open Array renaming length_toList → aag,getElem?_toList → aao,toList_append → ab4,getElem?_eq_getElem → abn,toList_reverse → acf,size_setIfInBounds → ad9,toList_push → adb,getElem?_eq_none → adf,size_extract → adv,forIn_toList → aeu
open Int renaming emod_nonneg → aar,toNat → ab6,le_of_lt → abl,emod_lt_of_pos → abm,le_trans → abz,le_refl → ac1,toNat_natCast → ac8
open And renaming intro → aas
open Or renaming inl → ab5,inr → ab7
open Iff renaming rfl → abo
open List.cons renaming inj → abp,injEq → ac6
open Option renaming map_some → abw,isSome_some → aca,isSome_none → aco,isSome_map → adx,getD_none → ae2
open Prod.mk renaming inj → acq
open List.Perm renaming append_right → acr,append_left → acy,trans → ad6,refl → ads
open List.Pairwise renaming nil → acs
open Classical renaming choose_spec → aeh
open Exists renaming intro → af0
open Array.Perm renaming refl → afh
local macro_rules | `(tactic| omega)=>`(tactic| first | lia | omega +splitNatSub)
namespace L2
open PySem PySem.Spec PyProof.Rows
abbrev Key:=Sum Int Str
noncomputable def ye:Key→Value→Bool
 | .inl k,v=>Value.isInt k v
 | .inr x,v=>Value.isStrOf x v
noncomputable def keyH (w:World):Key→Int
 | .inl k=>hashInt k
 | .inr x=>hashStr w x
theorem ck:∀{k:Key} {v:Value},ye k v=true→(∃i t,k=Sum.inl i∧v=Value.int i t)∨(∃x t,k=Sum.inr x∧v=Value.str x t)
 | .inl i,v,h=>by
  obtain ⟨t,e⟩:=Value.isInt_shape (k:=i) (v:=v) h;exact .inl ⟨i,t,rfl,e⟩
 | .inr x,v,h=>by
  obtain ⟨t,e⟩:=Value.isStrOf_shape (x:=x) (v:=v) h;exact .inr ⟨x,t,rfl,e⟩
theorem Iu (i:Int) (t:Tok):ye (.inl i) (.int i t)=true:=by simp[ye,Value.isInt]
theorem Jd (x:Str) (t:Tok):ye (.inr x) (.str x t)=true:=by simp[ye,Value.isStrOf]
theorem key_ll (a b:Int):decide ((Sum.inl a:Key)=Sum.inl b)=(a==b):=by
 by_cases e:a=b
 ·subst e;simp
 ·have h:¬(Sum.inl a:Key)=Sum.inl b:=λq=>e (Sum.inl.inj q);rw[decide_eq_false h];exact (beq_eq_false_iff_ne.mpr e).symm
theorem key_rr (a b:Str):decide ((Sum.inr a:Key)=Sum.inr b)=decide (a=b):=by
 by_cases e:a=b
 ·subst e;simp
 ·have h:¬(Sum.inr a:Key)=Sum.inr b:=λq=>e (Sum.inr.inj q);rw[decide_eq_false h,decide_eq_false e]
theorem key_lr (a:Int) (b:Str):decide ((Sum.inl a:Key)=Sum.inr b)=false:=decide_eq_false (λq=>nomatch q)
theorem key_rl (a:Str) (b:Int):decide ((Sum.inr a:Key)=Sum.inl b)=false:=decide_eq_false (λq=>nomatch q)
noncomputable def bj (prog:Program) (w:World):PySem.KeyKind prog w Key where
 is:=ye
 hash:=keyH w
 inj:=λv a b ha hb=>by
  rcases ck ha with ⟨i,t,rfl,rfl⟩ | ⟨x,t,rfl,rfl⟩
  ·rcases ck hb with ⟨j,u,rfl,e⟩ | ⟨y,u,rfl,e⟩
   ·injection e with e1 _;rw[e1]
   ·exact nomatch e
  ·rcases ck hb with ⟨j,u,rfl,e⟩ | ⟨y,u,rfl,e⟩
   ·exact nomatch e
   ·injection e with e1 _;rw[e1]
 byValue:=λk v h=>by
  rcases ck h with ⟨i,t,rfl,rfl⟩ | ⟨x,t,rfl,rfl⟩ <;> rfl
 pyHash:=λhv h=>by
  rcases ck hv with ⟨i,t,rfl,rfl⟩ | ⟨x,t,rfl,rfl⟩
  ·exact wpAny_pyHash_int h
  ·exact wpAny_pyHash_str h
 eqBool:=λhu hv h=>by
  rcases ck hu with ⟨i,t,rfl,rfl⟩ | ⟨x,t,rfl,rfl⟩
  ·rcases ck hv with ⟨j,u,rfl,rfl⟩ | ⟨y,u,rfl,rfl⟩
   ·rw[key_ll] at h;exact wpAny_eqBool_int h
   ·rw[key_lr] at h;exact SeqAt.EqAt.int_str i t y u _ _ _ _ h
  ·rcases ck hv with ⟨j,u,rfl,rfl⟩ | ⟨y,u,rfl,rfl⟩
   ·rw[key_rl] at h;exact SeqAt.EqAt.str_int x t j u _ _ _ _ h
   ·rw[key_rr] at h;exact wpAny_eqBool_str h
 «strs»:=λk x t v h=>by
  rcases ck h with ⟨i,u,rfl,e⟩ | ⟨y,u,rfl,e⟩
  ·exact nomatch e
  ·injection e with e1 _
   subst e1;cases v <;> rfl
theorem Aw (prog:Program) (w:World) (i:Int) (t:Tok):(bj prog w).is (.inl i) (.int i t)=true:=Iu i t
theorem kc (prog:Program) (w:World) (x:Str) (t:Tok):(bj prog w).is (.inr x) (.str x t)=true:=Jd x t
end L2
namespace L2
open PySem PySem.Spec PyProof.Rows
inductive V where
 | non | bl (b:Bool) | int (i:Int) | str (x:Str) | byt (b:Array UInt8) | flt (b:UInt64) | ref (a:Addr) | ty (n:String)
 deriving DecidableEq
def RelV:V→Value→Prop
 | .non,u=>u=Value.none
 | .bl b,u=>u=Value.bool b
 | .int i,u=>∃t,u=Value.int i t
 | .str x,u=>∃t,u=Value.str x t
 | .byt b,u=>∃t,u=Value.bytes b t
 | .flt b,u=>∃t,u=Value.float b t
 | .ref a,u=>u=Value.ref a
 | .ty n,u=>u=Value.type n
abbrev Vals:List V→List Value→Prop:=Paired RelV
theorem Vals.length {xs:List V} {us:List Value} (r:Vals xs us):xs.length=us.length:=Paired.length r
theorem Vals.get:∀{xs:List V} {us:List Value} {i:Nat} {x:V},Vals xs us→xs[i]?=some x→∃u,us[i]?=some u∧RelV x u
 | _,_,_,_,.nil,e=>by simp at e
 | _,_,0,_,.cons r _,e=>by simp at e;subst e;exact ⟨_,rfl,r⟩
 | _,_,i+1,x,.cons _ t,e=>by
  obtain ⟨u,h1,h2⟩:=Vals.get (i:=i) (x:=x) t (by simpa using e);exact ⟨u,by simpa using h1,h2⟩
theorem Vals.set {x:V} {u:Value} (r:RelV x u):∀{xs:List V} {us:List Value} (i:Nat),Vals xs us→Vals (xs.set i x) (us.set i u)
 | _,_,_,.nil=>.nil
 | _,_,0,.cons _ t=>.cons r t
 | _,_,i+1,.cons q t=>.cons q (Vals.set r i t)
theorem Vals.append:∀{xs ys:List V} {us ws:List Value},Vals xs us→Vals ys ws→Vals (xs++ys) (us++ws)
 | _,_,_,_,.nil,s=>s
 | _,_,_,_,.cons r t,s=>.cons r (Vals.append t s)
theorem Vals.take:∀{xs:List V} {us:List Value} (n:Nat),Vals xs us→Vals (xs.take n) (us.take n)
 | _,_,0,_=>.nil
 | _,_,_+1,.nil=>.nil
 | _,_,n+1,.cons r t=>.cons r (Vals.take n t)
theorem Vals.drop:∀{xs:List V} {us:List Value} (n:Nat),Vals xs us→Vals (xs.drop n) (us.drop n)
 | _,_,0,r=>r
 | _,_,_+1,.nil=>.nil
 | _,_,n+1,.cons _ t=>Vals.drop n t
def m5:Option V→Option Value→Prop
 | some v,some u=>RelV v u
 | none,none=>True
 | _,_=>False
def KV {κ:Type}:List (κ×V)→List (κ×Value)→Prop:=Paired λ(p:κ×V) (q:κ×Value)=>p.1=q.1∧RelV p.2 q.2
noncomputable def kV:Key→V
 | .inl i=>.int i
 | .inr x=>.str x
inductive HO where
  | lst (xs:List V)
  | tup (xs:List V)
  | dK (kvs:List (Key×V)) | dT (kvs:List (List Key×V))
  | set (S:Int→Bool) (n:Nat)
  | ins (C dx:Addr) (fs:List (Str×V))
  | own (x:Addr)
  | xd (fs:List (Str×V))
  | met (f x:Addr)
  | rng (lo hi:Int)
  | frz (o:Obj) (u:HO)
  | tbl (ps:Array Value)
  | ext (φ:Heap→Prop)
abbrev Hp:=Addr→Option HO
noncomputable def upd (H:Hp) (a:Addr) (o:HO):Hp:=λb=>if b=a then some o else H b
theorem ae {H:Hp} {a:Addr} {o:HO}:upd H a o a=some o:=by unfold upd;rw[if_pos rfl]
theorem af {H:Hp} {a b:Addr} {o:HO} (h:b≠a):upd H a o b=H b:=by unfold upd;rw[if_neg h]
theorem df {H:Hp} {a b:Addr} {o u:HO} (h:H a=some o) (h':H b=some u) (d:o≠u):a≠b:=by
 intro e;subst e;rw[h] at h';exact d (aa3 h')
theorem ag {H:Hp} {a b:Addr} {o:HO} (h:H a=some o) (h':H b=none):a≠b:=by
 intro e;subst e;rw[h] at h';cases h'
section
variable (P:Program) (w:World)
def Dc (h:Heap) (a:Addr) (its:Array Value):Prop:=∃o,h.get? a=some o∧o.cls=.type "tuple"∧∃n,o.data=.seq its n∧o.dict=none
theorem Dc.tup {h:Heap} {a:Addr} {its:Array Value} (x:Dc h a its):IsTup h a its:=let ⟨o,h1,h2,n,h3,_⟩:=x;⟨o,h1,h2,n,h3⟩
def br (H:Hp) (h:Heap) (a:Addr):HO→Prop
 | .lst xs=>xs.length≤sizeLine∧∃(its:List Value) (n:Nat),Vals xs its∧h.get? a=some { cls:=.type "list",data:=.seq its.toArray n }
 | .tup xs=>xs.length≤sizeLine∧∃its:List Value,Vals xs its∧Dc h a its.toArray
 | .dK kvs=>kvs.length≤sizeLine∧(a==sysModules)=false∧∃vs,KV kvs vs∧h.DictOf (bj P w) a vs
 | .dT kvs=>kvs.length≤sizeLine∧(a==sysModules)=false∧∃xs:List (List Key×Addr×Value),
   Paired (λ(p:List Key×V) (q:List Key×Addr×Value)=>p.1=q.1∧H q.2.1=some (.tup (p.1.map kV))∧RelV p.2 q.2.2) kvs xs∧
   ∃o es ep,h.get? a=some o∧o.ExactDict∧o.data=.dict es ep∧es.toList=xs.map (entryOfKey (tupleKind (bj P w)))∧(xs.map (·.1)).Nodup
 | .set S n=>h.SetOf (intKind P w) a S n
 | .ins C dx fs=>H dx=some (.own a)∧fs.length≤1000∧dx≠a∧h.get? a=some (PySem.W.instObj C dx)∧
   ∃mA,h.Ns1 dx mA∧(∀f,m5 (fs.lookup f) (mA f))∧PySem.Within mA (fs.map (·.1))
 | .own _=>∃o,h.get? a=some o
 | .xd fs=>∃mA,h.Ns1 a mA∧∀f,m5 (fs.lookup f) (mA f)
 | .rng lo hi=>∃t u v,h.get? a=some { cls:=.type "range",data:=.fields #[.int lo t,.int hi u,.int 1 v] }
 | .frz o u=>h.get? a=some o∧br H h a u
 | .tbl ps=>h.get? a=some { cls:=.none,data:=.fields ps }
 | .met f x=>h.get? a=some (PySem.W.methodObj (.ref f) (.ref x))
 | .ext φ=>φ h∧(∃o,h.get? a=some o)∧∀h1 h2:Heap,φ h1→(∀o,h1.get? a=some o→h2.get? a=some o)→φ h2
def HOk (H:Hp) (h:Heap):Prop:=∀a o,H a=some o→br P w H h a o
end
section
variable {P:Program} {w:World} {H H':Hp} {h h':Heap} {a:Addr} {o:HO}
theorem br.lt (x:br P w H h a o):a < h.objs.size:=by
 cases o with
 | lst xs=>obtain ⟨_,_,_,_,e⟩:=x;exact Heap.lt_size e
 | tup xs=>obtain ⟨_,_,_,p⟩:=x;exact p.tup.lt
 | dK kvs=>obtain ⟨_,_,_,_,o,_,_,e,_⟩:=x;exact Heap.lt_size e
 | dT kvs=>obtain ⟨_,_,_,_,o,_,_,e,_⟩:=x;exact Heap.lt_size e
 | set S n=>obtain ⟨o,_,_,_,e,_⟩:=x;exact Heap.lt_size e
 | ins C dx fs=>obtain ⟨_,_,_,e,_⟩:=x;exact Heap.lt_size e
 | own y=>obtain ⟨_,e⟩:=x;exact Heap.lt_size e
 | xd fs=>obtain ⟨_,⟨_,_,_,e,_⟩,_⟩:=x;exact Heap.lt_size e
 | rng lo hi=>obtain ⟨_,_,_,e⟩:=x;exact Heap.lt_size e
 | frz ob u=>obtain ⟨e,_⟩:=x;exact Heap.lt_size e
 | tbl ps=>exact Heap.lt_size (show h.get? a=some _ from x)
 | met f y=>exact Heap.lt_size (show h.get? a=some _ from x)
 | ext φ=>obtain ⟨_,⟨_,e⟩,_⟩:=x;exact Heap.lt_size e
theorem Paired.mapP {α β:Type} {F G:α→β→Prop}:∀{l₁:List α} {l₂:List β},Paired F l₁ l₂→(∀a b,F a b→G a b)→Paired G l₁ l₂
 | _,_,.nil,_=>.nil
 | _,_,.cons r t,f=>.cons (f _ _ r) (Paired.mapP t f)
theorem br.xn (x:br P w H h a o) (k:∀b u,(b=a∨H b=some (.own a))→h.get? b=some u→h'.get? b=some u)
  (ho:∀b,H b=some (.own a)→H' b=some (.own a)) (ht:∀b xs,H b=some (.tup xs)→H' b=some (.tup xs)):br P w H' h' a o:=by
 induction o with
 | lst xs=>obtain ⟨z,its,n,r,e⟩:=x;exact ⟨z,its,n,r,k _ _ (.inl rfl) e⟩
 | tup xs=>obtain ⟨z,its,r,ob,e,c⟩:=x;exact ⟨z,its,r,ob,k _ _ (.inl rfl) e,c⟩
 | dK kvs=>obtain ⟨z,y,vs,r,ob,es,ep,e,c⟩:=x;exact ⟨z,y,vs,r,ob,es,ep,k _ _ (.inl rfl) e,c⟩
 | dT kvs=>
  obtain ⟨z,y,xs,r,ob,es,ep,e,c⟩:=x;exact ⟨z,y,xs,Paired.mapP r λp q z=>⟨z.1,ht _ _ z.2.1,z.2.2⟩,ob,es,ep,k _ _ (.inl rfl) e,c⟩
 | set S n=>obtain ⟨ob,es,ep,t,e,c⟩:=x;exact ⟨ob,es,ep,t,k _ _ (.inl rfl) e,c⟩
 | ins C dx fs=>
  obtain ⟨d,z,ne,e,mA,⟨od,es,ep,e2,c⟩,r⟩:=x;exact ⟨ho _ d,z,ne,k _ _ (.inl rfl) e,mA,⟨od,es,ep,k _ _ (.inr d) e2,c⟩,r⟩
 | own y=>obtain ⟨ob,e⟩:=x;exact ⟨ob,k _ _ (.inl rfl) e⟩
 | xd fs=>obtain ⟨mA,⟨od,es,ep,e,c⟩,r⟩:=x;exact ⟨mA,⟨od,es,ep,k _ _ (.inl rfl) e,c⟩,r⟩
 | rng lo hi=>obtain ⟨t,u,v,e⟩:=x;exact ⟨t,u,v,k _ _ (.inl rfl) e⟩
 | frz ob u ih=>obtain ⟨e,q⟩:=x;exact ⟨k _ _ (.inl rfl) e,ih q⟩
 | tbl ps=>
  have e:h.get? a=some { cls:=.none,data:=.fields ps }:=x;show h'.get? a=some { cls:=.none,data:=.fields ps }
  exact k a _ (.inl rfl) e
 | met f y=>
  have e:h.get? a=some (PySem.W.methodObj (.ref f) (.ref y)):=x;show h'.get? a=some (PySem.W.methodObj (.ref f) (.ref y))
  exact k a _ (.inl rfl) e
 | ext φ=>obtain ⟨p,⟨o,e⟩,st⟩:=x;exact ⟨st _ _ p λo q=>k _ _ (.inl rfl) q,⟨o,k _ _ (.inl rfl) e⟩,st⟩
theorem HOk.lt (x:HOk P w H h) (e:H a=some o):a < h.objs.size:=(x a o e).lt
theorem vz {xs:List V} (x:HOk P w H h) (e:H a=some (.tup xs)):xs.length≤sizeLine∧∃its:List Value,Vals xs its∧IsTup h a its.toArray:=
 let ⟨z,its,r,p⟩:=x a _ e
 ⟨z,its,r,p.tup⟩
theorem HOk.fresh (x:HOk P w H h) (e:h.objs.size≤a):H a=none:=by
 cases q:H a with
 | none=>rfl
 | some u=>exact absurd (aam (x.lt q) e) (abj _)
theorem HOk.kept (x:HOk P w H h) (k:∀b u,h.get? b=some u→h'.get? b=some u):HOk P w H h':=λa o e=>
 (x a o e).xn (λb u _ q=>k b u q) (λ_ q=>q) λ_ _ q=>q
theorem HOk.laid (x:HOk P w H h) (k:∀b u,h.get? b=some u→h'.get? b=some u) (hp:h.objs.size≤a) (new:br P w (upd H a o) h' a o):HOk P w (upd H a o) h':=λb u e=>by
 have hn:=x.fresh hp;by_cases hb:b=a
 ·subst hb;rw[ae] at e;cases e;exact new
 ·rw[af hb] at e;exact (x b u e).xn (λc v _ q=>k c v q) (λc q=>by rw[af (ag q hn)];exact q) λc xs q=>by rw[af (ag q hn)];exact q
end
def Rd (H:Hp) (a:Addr) (u:HO):Prop:=H a=some u∨∃o,H a=some (.frz o u)
theorem Rd.ok {P:Program} {w:World} {H:Hp} {h:Heap} {a:Addr} {u:HO} (r:Rd H a u) (x:HOk P w H h):br P w H h a u:=by
 rcases r with r | ⟨o,r⟩
 ·exact x a u r
 ·obtain ⟨_,q⟩:=x a _ r;exact q
def Mut:Option HO→Prop
 | some (.lst _)=>True
 | some (.dK _)=>True
 | some (.dT _)=>True
 | some (.set _ _)=>True
 | some (.ins _ _ _)=>True
 | some (.ext _)=>True
 | _=>False
section
variable {P:Program} {w:World} {H:Hp} {h h':Heap} {x e:Addr} {o':HO}
theorem HOk.write (ok:HOk P w H h) (mu:Mut (H x)) (he:e=x∨H e=some (.own x)) (k:∀b u,b≠e→h.get? b=some u→h'.get? b=some u) (heo:∃u,h'.get? e=some u)
  (new:br P w (upd H x o') h' x o'):HOk P w (upd H x o') h':=λb u q=>by
 have nown:∀c y,H c=some (.own y)→c≠x:=λc y r z=>by subst z;rw[r] at mu;exact mu
 have ntup:∀c xs,H c=some (.tup xs)→c≠x:=λc xs r z=>by subst z;rw[r] at mu;exact mu
 by_cases hb:b=x
 ·subst hb;rw[ae] at q;cases q;exact new
 ·rw[af hb] at q;by_cases hbe:b=e
  ·have q':H b=some (.own x):=by
    rcases he with z | z
    ·exact absurd (hbe.trans z) hb
    ·rw[hbe];exact z
   rw[q] at q';cases q';obtain ⟨v,hv⟩:=heo;exact ⟨v,by rw[hbe];exact hv⟩
  ·refine (ok b u q).xn (λc v hc r=>k c v ?_ r) (λc r=>by rw[af (nown c b r)];exact r) λc xs r=>by rw[af (ntup c xs r)];exact r
   rcases hc with rfl | hc
   ·exact hbe
   ·rintro rfl;rcases he with z | z
    ·exact nown c b hc z
    ·rw[hc] at z;cases z;exact hb rfl
end
structure Un (fs ex:List Addr) (H H':Hp) (h h':Heap):Prop where
 keep:∀b o,h.get? b=some o→H b=none→b∉fs→b∉ex→h'.get? b=some o
 slot:∀b o,h.get? b=some o→H b=none→b∈fs→b∉ex→∃sl,h'.get? b=some { o with slots:=sl }
 free:∀b o,h.get? b=some o→H b=none→b∉ex→H' b=none
 there:∀b o,h.get? b=some o→b∉ex→∃o',h'.get? b=some o'
 rq:∀b xs,H b=some (.tup xs)→H' b=some (.tup xs)
 frzs:∀b o u,H b=some (.frz o u)→H' b=some (.frz o u)
 tbls:∀b ps,H b=some (.tbl ps)→∃more,H' b=some (.tbl (ps++more))
section
variable {fs fs' ex ex':List Addr} {H H1 H2:Hp} {h h1 h2 h':Heap} {a x e:Addr} {o:HO}
theorem Un.any (u:Un fs ex H H1 h h1) {b:Addr} {ob:Obj} (q:h.get? b=some ob) (n:H b=none) (hx:b∉ex):∃sl,h1.get? b=some { ob with slots:=sl }:=by
 by_cases hb:b∈fs
 ·exact u.slot b ob q n hb hx
 ·exact ⟨ob.slots,u.keep b ob q n hb hx⟩
theorem Un.kept (k:∀b u,h.get? b=some u→h'.get? b=some u):Un fs ex H H h h':=
 ⟨λb ob q _ _ _=>k b ob q,λb ob q _ _ _=>⟨ob.slots,k b ob q⟩,λ_ _ _ n _=>n,λb ob q _=>⟨ob,k b ob q⟩,λ_ _ q=>q,λ_ _ _ q=>q,λ_ ps q=>⟨#[],by rw[q];simp⟩⟩
theorem Un.refl:Un fs ex H H h h:=Un.kept λ_ _ q=>q
theorem Un.laid (k:∀b u,h.get? b=some u→h'.get? b=some u) (hp:h.objs.size≤a) (hn:H a=none):Un fs ex H (upd H a o) h h' where
 keep:=λb u q _ _ _=>k b u q
 slot:=λb u q _ _ _=>⟨u.slots,k b u q⟩
 free:=λb u q n _=>by rw[af (aaf (aam (Heap.lt_size q) hp))];exact n
 there:=λb u q _=>⟨u,k b u q⟩
 rq:=λb xs q=>by rw[af (ag q hn)];exact q
 frzs:=λb u xs q=>by rw[af (ag q hn)];exact q
 tbls:=λb ps q=>⟨#[],by rw[af (ag q hn),q];simp⟩
theorem Un.write (mu:Mut (H x)) (he:e=x∨H e=some (.own x)) (k:∀b u,b≠e→h.get? b=some u→h'.get? b=some u) (heo:∃u,h'.get? e=some u):Un fs ex H (upd H x o) h h':=by
 have hx:∀b,H b=none→b≠x:=λb n z=>by subst z;rw[n] at mu;exact mu
 have hb:∀b,H b=none→b≠e:=λb n z=>by
  subst z;rcases he with r | r
  ·exact hx b n r
  ·rw[n] at r;cases r
 have hm:∀b u,H b=some u→¬Mut (some u)→b≠x:=λb u q nm z=>by subst z;rw[q] at mu;exact nm mu
 refine ⟨λb u q n _ _=>k b u (hb b n) q,λb u q n _ _=>⟨u.slots,k b u (hb b n) q⟩,λb u q n _=>by rw[af (hx b n)];exact n,λb u q _=>?_,
  λb xs q=>by rw[af (hm b _ q λz=>z)];exact q,λb u xs q=>by rw[af (hm b _ q λz=>z)];exact q,λb ps q=>⟨#[],by rw[af (hm b _ q λz=>z),q];simp⟩⟩
 by_cases hbe:b=e
 ·subst hbe;exact heo
 ·exact ⟨u,k b u hbe q⟩
end
noncomputable def trk (h:Heap) (H:Hp):List Addr:=(aat h.objs.size).filter λa=>(H a).isSome
noncomputable def zi (h:Heap) (H:Hp):Heap:=PySem.W.hideAll h (trk h H)
theorem Ho (h:Heap) (H:Hp):(zi h H).objs.size=h.objs.size:=PySem.W.hideAll_size _ _
theorem Mp {h:Heap} {H:Hp} {b:Addr} {o:Obj} (e:h.get? b=some o) (n:H b=none):(zi h H).get? b=some o:=
 PySem.W.hideAll_get _ e λhm=>by
  have q:(H b).isSome=true:=(List.mem_filter.mp hm).2;rw[n] at q;simp at q
theorem P6 {h:Heap} {H:Hp} {b:Addr} {o:Obj} (e:(zi h H).get? b=some o):h.get? b=some o∧H b=none:=by
 have e':h.get? b=some o:=PySem.W.of_hideAll (trk h H) e;refine ⟨e',?_⟩;cases q:H b with
 | none=>rfl
 | some x=>
  have hm:b∈trk h H:=List.mem_filter.mpr ⟨List.mem_range.mpr (Heap.lt_size e'),by simp[q]⟩;have z:(zi h H).get? b=none:=PySem.W.hideAll_none (trk h H) hm;rw[z] at e;cases e
end L2
namespace L2
open PySem PySem.Spec PyProof.Rows
structure Mod (K:PySem.W.Frag) (mg:Str→Option Value) (base:Heap):Prop where
 kin:K.In base
 glob:base.Ns mainGlobals mg
 blt:∃mb,base.Ns builtinsNs mb∧∀x:Str,x≠"__name__"→mb x=bootBuiltins x
 nolimit:base.NoLimit
structure Cx where
 prog:Program
 w:World
 K:PySem.W.Frag
 mg:Str→Option Value
 base:Heap
 A:Around
 N:List Str
 s₀:Shared
 H₀:Hp
 env:Env
 outer:List Env
 stack:List Env
 ex:List Addr
 fn:Str→Bool
 calm:Bool
 pn:List (Addr×Obj)
 xe:Value→Shared→Prop
noncomputable def frs (l:List Env):List Addr:=l.filterMap (·.frame)
noncomputable abbrev Cx.fs (X:Cx):List Addr:=frs X.outer
def Vis (sc:Scope) (x:Str):Prop:=sc.names.lookup x=some .local∨sc.names.lookup x=some .cell∨sc.names.lookup x=some .free
def Loc (sc:Scope) (x:Str):Prop:=sc.names.lookup x=some .local∨sc.names.lookup x=some .cell
def Look (env:Env) (h:Heap) (m:Str→Option Value) (x:Str) (u:Value):Prop:=
 (env.kindOf x=some .local∧m x=some u)∨((env.kindOf x=some .cell∨env.kindOf x=some .free)∧∃c,env.cells.lookup x=some c∧h.IsCell c (some u))
structure Cx.Ok (X:Cx):Prop where
 mod:Mod X.K X.mg X.base
 kind:X.env.scope.kind=.function
 glob:X.env.globals=mainGlobals
 blt:X.env.builtins=builtinsNs
 above:X.s₀.heap.objs.size≤X.env.locals
 inj:∀x y c,X.env.cells.lookup x=some c→X.env.cells.lookup y=some c→x=y
 has:∀x,(X.env.kindOf x=some .cell∨X.env.kindOf x=some .free)→∃c,X.env.cells.lookup x=some c
 cab:∀x c,X.fn x=true→X.env.cells.lookup x=some c→X.s₀.heap.objs.size≤c
 hd:X.calm=true→X.A.handled=none
 frames:X.A.frames=some X.stack
 stk:X.stack=X.outer∨(X.stack=X.env::X.outer∧X.env.frame=some X.env.locals)
 exf:∀b∈X.ex,b≠X.env.locals∧∀x c,X.env.cells.lookup x=some c→c≠b
 bs:∀b o,X.base.get? b=some o→X.s₀.heap.get? b=some o∧X.H₀ b=none
 bsz:X.base.objs.size≤X.s₀.heap.objs.size
 noex:∀b o,X.base.get? b=some o→b∉X.ex
 exfs:∀b∈X.ex,b∉X.fs
 se:X.s₀.heap.FunFrames X.base X.outer
 frf:∀b∈X.fs,X.H₀ b=none
structure Inv (X:Cx) (pins:List (Addr×Obj)) (σ:List (Option V)) (H:Hp) (s:Shared):Prop where
 ok:X.Ok
 os:s.os=X.s₀.os
 bare:AllBare s.gens
 base:Un X.fs X.ex X.H₀ H X.s₀.heap s.heap
 loc:∃m,s.heap.Ns X.env.locals m∧∀(i:Nat) (x:Str) (v:V),X.N[i]?=some x→σ[i]?=some (some v)→Vis X.env.scope x→∃u,RelV v u∧Look X.env s.heap m x u
 cell:∀x c,X.env.cells.lookup x=some c→∃v,s.heap.IsCell c v
 free:H X.env.locals=none
 freeC:∀x c,X.env.cells.lookup x=some c→H c=none
 pin:∀p∈X.pn++pins,s.heap.get? p.1=some p.2∧H p.1=none∧p.1≠X.env.locals∧p.1∉X.fs∧∀v,p.2.data≠.cell v
 hok:HOk X.prog X.w H s.heap
 len:σ.length=X.N.length
section
variable {X:Cx} {pins:List (Addr×Obj)} {σ:List (Option V)} {H H':Hp} {s:Shared} {h':Heap}
theorem Cx.Ok.nofr (ok:X.Ok) {b:Addr} {o:Obj} (e:X.base.get? b=some o):b∉X.fs:=λhb=>by
 have:=(ok.se.mem hb).1;rw[e] at this;cases this
theorem Inv.bs (I:Inv X pins σ H s):∀b o,X.base.get? b=some o→s.heap.get? b=some o∧H b=none:=λb o e=>
 ⟨I.base.keep b o (I.ok.bs b o e).1 (I.ok.bs b o e).2 (I.ok.nofr e) (I.ok.noex b o e),I.base.free b o (I.ok.bs b o e).1 (I.ok.bs b o e).2 (I.ok.noex b o e)⟩
theorem Inv.bk (I:Inv X pins σ H s):∀b o,X.base.get? b=some o→s.heap.get? b=some o:=λb o e=>(I.bs b o e).1
theorem Inv.mod (I:Inv X pins σ H s):Mod X.K X.mg X.base:=I.ok.mod
theorem Inv.kIn (I:Inv X pins σ H s):X.K.In s.heap:=I.ok.mod.kin.keeps I.bk
theorem Inv.lt (I:Inv X pins σ H s):X.env.locals < s.heap.objs.size:=let ⟨_,hn,_⟩:=I.loc;hn.lt
theorem Inv.sz (I:Inv X pins σ H s):X.s₀.heap.objs.size≤s.heap.objs.size:=aay I.ok.above (ac4 I.lt)
theorem Inv.nofs (I:Inv X pins σ H s) {a:Addr} (h:s.heap.objs.size≤a):a∉X.fs:=λhb=>by
 obtain ⟨_,o,ho,_⟩:=I.ok.se.mem hb;exact absurd (aam (Heap.lt_size ho) (aay I.sz h)) (abj _)
theorem Inv.cne (I:Inv X pins σ H s):∀x c,X.env.cells.lookup x=some c→c≠X.env.locals:=λx c e z=>by
 obtain ⟨v,o,ho,hd⟩:=I.cell x c e;obtain ⟨m,⟨o',es,ep,ho',hd',_⟩,_⟩:=I.loc;rw[z,ho'] at ho;cases ho;rw[hd'] at hd;cases hd
theorem Inv.se (I:Inv X pins σ H s):s.heap.FunFrames X.base X.outer:=by
 have all:∀(l:List Env),(∀b∈frs l,b∈X.fs)→X.s₀.heap.FunFrames X.base l→s.heap.FunFrames X.base l:=by
  intro l;induction l with
  | nil=>intro _ _;trivial
  | cons env r ih=>
   intro hs hl;obtain ⟨hk,⟨L,o,hf,hn,ho,hd⟩,hr⟩:=hl;have hL:L∈X.fs:=hs L (by unfold frs;rw[abv,hf];exact aan);obtain ⟨sl,e⟩:=I.base.slot L o ho (I.ok.frf L hL) hL λz=>I.ok.exfs L z hL;exact ⟨hk,⟨L,_,hf,hn,e,hd⟩,ih (λb hb=>hs b (by unfold frs;rw[abv,hf];exact aaj _ hb)) hr⟩
 exact all X.outer (λ_ hb=>hb) I.ok.se
theorem Inv.stack (I:Inv X pins σ H s):s.heap.FunFrames X.base X.stack:=by
 rcases I.ok.stk with e | ⟨e,hf⟩
 ·rw[e];exact I.se
 ·rw[e];obtain ⟨m,hn,_⟩:=I.loc;refine .cons (by rw[I.ok.kind];decide) hf hn ?_ I.se;exact Heap.get?_none_of_le (aay I.ok.bsz I.ok.above)
theorem Inv.Eg (I:Inv X pins σ H s):∀b∈frs X.stack,b∈X.env.locals::X.fs:=λb hb=>by
 rcases I.ok.stk with e | ⟨e,hf⟩
 ·rw[e] at hb;exact aaj _ hb
 ·rw[e] at hb;unfold frs at hb;rw[abv,hf] at hb;exact hb
theorem Inv.Fw (I:Inv X pins σ H s):∀b∈frs X.stack,H b=none:=λb hb=>by
 rcases List.mem_cons.mp (I.Eg b hb) with e | hb
 ·rw[e];exact I.free
 ·obtain ⟨_,o,ho,_⟩:=I.ok.se.mem hb;exact I.base.free b o ho (I.ok.frf b hb) λz=>I.ok.exfs b z hb
theorem Inv.step {g':Array GenState} {t':Nat} {d':Drawn} {ch:List Addr} (I:Inv X pins σ H s)
  (hch:∀b∈ch,(b∈X.ex∨X.s₀.heap.objs.size≤b)∧b≠X.env.locals∧(∀x c,X.env.cells.lookup x=some c→c≠b)∧∀p∈X.pn++pins,p.1≠b)
  (keep:∀b o,b≠X.env.locals→b∉X.fs→b∉ch→s.heap.get? b=some o→H b=none→h'.get? b=some o)
  (slot:∀b o,b≠X.env.locals→b∈X.fs→b∉ch→s.heap.get? b=some o→H b=none→∃sl,h'.get? b=some { o with slots:=sl }) (free:∀b o,b∉ch→s.heap.get? b=some o→H b=none→H' b=none)
  (there:∀b o,b∉ch→s.heap.get? b=some o→∃o',h'.get? b=some o')
  (rq:∀b xs,H b=some (.tup xs)→H' b=some (.tup xs)) (frzs:∀b o u,H b=some (.frz o u)→H' b=some (.frz o u)) (tbls:∀b ps,H b=some (.tbl ps)→∃more,H' b=some (.tbl (ps++more)))
  (ns:∀m,s.heap.Ns X.env.locals m→h'.Ns X.env.locals m) (hok:HOk X.prog X.w H' h') (hg:AllBare g'):
  Inv X pins σ H' { s with heap:=h',gens:=g',drawn:=d',toks:=t' }:=by
 have neL:∀b o,X.s₀.heap.get? b=some o→b≠X.env.locals:=λb o e=>aaf (aam (Heap.lt_size e) I.ok.above);have neC:∀b o,X.s₀.heap.get? b=some o→b∉X.ex→b∉ch:=λb o e hx hb=>by
  rcases (hch b hb).1 with z | z
  ·exact hx z
  ·exact absurd (aam (Heap.lt_size e) z) (abj _)
 have cellK:∀x c,X.env.cells.lookup x=some c→∀v,s.heap.IsCell c v→h'.IsCell c v:=λx c e v ⟨o,ho,hd⟩=>by
  have nch:c∉ch:=λz=>(hch c z).2.2.1 x c e rfl;by_cases hc:c∈X.fs
  ·obtain ⟨sl,q⟩:=slot c o (I.cne x c e) hc nch ho (I.freeC x c e);exact ⟨_,q,hd⟩
  ·exact ⟨o,keep c o (I.cne x c e) hc nch ho (I.freeC x c e),hd⟩
 refine ⟨I.ok,I.os,hg,⟨λb o e n hb hx=>?_,λb o e n hb hx=>?_,λb o e n hx=>?_,λb o e hx=>?_,λb xs e=>rq b xs (I.base.rq b xs e),λb o xs e=>frzs b o xs (I.base.frzs b o xs e),λb ps e=>?_⟩,?_,λx c e=>?_,?_,λx c e=>?_,λp hp=>?_,hok,I.len⟩
 ·exact keep b o (neL b o e) hb (neC b o e hx) (I.base.keep b o e n hb hx) (I.base.free b o e n hx)
 ·obtain ⟨sl,e1⟩:=I.base.slot b o e n hb hx;obtain ⟨sl',e2⟩:=slot b _ (neL b o e) hb (neC b o e hx) e1 (I.base.free b o e n hx);exact ⟨sl',e2⟩
 ·obtain ⟨o',e1⟩:=I.base.there b o e hx;exact free b o' (neC b o e hx) e1 (I.base.free b o e n hx)
 ·obtain ⟨o',e1⟩:=I.base.there b o e hx;exact there b o' (neC b o e hx) e1
 ·obtain ⟨m1,e1⟩:=I.base.tbls b ps e;obtain ⟨m2,e2⟩:=tbls b _ e1;exact ⟨m1++m2,by rw[e2,Array.append_assoc]⟩
 ·obtain ⟨m,hn,hl⟩:=I.loc;refine ⟨m,ns m hn,λi x v e1 e2 e3=>?_⟩;obtain ⟨u,r,l⟩:=hl i x v e1 e2 e3;refine ⟨u,r,?_⟩;rcases l with l | ⟨k,c,e,z⟩
  ·exact .inl l
  ·exact .inr ⟨k,c,e,cellK x c e _ z⟩
 ·obtain ⟨v,z⟩:=I.cell x c e;exact ⟨v,cellK x c e v z⟩
 ·obtain ⟨m,⟨o,_,_,ho,_⟩,_⟩:=I.loc;exact free _ o (λz=>(hch _ z).2.1 rfl) ho I.free
 ·obtain ⟨v,o,ho,hd⟩:=I.cell x c e;exact free c o (λz=>(hch c z).2.2.1 x c e rfl) ho (I.freeC x c e)
 ·obtain ⟨e,n,ne,nf,d⟩:=I.pin p hp;have nch:p.1∉ch:=λz=>(hch p.1 z).2.2.2 p hp rfl;exact ⟨keep p.1 p.2 ne nf nch e n,free p.1 p.2 nch e n,ne,nf,d⟩
theorem Inv.un {t':Nat} (I:Inv X pins σ H s) (u:Un X.fs [] H H' s.heap h') (hok:HOk X.prog X.w H' h'):Inv X pins σ H' { s with heap:=h',toks:=t' }:=by
 obtain ⟨m,⟨o,es,ep,ho,r⟩,_⟩:=id I.loc;obtain ⟨sl,hL⟩:=u.any ho I.free (by simp);exact I.step (g':=s.gens) (d':=s.drawn) (ch:=[]) (λ_ z=>nomatch z) (λb o _ hb _ e n=>u.keep b o e n hb (by simp)) (λb o _ hb _ e n=>u.slot b o e n hb (by simp)) (λb o _ e n=>u.free b o e n (by simp)) (λb o _ e=>u.there b o e (by simp)) u.rq u.frzs u.tbls (λm' hm=>by
  obtain ⟨o',es',ep',ho',r'⟩:=hm;rw[ho] at ho';cases ho';exact ⟨_,es',ep',hL,r'⟩) hok I.bare
theorem Inv.call {g':Array GenState} {t':Nat} {d':Drawn} {ch:List Addr} (I:Inv X pins σ H s) (u:Un (frs X.stack) ch H H' s.heap h') (hok:HOk X.prog X.w H' h') (hg:AllBare g')
  (hch:∀b∈ch,(b∈X.ex∨X.s₀.heap.objs.size≤b)∧b≠X.env.locals∧(∀x c,X.env.cells.lookup x=some c→c≠b)∧∀p∈X.pn++pins,p.1≠b):
  Inv X pins σ H' { s with heap:=h',gens:=g',drawn:=d',toks:=t' }:=by
 obtain ⟨m,⟨o,es,ep,ho,r⟩,_⟩:=id I.loc;obtain ⟨sl,hL⟩:=u.any ho I.free λz=>(hch _ z).2.1 rfl;exact I.step (ch:=ch) hch (λb o hL hb hc e n=>u.keep b o e n (λz=>(List.mem_cons.mp (I.Eg b z)).elim hL hb) hc) (λb o _ _ hc e n=>u.any e n hc) (λb o hc e n=>u.free b o e n hc) (λb o hc e=>u.there b o e hc) u.rq u.frzs u.tbls (λm' hm=>by
  obtain ⟨o',es',ep',ho',r'⟩:=hm;rw[ho] at ho';cases ho';exact ⟨_,es',ep',hL,r'⟩) hok hg
theorem Inv.turned {t':Nat} {it:Addr} (I:Inv X pins σ H s) (k:∀b o,b≠it→s.heap.get? b=some o→h'.get? b=some o) (hn:H it=none) (hL:it≠X.env.locals)
  (h1:it∈X.ex∨X.s₀.heap.objs.size≤it) (h2:∀x c,X.env.cells.lookup x=some c→c≠it) (h3:∀p∈X.pn++pins,p.1≠it):Inv X pins σ H { s with heap:=h',toks:=t' }:=by
 have nit:∀b u,H b=some u→b≠it:=λb u e z=>by rw[z,hn] at e;cases e
 refine I.step (g':=s.gens) (d':=s.drawn) (ch:=[it]) (λb hb=>?_) (λb o _ _ hc e _=>k b o (λz=>hc (by simp[z])) e) (λb o _ _ hc e _=>⟨o.slots,k b o (λz=>hc (by simp[z])) e⟩) (λ_ _ _ _ n=>n)
  (λb o hc e=>⟨o,k b o (λz=>hc (by simp[z])) e⟩) (λ_ _ e=>e) (λ_ _ _ e=>e) (λb ps e=>⟨#[],by rw[e];simp⟩) (λm hm=>?_) (λb u e=>?_) I.bare
 ·have e:b=it:=by simpa using hb
  subst e;exact ⟨h1,hL,h2,h3⟩
 ·obtain ⟨o,es,ep,ho,r⟩:=hm;exact ⟨o,es,ep,k _ o (Ne.symm hL) ho,r⟩
 ·refine (I.hok b u e).xn (λc v hc q=>k c v ?_ q) (λ_ q=>q) λ_ _ q=>q;rcases hc with z | z
  ·rw[z];exact nit b u e
  ·exact nit c _ z
theorem Inv.tok (I:Inv X pins σ H s) (t:Nat):Inv X pins σ H { s with toks:=t }:=I.un (h':=s.heap) (t':=t) Un.refl I.hok
theorem Inv.kept {t':Nat} (I:Inv X pins σ H s) (k:∀b u,s.heap.get? b=some u→h'.get? b=some u):Inv X pins σ H { s with heap:=h',toks:=t' }:=I.un (Un.kept k) (I.hok.kept k)
theorem Inv.laid {a:Addr} {o:HO} {t':Nat} (I:Inv X pins σ H s) (k:∀b u,s.heap.get? b=some u→h'.get? b=some u) (hp:s.heap.objs.size≤a) (new:br X.prog X.w (upd H a o) h' a o):
  Inv X pins σ (upd H a o) { s with heap:=h',toks:=t' }:=I.un (Un.laid k hp (I.hok.fresh hp)) (I.hok.laid k hp new)
theorem Inv.write {x e:Addr} {o:HO} {t':Nat} (I:Inv X pins σ H s) (mu:Mut (H x)) (he:e=x∨H e=some (.own x)) (k:∀b u,b≠e→s.heap.get? b=some u→h'.get? b=some u) (heo:∃u,h'.get? e=some u)
  (new:br X.prog X.w (upd H x o) h' x o):Inv X pins σ (upd H x o) { s with heap:=h',toks:=t' }:=I.un (Un.write mu he k heo) (I.hok.write mu he k heo new)
theorem Inv.Gg {pins':List (Addr×Obj)} (I:Inv X pins σ H s) (h:∀p∈pins',s.heap.get? p.1=some p.2∧H p.1=none∧p.1≠X.env.locals∧p.1∉X.fs∧∀v,p.2.data≠.cell v):Inv X pins' σ H s:=
 ⟨I.ok,I.os,I.bare,I.base,I.loc,I.cell,I.free,I.freeC,λp hp=>(List.mem_append.mp hp).elim (λz=>I.pin p (adk _ z)) (h p),I.hok,I.len⟩
theorem Bu {N:List Str} (hN:N.Nodup) {i j:Nat} {x:Str} (a:N[i]?=some x) (b:N[j]?=some x):i=j:=by
 obtain ⟨h1,e1⟩:=List.getElem?_eq_some_iff.mp a;obtain ⟨h2,e2⟩:=List.getElem?_eq_some_iff.mp b;exact (af4 hN).mp (e1.trans e2.symm)
theorem yj {M:Model} {A:Around} {E:Value→Shared→Prop} {i:Nat} {x:Str} {v:V} {u:Value} {Q:Unit→Shared→Prop} (I:Inv X pins σ H s) (hN:X.N.Nodup) (hi:X.N[i]?=some x) (hx:Loc X.env.scope x) (r:RelV v u)
  (h:∀s',Inv X pins (σ.set i (some v)) H s'→(∃a,Heap.SameBut a s.heap s'.heap∧(a=X.env.locals∨X.env.cells.lookup x=some a))→Q () s') (hf:X.fn x=true∨X.env.scope.names.lookup x=some .local:=by first | exact .inl rfl | exact .inr rfl | assumption):wpAny M A (storeName X.env x u) Q E s:=by
 obtain ⟨m,hn,hl⟩:=id I.loc;have hcls:(X.env.scope.kind==.class||(X.env.scope.kind==.module&&X.env.locals !=X.env.globals))=false:=by rw[I.ok.kind];rfl
 have hiσ:i < σ.length:=by rw[I.len];exact (List.getElem?_eq_some_iff.mp hi).1
 have cne:=I.cne;have tracked:∀{a:Addr} {h':Heap},(∃o,s.heap.get? a=some o∧H a=none)→Heap.SameBut a s.heap h'→HOk X.prog X.w H h':=λ{a h'} ha hs b ob e=>by
  obtain ⟨_,_,hfree⟩:=ha;refine (I.hok b ob e).xn (λc w' hc q=>(hs.2 c ?_).trans q) (λ_ q=>q) λ_ _ q=>q;rintro rfl;rcases hc with rfl | hc
  ·rw[hfree] at e;cases e
  ·rw[hfree] at hc;cases hc
 rcases hx with hk | hk
 ·refine wpAny_storeName_local hk hn (λh' hn' hs=>?_) hcls;obtain ⟨oL,_,_,hoL,_⟩:=id hn;refine h _ ⟨I.ok,I.os,I.bare,⟨λb o e n hb hx=>?_,λb o e n hb hx=>?_,I.base.free,λb o e hx=>?_,I.base.rq,I.base.frzs,I.base.tbls⟩,⟨_,hn',λj y v' e1 e2 e3=>?_⟩,λy c e=>?_,I.free,I.freeC,λp hp=>?_,tracked ⟨oL,hoL,I.free⟩ hs,by simpa using I.len⟩ ⟨_,hs,.inl rfl⟩
  ·exact (hs.2 b (aaf (aam (Heap.lt_size e) I.ok.above))).trans (I.base.keep b o e n hb hx)
  ·obtain ⟨sl,e1⟩:=I.base.slot b o e n hb hx;exact ⟨sl,(hs.2 b (aaf (aam (Heap.lt_size e) I.ok.above))).trans e1⟩
  ·obtain ⟨o',e1⟩:=I.base.there b o e hx;exact ⟨o',(hs.2 b (aaf (aam (Heap.lt_size e) I.ok.above))).trans e1⟩
  ·by_cases hj:j=i
   ·subst hj;rw[hi] at e1;cases e1;rw[aec hiσ] at e2;cases e2
    exact ⟨u,r,.inl ⟨hk,by simp⟩⟩
   ·rw[aei (Ne.symm hj)] at e2;obtain ⟨u',r',q⟩:=hl j y v' e1 e2 e3;refine ⟨u',r',?_⟩;rcases q with ⟨k,e⟩ | ⟨k,c,e,z⟩
    ·refine .inl ⟨k,?_⟩;have:y≠x:=λe=>hj (Bu hN e1 (e ▸ hi));simp[this,e]
    ·exact .inr ⟨k,c,e,z.sameBut hs (cne y c e)⟩
  ·obtain ⟨w',z⟩:=I.cell y c e;exact ⟨w',z.sameBut hs (cne y c e)⟩
  ·obtain ⟨e,n,ne,nf,d⟩:=I.pin p hp;exact ⟨(hs.2 p.1 ne).trans e,n,ne,nf,d⟩
 ·have hfn:X.fn x=true:=by
   rcases hf with z | z
   ·exact z
   ·rw[z] at hk;cases hk
  obtain ⟨c,hc⟩:=I.ok.has x (.inl hk);obtain ⟨w',z⟩:=I.cell x c hc;refine wpAny_storeName_cell I.ok.kind hk hc z (λh' hc' hs=>?_);obtain ⟨oc,hoc,hocd⟩:=id z;refine h { s with heap:=h' } ⟨I.ok,I.os,I.bare,⟨λb o e n hb hx=>?_,λb o e n hb hx=>?_,I.base.free,λb o e hx=>?_,I.base.rq,I.base.frzs,I.base.tbls⟩,⟨m,hn.sameBut hs (Ne.symm (cne x c hc)),λj y v' e1 e2 e3=>?_⟩,λy c' e=>?_,I.free,I.freeC,λp hp=>?_,tracked ⟨oc,hoc,I.freeC x c hc⟩ hs,by simpa using I.len⟩ ⟨c,hs,.inr hc⟩
  ·exact (hs.2 b (aaf (aam (Heap.lt_size e) (I.ok.cab x c hfn hc)))).trans (I.base.keep b o e n hb hx)
  ·obtain ⟨sl,e1⟩:=I.base.slot b o e n hb hx;exact ⟨sl,(hs.2 b (aaf (aam (Heap.lt_size e) (I.ok.cab x c hfn hc)))).trans e1⟩
  ·obtain ⟨o',e1⟩:=I.base.there b o e hx;exact ⟨o',(hs.2 b (aaf (aam (Heap.lt_size e) (I.ok.cab x c hfn hc)))).trans e1⟩
  ·by_cases hj:j=i
   ·subst hj;rw[hi] at e1;cases e1;rw[aec hiσ] at e2;cases e2
    exact ⟨u,r,.inr ⟨.inl hk,c,hc,hc'⟩⟩
   ·rw[aei (Ne.symm hj)] at e2;obtain ⟨u',r',q⟩:=hl j y v' e1 e2 e3;refine ⟨u',r',?_⟩;rcases q with q | ⟨k,c',e,z'⟩
    ·exact .inl q
    ·refine .inr ⟨k,c',e,z'.sameBut hs ?_⟩;rintro rfl;exact hj (Bu hN e1 (I.ok.inj _ _ _ e hc ▸ hi))
  ·by_cases hcc:c'=c
   ·subst hcc;exact ⟨_,hc'⟩
   ·obtain ⟨w2,z2⟩:=I.cell y c' e;exact ⟨w2,z2.sameBut hs hcc⟩
  ·obtain ⟨e,n,ne,nf,d⟩:=I.pin p hp;refine ⟨(hs.2 p.1 ?_).trans e,n,ne,nf,d⟩;intro q;rw[q,hoc] at e;have q':oc=p.2:=aa3 e;exact d w' (by rw[←q'];exact hocd)
theorem Bq {M:Model} {A:Around} {E:Value→Shared→Prop} {i:Nat} {x:Str} {v:V} {u:Value} {Q:Unit→Shared→Prop} (I:Inv X pins σ H s) (hN:X.N.Nodup) (hi:X.N[i]?=some x) (hx:Loc X.env.scope x) (r:RelV v u)
  (h:∀s',Inv X pins (σ.set i (some v)) H s'→Q () s') (hf:X.fn x=true∨X.env.scope.names.lookup x=some .local:=by first | exact .inl rfl | exact .inr rfl | assumption):wpAny M A (storeName X.env x u) Q E s:=
 yj I hN hi hx r (λs' I' _=>h s' I') hf
theorem Inv.call' {s':Shared} {ch:List Addr} (I:Inv X pins σ H s) (ho:s'.os=s.os) (u:Un (frs X.stack) ch H H' s.heap s'.heap) (hok:HOk X.prog X.w H' s'.heap) (hg:AllBare s'.gens)
  (hch:∀b∈ch,(b∈X.ex∨X.s₀.heap.objs.size≤b)∧b≠X.env.locals∧(∀x c,X.env.cells.lookup x=some c→c≠b)∧∀p∈X.pn++pins,p.1≠b):Inv X pins σ H' s':=by
 obtain ⟨h',g',d',t',o'⟩:=s';have e:o'=s.os:=ho;subst e;exact I.call (g':=g') (t':=t') (d':=d') u hok hg hch
end
abbrev XK:=Value→Option Addr→Hp→Prop
abbrev St:=List (Option V)
abbrev VK:=V→Hp→Prop
abbrev TE:=St→Hp→VK→Prop
abbrev TT:=St→Hp→(Bool→Hp→Prop)→Prop
abbrev TA:=St→Hp→(List V→Hp→Prop)→Prop
structure Ends where
 nx:St→Hp→Prop
 rt:VK
 bk:St→Hp→Prop:=λ_ _=>False
 ct:St→Hp→Prop:=λ_ _=>False
abbrev TS:=Ends→St→Hp→Prop
def EP (X:Cx) (pins:List (Addr×Obj)) (σ:St) (Q:VK) (u:Value) (s':Shared):Prop:=∃v H',Inv X pins σ H' s'∧RelV v u∧Q v H'
def TP (X:Cx) (pins:List (Addr×Obj)) (σ:St) (Q:Bool→Hp→Prop) (b:Bool) (s':Shared):Prop:=∃H',Inv X pins σ H' s'∧Q b H'
def AP (X:Cx) (pins:List (Addr×Obj)) (σ:St) (Q:List V→Hp→Prop) (us:List Value) (s':Shared):Prop:=∃vs H',Inv X pins σ H' s'∧Vals vs us∧Q vs H'
def SP (X:Cx) (pins:List (Addr×Obj)) (D:Ends) (f:Flow) (s':Shared):Prop:=
 match f with
 | .next=>∃σ' H',Inv X pins σ' H' s'∧D.nx σ' H'
 | .brk=>∃σ' H',Inv X pins σ' H' s'∧D.bk σ' H'
 | .cont=>∃σ' H',Inv X pins σ' H' s'∧D.ct σ' H'
 | .ret u=>∃v σ' H',Inv X pins σ' H' s'∧RelV v u∧D.rt v H'
def PE (X:Cx) (e:Expr) (t:TE):Prop:=
 ∀(pins:List (Addr×Obj)) (s:Shared) (σ:St) (H:Hp) (Q:VK),Inv X pins σ H s→t σ H Q→wpAny (model X.prog X.w) X.A (eval e X.env) (EP X pins σ Q) X.xe s
def PT (X:Cx) (e:Expr) (t:TT):Prop:=
 ∀(pins:List (Addr×Obj)) (s:Shared) (σ:St) (H:Hp) (Q:Bool→Hp→Prop),Inv X pins σ H s→t σ H Q→wpAny (model X.prog X.w) X.A (isTrue e X.env (eval e X.env)) (TP X pins σ Q) X.xe s
def PW (X:Cx) (e:Expr) (t:TT):Prop:=
 ∀(whole:Sem Value) (pins:List (Addr×Obj)) (s:Shared) (σ:St) (H:Hp) (Q:Bool→Hp→Prop),Inv X pins σ H s→t σ H Q→wpAny (model X.prog X.w) X.A (isTrue e X.env whole) (TP X pins σ Q) X.xe s
theorem PW.pt {X:Cx} {e:Expr} {t:TT} (h:PW X e t):PT X e t:=h _
def PA (X:Cx) (es:List Expr) (t:TA):Prop:=
 ∀(pos:Pos) (pins:List (Addr×Obj)) (s:Shared) (σ:St) (H:Hp) (Q:List V→Hp→Prop),Inv X pins σ H s→t σ H Q→wpAny (model X.prog X.w) X.A (spliced (backTo pos (starEach es X.env))) (AP X pins σ Q) X.xe s
def PS (X:Cx) (st:Stmt) (t:TS):Prop:=
 ∀(pins:List (Addr×Obj)) (s:Shared) (σ:St) (H:Hp) (D:Ends),Inv X pins σ H s→t D σ H→wpAny (model X.prog X.w) X.A (exec st X.env) (SP X pins D) X.xe s
def PSs (X:Cx) (st:List Stmt) (t:TS):Prop:=
 ∀(pins:List (Addr×Obj)) (s:Shared) (σ:St) (H:Hp) (D:Ends),Inv X pins σ H s→t D σ H→wpAny (model X.prog X.w) X.A (execs st X.env) (SP X pins D) X.xe s
theorem thn {α:Type} {t:Sem α} {Q Q':α→Shared→Prop} {M:Model} {A:Around} {E:Value→Shared→Prop} {s:Shared} (h:wpAny M A t Q E s) (hQ:∀a s,Q a s→Q' a s):wpAny M A t Q' E s:=wpAny_mono h hQ λ_ _ x=>x
end L2
namespace L2
open PySem PySem.Spec PyProof.Rows
section
variable {X:Cx}
def tVar (i:Nat):TE:=λσ H Q=>∃v,σ[i]?=some (some v)∧Q v H
def tC (v:V):TE:=λ_ H Q=>Q v H
theorem pe_var {i:Nat} {x:Str} {pos:Pos} (hN:X.N[i]?=some x) (hv:Vis X.env.scope x) (hd:(x==("__debug__":Str))=false:=by decide) (hcd:(x==("__classdict__":Str))=false:=by decide):PE X (.Name x pos) (tVar i):=by
 intro pins s σ H Q I h;obtain ⟨v,e,h⟩:=h;obtain ⟨m,hn,hl⟩:=I.loc;obtain ⟨u,r,l⟩:=hl i x v hN e hv;have fin:EP X pins σ Q u s:=⟨v,H,I,r,h⟩;rcases l with ⟨hk,hm⟩ | ⟨hk,c,hc,hcell⟩
 ·exact wpAny_Name (wpAny_loadName_local I.ok.kind hk hn hm fin) hd
 ·rcases hk with hk | hk
  ·exact wpAny_Name (wpAny_loadName_cell I.ok.kind hk hc hcell fin) hd
  ·exact wpAny_Name (wpAny_loadName_free I.ok.kind hk hc hcell fin hcd) hd
theorem L3 {i j pos}:PE X (.Constant (.int i) j pos) (tC (.int i)):=λ_ _ _ H _ I h=>wpAny_Constant_int ⟨.int i,H,I.tok _,⟨_,rfl⟩,h⟩
theorem pe_bl {b j pos}:PE X (.Constant (.bool b) j pos) (tC (.bl b)):=λ_ _ _ H _ I h=>Constant_bool ⟨.bl b,H,I,rfl,h⟩
theorem Ed {j pos}:PE X (.Constant .none j pos) (tC .non):=λ_ _ _ H _ I h=>Constant_none ⟨.non,H,I,rfl,h⟩
theorem K2 {x j pos}:PE X (.Constant (.str x) j pos) (tC (.str x)):=λ_ _ _ H _ I h=>Calls.Constant_str ⟨.str x,H,I.tok _,⟨_,rfl⟩,h⟩
def Gl (X:Cx) (x:Str):Prop:=X.env.kindOf x=some .globalImplicit
theorem Gu {E:Value→Shared→Prop} {pins:List (Addr×Obj)} {s:Shared} {σ:St} {H:Hp} {x:Str} {u:Value} {pos:Pos} {Q:Value→Shared→Prop} (I:Inv X pins σ H s) (hg:Gl X x) (hm:X.mg x=some u) (h:Q u s)
  (hd:(x==("__debug__":Str))=false:=by decide):wpAny (model X.prog X.w) X.A (eval (.Name x pos) X.env) Q E s:=
 Calls.Name_function_global I.ok.kind hg (Calls.loadGlobal_global (by rw[I.ok.glob];exact I.mod.glob.keeps I.bk) hm h) hd
theorem jq {E:Value→Shared→Prop} {pins:List (Addr×Obj)} {s:Shared} {σ:St} {H:Hp} {x:Str} {u:Value} {pos:Pos} {Q:Value→Shared→Prop} (I:Inv X pins σ H s) (hg:Gl X x) (hm:X.mg x=none) (hv:bootBuiltins x=some u) (h:Q u s)
  (hn:x≠"__name__":=by decide) (hd:(x==("__debug__":Str))=false:=by decide):wpAny (model X.prog X.w) X.A (eval (.Name x pos) X.env) Q E s:=by
 obtain ⟨mb,h1,h2⟩:=I.mod.blt;exact Calls.Name_function_global I.ok.kind hg (Calls.loadGlobal_builtin (by rw[I.ok.glob];exact I.mod.glob.keeps I.bk) hm (by rw[I.ok.blt];exact h1.keeps I.bk) ((h2 x hn).trans hv) h) hd
theorem Nt {x:Str} {v:V} {u:Value} {pos:Pos} (hg:Gl X x) (hm:X.mg x=some u) (r:RelV v u) (hd:(x==("__debug__":Str))=false:=by decide):PE X (.Name x pos) (tC v):=
 λ_ _ _ H _ I h=>Gu I hg hm ⟨v,H,I,r,h⟩ hd
theorem Pb {x:Str} {v:V} {u:Value} {pos:Pos} (hg:Gl X x) (hm:X.mg x=none) (hv:bootBuiltins x=some u) (r:RelV v u) (hn:x≠"__name__":=by decide) (hd:(x==("__debug__":Str))=false:=by decide):PE X (.Name x pos) (tC v):=
 λ_ _ _ H _ I h=>jq I hg hm hv ⟨v,H,I,r,h⟩ hn hd
variable {a b:Expr} {ta tb:TE} {pos:Pos}
def PC (X:Cx) (op:CmpOp) (a b:Expr) (t:TE):Prop:=
 ∀(pins:List (Addr×Obj)) (s:Shared) (σ:St) (H:Hp) (Q:VK),Inv X pins σ H s→t σ H Q→
  wpAny (model X.prog X.w) X.A (eval a X.env) (λv s₁=>wpAny (model X.prog X.w) X.A (eval b X.env) (λu s₂=>wpAny (model X.prog X.w) X.A (compareOp op v u) (EP X pins σ Q) X.xe s₂) X.xe s₁) X.xe s
theorem fw (b:Expr) {op:CmpOp} (h:op≠.In) (h2:op≠.NotIn):behindInMarks op b=false:=by
 have e1:(op==CmpOp.In)=false:=by cases op <;> first | rfl | exact absurd rfl h
 have e2:(op==CmpOp.NotIn)=false:=by cases op <;> first | rfl | exact absurd rfl h2
 cases b <;> simp[behindInMarks,e1,e2]
def vt (ta:TE):TE:=λσ H Q=>ta σ H λx H1=>Q (.bl (!decide (x=.non))) H1
theorem RelV.Ke {x:V} {v:Value} (r:RelV x v):(v==Value.none)=decide (x=.non):=by
 cases x with
 | non=>cases r;rfl
 | bl _=>cases r;rfl
 | int _=>obtain ⟨t,rfl⟩:=r;rfl
 | str _=>obtain ⟨t,rfl⟩:=r;rfl
 | byt _=>obtain ⟨t,rfl⟩:=r;rfl
 | flt _=>obtain ⟨t,rfl⟩:=r;rfl
 | ref _=>cases r;rfl
 | ty _=>cases r;rfl
theorem zf {j pos'} (ha:PE X a ta):PC X .IsNot a (.Constant .none j pos') (vt ta):=by
 intro pins s σ H Q I h;refine thn (ha pins s σ H _ I h) λv s1 ⟨x,H1,I1,r1,q1⟩=>?_;exact Constant_none (isnot_none_gen ⟨.bl _,H1,I1,by rw[r1.Ke];rfl,q1⟩)
def tB (t:TE):TT:=λσ H Q=>t σ H λx H1=>∃c,x=.bl c∧Q c H1
theorem pt_cmp {op:CmpOp} {t:TE} (h:PC X op a b t) (h1:behindInMarks op b=false:=by first | exact fw _ (by decide) (by decide) | rfl):PT X (.Compare a [op] [b] pos) (tB t):=by
 intro pins s σ H Q I hw;refine wpAny_isTrue_Compare1 (thn (h pins s σ H _ I hw) λv s1 h1=>thn h1 λu s2 h2=>thn h2 λc s3 ⟨x,H1,I1,r1,q1⟩=>?_) h1;obtain ⟨d,rfl,q⟩:=q1;cases r1
 exact wpAny_truthy_bool ⟨H1,I1,q⟩
theorem pt_val {e:Expr} {t:TE} (h:PE X e t) (he:∀whole,isTrue e X.env whole=(do let v ←whole;standAt e.pos;holding [v] (truthy v)):=by intro _;rfl):PT X e (tB t):=by
 intro pins s σ H Q I hw;refine isTrue_plain (thn (h pins s σ H _ I hw) λv s1 ⟨x,H1,I1,r1,q1⟩=>?_) (he _);obtain ⟨d,rfl,q⟩:=q1;cases r1
 exact wpAny_truthy_bool ⟨H1,I1,q⟩
variable {tA tB':TT} {rest:List Expr}
def tAnd (t u:TT):TT:=λσ H Q=>t σ H λc H1=>if c=true then u σ H1 Q else Q false H1
def tOr (t u:TT):TT:=λσ H Q=>t σ H λc H1=>if c=true then Q true H1 else u σ H1 Q
def tNot (t:TT):TT:=λσ H Q=>t σ H λc H1=>Q (!c) H1
theorem Pp (ha:PT X a tA):PW X (.BoolOp .And [a] pos) tA:=by
 intro wh pins s σ H Q I h;refine isTrue_and (thn (ha pins s σ H Q I h) λc s1 e=>?_);cases c with
 | true=>exact isTrue_and_nil e
 | false=>exact e
theorem pw_or1 (ha:PT X a tA):PW X (.BoolOp .Or [a] pos) tA:=by
 intro wh pins s σ H Q I h;refine isTrue_or (thn (ha pins s σ H Q I h) λc s1 e=>?_);cases c with
 | false=>exact isTrue_or_nil e
 | true=>exact e
theorem pw_and (ha:PT X a tA) (hb:PW X (.BoolOp .And (b::rest) pos) tB'):PW X (.BoolOp .And (a::b::rest) pos) (tAnd tA tB'):=by
 intro wh pins s σ H Q I h;refine isTrue_and (thn (ha pins s σ H _ I h) λc s1 ⟨H1,I1,q1⟩=>?_);cases c with
 | true=>exact hb wh pins s1 σ H1 Q I1 q1
 | false=>exact ⟨H1,I1,q1⟩
theorem pw_or (ha:PT X a tA) (hb:PW X (.BoolOp .Or (b::rest) pos) tB'):PW X (.BoolOp .Or (a::b::rest) pos) (tOr tA tB'):=by
 intro wh pins s σ H Q I h;refine isTrue_or (thn (ha pins s σ H _ I h) λc s1 ⟨H1,I1,q1⟩=>?_);cases c with
 | true=>exact ⟨H1,I1,q1⟩
 | false=>exact hb wh pins s1 σ H1 Q I1 q1
theorem Dz (ha:PT X a tA):PT X (.UnaryOp .Not a pos) (tNot tA):=by
 intro pins s σ H Q I h;exact isTrue_not (ha pins s σ H (λc H1=>Q (!c) H1) I h)
def tAndV (ta tb:TE):TE:=λσ H Q=>ta σ H λx H1=>∃c,x=.bl c∧if c=true then tb σ H1 Q else Q (.bl false) H1
def tOrV (ta tb:TE):TE:=λσ H Q=>ta σ H λx H1=>∃c,x=.bl c∧if c=true then Q (.bl true) H1 else tb σ H1 Q
def tNotV (ta:TE):TE:=λσ H Q=>ta σ H λx H1=>∃c,x=.bl c∧Q (.bl (!c)) H1
theorem pe_one {op} {t:TE} (h:PE X a t):PE X (.BoolOp op [a] pos) t:=λpins s σ H Q I hw=>BoolOp_one (h pins s σ H Q I hw)
theorem pe_and (ha:PE X a ta) (hb:PE X (.BoolOp .And (b::rest) pos) tb):PE X (.BoolOp .And (a::b::rest) pos) (tAndV ta tb):=by
 intro pins s σ H Q I h;refine BoolOp_and (thn (ha pins s σ H _ I h) λv s1 ⟨x,H1,I1,r1,q1⟩=>?_);obtain ⟨c,rfl,q1⟩:=q1;cases r1
 refine wpAny_truthy_bool ?_;cases c with
 | true=>exact hb pins s1 σ H1 Q I1 q1
 | false=>exact ⟨.bl false,H1,I1,rfl,q1⟩
theorem pe_not (ha:PE X a ta):PE X (.UnaryOp .Not a pos) (tNotV ta):=by
 intro pins s σ H Q I h;refine UnaryOp_ (thn (ha pins s σ H _ I h) λv s1 ⟨x,H1,I1,r1,q1⟩=>?_);obtain ⟨c,rfl,q1⟩:=q1;cases r1
 exact not_of (wpAny_truthy_bool ⟨.bl (!c),H1,I1,rfl,q1⟩)
def tIf (t:TT) (ta tb:TE):TE:=λσ H Q=>t σ H λc H1=>if c=true then ta σ H1 Q else tb σ H1 Q
theorem Le {c:Expr} (hc:PT X c tA) (ha:PE X a ta) (hb:PE X b tb):PE X (.IfExp c a b pos) (tIf tA ta tb):=by
 intro pins s σ H Q I h;refine wpAny_IfExp (thn (hc pins s σ H _ I h) λd s1 ⟨H1,I1,q1⟩=>?_);cases d with
 | true=>exact ha pins s1 σ H1 Q I1 q1
 | false=>exact hb pins s1 σ H1 Q I1 q1
end
end L2
namespace L2
open PySem PySem.Spec PyProof.Rows
def SqL (K:PySem.W.Frag) (H:Hp) (a:Addr) (xs:List V):Prop:=
 Rd H a (.lst xs)∨
  ∃(o:Obj) (its:Array Value) (n:Nat),K.lookup a=some o∧o.cls=.type "list"∧o.dict=none∧o.data=.seq its n∧its.size≤sizeLine∧Vals xs its.toList
def SqT (K:PySem.W.Frag) (H:Hp) (a:Addr) (xs:List V):Prop:=
 Rd H a (.tup xs)∨
  ∃(o:Obj) (its:Array Value) (n:Nat),K.lookup a=some o∧o.cls=.type "tuple"∧o.data=.seq its n∧its.size≤sizeLine∧Vals xs its.toList
noncomputable def absV:Value→Option V
 | .none=>some .non
 | .bool b=>some (.bl b)
 | .int i _=>some (.int i)
 | .str x _=>some (.str x)
 | .bytes b _=>some (.byt b)
 | .float b _=>some (.flt b)
 | .ref a=>some (.ref a)
 | .type n=>some (.ty n)
 | _=>none
theorem RelV.abs {x:V} {u:Value} (r:RelV x u):absV u=some x:=by
 cases x with
 | non=>cases r;rfl
 | bl _=>cases r;rfl
 | int _=>obtain ⟨t,rfl⟩:=r;rfl
 | str _=>obtain ⟨t,rfl⟩:=r;rfl
 | byt _=>obtain ⟨t,rfl⟩:=r;rfl
 | flt _=>obtain ⟨t,rfl⟩:=r;rfl
 | ref _=>cases r;rfl
 | ty _=>cases r;rfl
theorem RelV.inj {x y:V} {u:Value} (r:RelV x u) (q:RelV y u):x=y:=aa3 (r.abs.symm.trans q.abs)
theorem Vals.inj:∀{xs ys:List V} {us:List Value},Vals xs us→Vals ys us→xs=ys
 | _,_,_,.nil,.nil=>rfl
 | _,_,_,.cons r t,.cons r' t'=>by rw[r.inj r',Vals.inj t t']
section
variable {X:Cx} {pins:List (Addr×Obj)} {σ:St} {H:Hp} {s:Shared} {a:Addr} {xs ys:List V}
theorem SqL.of {K:PySem.W.Frag} (h:H a=some (.lst xs)):SqL K H a xs:=.inl (.inl h)
theorem SqT.of {K:PySem.W.Frag} (h:H a=some (.tup xs)):SqT K H a xs:=.inl (.inl h)
theorem Inv.list (I:Inv X pins σ H s) (h:SqL X.K H a xs):∃its:List Value,Vals xs its∧PlainL s.heap a its.toArray∧xs.length≤sizeLine:=by
 rcases h with h | ⟨o,its,n,hk,hc,hd,hs,hz,r⟩
 ·obtain ⟨z,its,n,r,e⟩:=h.ok I.hok;exact ⟨its,r,⟨_,n,e,rfl,rfl,rfl⟩,z⟩
 ·refine ⟨its.toList,r,⟨o,n,I.kIn a o hk,hc,hd,by simpa using hs⟩,?_⟩;have e:=r.length;simp only[aag] at e;omega
theorem Inv.tuple (I:Inv X pins σ H s) (h:SqT X.K H a xs):∃its:List Value,Vals xs its∧IsTup s.heap a its.toArray∧xs.length≤sizeLine:=by
 rcases h with h | ⟨o,its,n,hk,hc,hs,hz,r⟩
 ·obtain ⟨z,its,r,p⟩:=h.ok I.hok;exact ⟨its,r,p.tup,z⟩
 ·refine ⟨its.toList,r,⟨o,I.kIn a o hk,hc,n,by simpa using hs⟩,?_⟩;have e:=r.length;simp only[aag] at e;omega
theorem Inv.vh (I:Inv X pins σ H s) (h:SqL X.K H a xs) (h':SqL X.K H a ys):xs=ys:=by
 obtain ⟨its,r,⟨o,n,e,_,_,d⟩,_⟩:=I.list h;obtain ⟨its',r',⟨o',n',e',_,_,d'⟩,_⟩:=I.list h';rw[e] at e';cases e';rw[d] at d';injection d' with d1 _
 have:its=its':=by simpa using congrArg Array.toList d1
 subst this;exact r.inj r'
theorem Inv.xx (I:Inv X pins σ H s) (h:SqT X.K H a xs) (h':SqT X.K H a ys):xs=ys:=by
 obtain ⟨its,r,⟨o,e,_,n,d⟩,_⟩:=I.tuple h;obtain ⟨its',r',⟨o',e',_,n',d'⟩,_⟩:=I.tuple h';rw[e] at e';cases e';rw[d] at d';injection d' with d1 _
 have:its=its':=by simpa using congrArg Array.toList d1
 subst this;exact r.inj r'
end
noncomputable abbrev Cx.xh (X:Cx) (E:Value→Shared→Prop):Cx:={ X with xe:=E }
noncomputable abbrev Cx.nox (X:Cx):Cx:=X.xh λ_ _=>False
theorem Cx.Ok.xh {X:Cx} (ok:X.Ok) (E:Value→Shared→Prop):(X.xh E).Ok:=
 ⟨ok.mod,ok.kind,ok.glob,ok.blt,ok.above,ok.inj,ok.has,ok.cab,ok.hd,ok.frames,ok.stk,ok.exf,ok.bs,ok.bsz,ok.noex,ok.exfs,ok.se,ok.frf⟩
theorem Cx.Ok.j8 {X:Cx} {E:Value→Shared→Prop} (ok:(X.xh E).Ok):X.Ok:=
 ⟨ok.mod,ok.kind,ok.glob,ok.blt,ok.above,ok.inj,ok.has,ok.cab,ok.hd,ok.frames,ok.stk,ok.exf,ok.bs,ok.bsz,ok.noex,ok.exfs,ok.se,ok.frf⟩
section
variable {X:Cx} {pins:List (Addr×Obj)} {σ:St} {H:Hp} {s:Shared} {E:Value→Shared→Prop}
theorem Inv.xh (I:Inv X pins σ H s) (E:Value→Shared→Prop):Inv (X.xh E) pins σ H s:=⟨I.ok.xh E,I.os,I.bare,I.base,I.loc,I.cell,I.free,I.freeC,I.pin,I.hok,I.len⟩
theorem Inv.j8 (I:Inv (X.xh E) pins σ H s):Inv X pins σ H s:=⟨I.ok.j8,I.os,I.bare,I.base,I.loc,I.cell,I.free,I.freeC,I.pin,I.hok,I.len⟩
theorem SP.j8 {D:Ends} {f:Flow} {s':Shared} (h:SP (X.xh E) pins D f s'):SP X pins D f s':=by
 cases f with
 | next=>obtain ⟨σ',H',I,q⟩:=h;exact ⟨σ',H',I.j8,q⟩
 | brk=>obtain ⟨σ',H',I,q⟩:=h;exact ⟨σ',H',I.j8,q⟩
 | cont=>obtain ⟨σ',H',I,q⟩:=h;exact ⟨σ',H',I.j8,q⟩
 | ret u=>obtain ⟨v,σ',H',I,r,q⟩:=h;exact ⟨v,σ',H',I.j8,r,q⟩
theorem PSs.nox {st:List Stmt} {t:TS} (h:PSs X.nox st t):PSs X st t:=λpins s σ H D I hw=>
 wpAny_mono (h pins s σ H D (I.xh _) hw) (λ_ _ q=>q.j8) λ_ _ z=>False.elim z
end
section
variable {X:Cx} {st:Stmt} {rest:List Stmt} {t u:TS} {e:Expr} {te:TE} {pos:Pos}
def tNext:TS:=λD σ H=>D.nx σ H
def tSeq (t u:TS):TS:=λD σ H=>t { D with nx:=u D } σ H
theorem O9:PSs X [] tNext:=λ_ _ σ H _ I h=>wpAny_execs_nil ⟨σ,H,I,h⟩
theorem La (h1:PS X st t) (h2:PSs X rest u):PSs X (st::rest) (tSeq t u):=by
 intro pins s σ H D I h;refine wpAny_execs_cons (thn (h1 pins s σ H { D with nx:=u D } I h) λf s1 q=>?_);cases f with
 | next=>
  obtain ⟨σ',H',I',q⟩:=q;exact h2 pins s1 σ' H' D I' q
 | ret v=>exact q
 | brk=>exact q
 | cont=>exact q
theorem Qb (h1:PS X st t):PSs X [st] t:=by
 intro pins s σ H D I h;refine wpAny_execs_cons (thn (h1 pins s σ H D I h) λf s1 q=>?_);cases f with
 | next=>exact wpAny_execs_nil q
 | ret v=>exact q
 | brk=>exact q
 | cont=>exact q
def tCont:TS:=λD σ H=>D.ct σ H
theorem Cu:PS X (.Continue pos) tCont:=λ_ _ σ H _ I h=>wpAny_Continue ⟨σ,H,I,h⟩
theorem Inv.quiet {pins:List (Addr×Obj)} {σ:St} {H:Hp} {s:Shared} (I:Inv X pins σ H s):interactive X.env=false:=by simp[interactive,I.ok.kind]
def tDrop (te:TE):TS:=λD σ H=>te σ H λ_ H1=>D.nx σ H1
theorem Oe (he:PE X e te) (hs:swapsWith e none pos.line X.env=pure false:=by rfl):PS X (.Expr e pos) (tDrop te):=by
 intro pins s σ H D I h;exact wpAny_Expr_any (thn (he pins s σ H _ I h) λv s1 ⟨x,H1,I1,r1,q1⟩=>⟨σ,H1,I1,q1⟩) I.quiet hs
def tRet (te:TE):TS:=λD σ H=>te σ H D.rt
theorem ps_ret (he:PE X e te):PS X (.Return (some e) pos) (tRet te):=by
 intro pins s σ H D I h;exact wpAny_Return_some (thn (he pins s σ H _ I h) λv s1 ⟨x,H1,I1,r1,q1⟩=>⟨x,σ,H1,I1,r1,q1⟩)
def tRetN:TS:=λD _ H=>D.rt .non H
def tIfS (c:TT) (t u:TS):TS:=λD σ H=>c σ H λb H1=>if b=true then t D σ H1 else u D σ H1
theorem ps_if {c:Expr} {a b:List Stmt} {tc:TT} (hc:PT X c tc) (ha:PSs X a t) (hb:PSs X b u):PS X (.If c a b pos) (tIfS tc t u):=by
 intro pins s σ H D I h;refine wpAny_If (thn (hc pins s σ H _ I h) λd s1 ⟨H1,I1,q1⟩=>?_);cases d with
 | true=>exact ha pins s1 σ H1 D I1 q1
 | false=>exact hb pins s1 σ H1 D I1 q1
end
abbrev TG:=V→St→Hp→(St→Hp→Prop)→Prop
abbrev TGs:=List V→St→Hp→(St→Hp→Prop)→Prop
def PG (X:Cx) (target:Expr) (t:TG):Prop:=
 ∀(pins:List (Addr×Obj)) (s:Shared) (σ:St) (H:Hp) (v:V) (u:Value) (Q:St→Hp→Prop),Inv X pins σ H s→RelV v u→t v σ H Q→
  wpAny (model X.prog X.w) X.A (assign target X.env u) (λ_ s'=>∃σ' H',Inv X pins σ' H' s'∧Q σ' H') X.xe s
def PGs (X:Cx) (ts:List Expr) (t:TGs):Prop:=
 ∀(pins:List (Addr×Obj)) (s:Shared) (σ:St) (H:Hp) (vs:List V) (us:List Value) (Q:St→Hp→Prop),Inv X pins σ H s→Vals vs us→t vs σ H Q→
  wpAny (model X.prog X.w) X.A (assignInOrder ((assignEach ts X.env).map (·.2)) us) (λ_ s'=>∃σ' H',Inv X pins σ' H' s'∧Q σ' H') X.xe s
abbrev TSet:=V→V→V→Hp→(Hp→Prop)→Prop
def PSet (X:Cx) (t:TSet):Prop:=
 ∀(pins:List (Addr×Obj)) (s:Shared) (σ:St) (H:Hp) (o i v:V) (ov iv u:Value) (Q:Hp→Prop),Inv X pins σ H s→RelV o ov→RelV i iv→RelV v u→t o i v H Q→
  wpAny (model X.prog X.w) X.A (setItem ov iv u) (λ_ s'=>∃H',Inv X pins σ H' s'∧Q H') X.xe s
section
variable {X:Cx} {pos:Pos}
def cj (i:Nat):TG:=λv σ H Q=>Q (σ.set i (some v)) H
theorem Fc {i:Nat} {x:Str} (hN:X.N.Nodup) (hi:X.N[i]?=some x) (hx:Loc X.env.scope x) (hf:X.fn x=true∨X.env.scope.names.lookup x=some .local:=by first | exact .inl rfl | exact .inr rfl | assumption):PG X (.Name x pos) (cj i):=by
 intro pins s σ H v u Q I r h;exact wpAny_assign_Name (Bq I hN hi hx r (λs' I'=>⟨_,H,I',h⟩) hf)
def gNil:TGs:=λvs σ H Q=>vs=[]∧Q σ H
def fq (t:TG) (u:TGs):TGs:=λvs σ H Q=>∃v r,vs=v::r∧t v σ H λσ' H'=>u r σ' H' Q
theorem Oa:PGs X [] gNil:=by
 intro pins s σ H vs us Q I r h;obtain ⟨e,h⟩:=h;subst e;cases r
 exact assignInOrder_nil ⟨σ,H,I,h⟩
theorem J2 {e:Expr} {es:List Expr} {t:TG} {u:TGs} (h1:PG X e t) (h2:PGs X es u)
  (hs:(assignEach (e::es) X.env).map (·.2)=assign e X.env::(assignEach es X.env).map (·.2):=by rfl):PGs X (e::es) (fq t u):=by
 intro pins s σ H vs us Q I r h;obtain ⟨v,vr,e1,h⟩:=h;subst e1;cases r with
 | cons r rr=>
  rw[hs];refine assignInOrder_cons (thn (h1 pins s σ H _ _ _ I r h) λ_ s1 ⟨σ1,H1,I1,q1⟩=>?_);exact h2 pins s1 σ1 H1 _ _ Q I1 rr q1
def Ew (K:PySem.W.Frag) (n:Nat) (t:TGs):TG:=λv σ H Q=>∃a xs,v=.ref a∧SqT K H a xs∧xs.length=n∧t xs σ H Q
theorem Lr {es:List Expr} {k:Nat} {t:TGs} {n:Nat} (hc:X.calm=true) (h:PGs X es t)
  (hn:(assignEach es X.env).length=n:=by rfl) (hst:(assignEach es X.env).findIdx? (·.1)=none:=by rfl):PG X (.Tuple es k pos) (Ew X.K n t):=by
 intro pins s σ H v u Q I r hw;obtain ⟨a,xs,e1,hq,hl,hw⟩:=hw;subst e1;cases r
 obtain ⟨its,rv,ht,hz⟩:=I.tuple hq;refine assign_Tuple_tuple (I.ok.hd hc) ht (by simp[hn,←hl,rv.length]) hst λh' hx=>?_;have I1:Inv X pins σ H { s with heap:=h' }:=I.kept (t':=s.toks) λb o e=>hx b o (aaf (Heap.lt_size e)) e;exact h pins _ σ H xs _ Q I1 (by simpa using rv) hw
def gSub (to ti:TE) (t:TSet):TG:=λv σ H Q=>to σ H λo H1=>ti σ H1 λi H2=>t o i v H2 λH3=>Q σ H3
theorem pg_sub {o i:Expr} {to ti:TE} {t:TSet} (ho:PE X o to) (hi:PE X i ti) (hs:PSet X t)
  (ha:∀v,assign (.Subscript o i pos) X.env v=(do
   let ov ←holding [v] (eval o X.env)
   let iv ←holding [v,ov] (eval i X.env)
   standAt pos
   holding [v,ov,iv] (setItem ov iv v)
   release [v,ov,iv] []):=by intro _;rfl):PG X (.Subscript o i pos) (gSub to ti t):=by
 intro pins s σ H v u Q I r h;rw[ha];refine wpAny_bind (wpAny_holding (thn (ho pins s σ H _ I h) λov s1 ⟨x,H1,I1,r1,q1⟩=>?_));refine wpAny_bind (wpAny_holding (thn (hi pins s1 σ H1 _ I1 q1) λiv s2 ⟨y,H2,I2,r2,q2⟩=>?_));refine wpAny_bind (wpAny_standAt (wpAny_bind (wpAny_holding (thn (hs pins s2 σ H2 x y v ov iv u _ I2 r1 r2 r q2) λ_ s3 ⟨H3,I3,q3⟩=>?_))));exact wpAny_release ⟨σ,H3,I3,q3⟩
def tAsg (te:TE) (g:TG):TS:=λD σ H=>te σ H λx H1=>g x σ H1 D.nx
theorem ps_asg {tg e:Expr} {te:TE} {g:TG} (he:PE X e te) (hg:PG X tg g) (hs:swapsWithSole [tg] e pos.line X.env=pure false:=by rfl) (hw:swappedStores [tg] e X.env=pure none:=by rfl)
  (h1:(assignEach [tg] X.env).map (·.2)=[assign tg X.env]:=by rfl):PS X (.Assign [tg] e pos) (tAsg te g):=by
 intro pins s σ H D I h;refine wpAny_Assign_stores (thn (he pins s σ H _ I h) λv s1 ⟨x,H1,I1,r1,q1⟩=>?_) hs hw;rw[h1];exact thn (hg pins s1 σ H1 x v _ I1 r1 q1) λ_ s2 q=>q
theorem Lb {i:Nat} {x:Str} {e:Expr} {te:TE} {pos':Pos} (hN:X.N.Nodup) (hi:X.N[i]?=some x) (hx:Loc X.env.scope x) (he:PE X e te) (hs:swapsWith e (some (.Name x pos')) pos.line X.env=pure false:=by rfl) (hf:X.fn x=true∨X.env.scope.names.lookup x=some .local:=by first | exact .inl rfl | exact .inr rfl | assumption):
  PS X (.Assign [.Name x pos'] e pos) (tAsg te (cj i)):=by
 intro pins s σ H D I h;refine wpAny_Assign_Name (thn (he pins s σ H _ I h) λv s1 ⟨y,H1,I1,r1,q1⟩=>?_) hs;exact Bq I1 hN hi hx r1 (λs2 I2=>⟨_,H1,I2,q1⟩) hf
end
section
variable {X:Cx} {pos:Pos}
def K9 (c:TT) (tb:TS):TS:=λD σ H=>∃W:Nat→St→Hp→Prop,(∃m,W m σ H)∧∀m σ H,W m σ H→
 c σ H λb H1=>if b=true then ∃N:St→Hp→Prop,(∀σ' H',N σ' H'→∃m',m' < m∧W m' σ' H')∧tb { D with nx:=N,ct:=N,bk:=D.nx } σ H1 else D.nx σ H1
theorem Jp {c:Expr} {body:List Stmt} {tc:TT} {tb:TS} (hp:PassesOwn (model X.prog X.w) X.A X.env X.xe) (hc:PT X c tc) (hb:PSs X body tb):PS X (.While c body [] pos) (K9 tc tb):=by
 intro pins s σ H D I h;obtain ⟨W,⟨m0,w0⟩,turn⟩:=h;refine wpAny_While (codeAny_whileLoop (λn s'=>∃σ' H',Inv X pins σ' H' s'∧W n σ' H') ?_ m0 ⟨σ,H,I,w0⟩);rintro n s1 ⟨σ1,H1,I1,w1⟩;refine wpAny_passesOwn hp (thn (hc pins s1 σ1 H1 _ I1 (turn n σ1 H1 w1)) λb s2 ⟨H2,I2,q2⟩=>?_);cases b with
 | true=>
  obtain ⟨N,hN,q2⟩:=q2;rw[if_pos rfl];refine wpAny_passesOwn hp (thn (hb pins s2 σ1 H2 _ I2 q2) λf s3 q3=>?_);cases f with
  | next=>
   obtain ⟨σ3,H3,I3,n3⟩:=q3;obtain ⟨m',hm,w3⟩:=hN σ3 H3 n3;exact ⟨m',hm,σ3,H3,I3,w3⟩
  | cont=>
   obtain ⟨σ3,H3,I3,n3⟩:=q3;obtain ⟨m',hm,w3⟩:=hN σ3 H3 n3;exact ⟨m',hm,σ3,H3,I3,w3⟩
  | brk=>exact q3
  | ret v=>exact q3
 | false=>
  rw[if_neg aab];exact wpAny_execs_nil ⟨σ1,H2,I2,q2⟩
end
structure It where
 go:Nat→Hp→Prop
 yld:Nat→Hp→V→Hp→Prop
 stop:Nat→Hp→Prop
def qr (X:Cx) (pins:List (Addr×Obj)) (H:Hp) (b:Addr):Prop:=
 H b=none∧b≠X.env.locals∧b∉X.fs∧(b∈X.ex∨X.s₀.heap.objs.size≤b)∧(∀x c,X.env.cells.lookup x=some c→c≠b)∧∀p∈X.pn++pins,p.1≠b
theorem Inv.xc {X:Cx} {pins:List (Addr×Obj)} {σ:St} {H H':Hp} {s:Shared} {b:Addr} (I:Inv X pins σ H s) (hb:s.heap.objs.size≤b) (hn:H' b=none):qr X pins H' b:=by
 refine ⟨hn,abq (aam I.lt hb),I.nofs hb,.inr (aay I.sz hb),λx c e z=>?_,λp hp z=>?_⟩
 ·obtain ⟨v,q⟩:=I.cell x c e;exact absurd (aam q.lt (by rw[z];exact hb)) (abj _)
 ·exact absurd (aam (Heap.lt_size (I.pin p hp).1) (by rw[z];exact hb)) (abj _)
structure Turn (P:Program) (w:World) (K:PySem.W.Frag) (tg:Expr) (J:It) (fp:List Addr) (it:Addr) (tn:Nat→Heap→Prop):Prop where
 mem:it∈fp
 obj:∀i h,tn i h→∀b∈fp,∃o,h.get? b=some o∧∀v,o.data≠.cell v
 keep:∀i h h',tn i h→(∀b∈fp,∀o,h.get? b=some o→h'.get? b=some o)→tn i h'
 item:∀(X:Cx),X.prog=P→X.w=w→X.K=K→X.calm=true→∀(i:Nat) (pins:List (Addr×Obj)) (s:Shared) (σ:St) (H:Hp) (E:Value→Shared→Prop),Inv X pins σ H s→(∀b∈fp,qr X pins H b)→tn i s.heap→J.go i H→
  wpAny (model P w) X.A (pyNext (.ref it)) (λr s1=>∃u,r=some u∧
   wpAny (model P w) X.A (letOwnedTupleGo tg (.ref it) u) (λ_ s2=>∃x H',Inv X pins σ H' s2∧RelV x u∧J.yld i H x H'∧tn (i+1) s2.heap∧∀b∈fp,H' b=none) E s1) E s
 done:∀(X:Cx),X.prog=P→X.w=w→X.K=K→X.calm=true→∀(i:Nat) (pins:List (Addr×Obj)) (s:Shared) (σ:St) (H:Hp) (E:Value→Shared→Prop),Inv X pins σ H s→(∀b∈fp,qr X pins H b)→tn i s.heap→J.stop i H→
  wpAny (model P w) X.A (pyNext (.ref it)) (λr s1=>r=none∧Inv X pins σ H s1) E s
 self:∀(A:Around) (i:Nat) (s:Shared) (Q:Value→Shared→Prop) (E:Value→Shared→Prop),tn i s.heap→Q (.ref it) s→wpAny (model P w) A (pyIter (.ref it)) Q E s
abbrev TI:=St→Hp→(It→Hp→Prop)→Prop
def PIE (X:Cx) (pins:List (Addr×Obj)) (σ:St) (tg:Expr) (R:It→Hp→Prop) (itv:Value) (s2:Shared):Prop:=
 ∃(it:Addr) (fp:List Addr) (tn:Nat→Heap→Prop) (J:It) (H':Hp),itv=.ref it∧Inv X pins σ H' s2∧Turn X.prog X.w X.K tg J fp it tn∧tn 0 s2.heap∧(∀b∈fp,qr X pins H' b)∧R J H'
def PI (X:Cx) (tg iter:Expr) (wi:TI):Prop:=
 ∀(pins:List (Addr×Obj)) (s:Shared) (σ:St) (H:Hp) (R:It→Hp→Prop),Inv X pins σ H s→wi σ H R→
  wpAny (model X.prog X.w) X.A (eval iter X.env) (λv s1=>wpAny (model X.prog X.w) X.A (pyIter v) (PIE X pins σ tg R) X.xe s1) X.xe s
theorem xv {M:Model} {A:Around} {E:Value→Shared→Prop} {s:Shared} {tg:Expr} {it:Addr} {u:Value} {o:Obj} {n:String} {vs:Array Value} {Q:Unit→Shared→Prop} (ho:s.heap.get? it=some o) (hc:o.cls=.type n) (hd:o.data=.fields vs)
    (hn:["enumerate","zip","dict_itemiterator","dict_reverseitemiterator","odict_iterator","itertools.zip_longest","itertools.pairwise"].contains n=false) (hQ:Q () s):wpAny M A (letOwnedTupleGo tg (.ref it) u) Q E s:=by
  unfold letOwnedTupleGo;cases tg <;> first
    | exact wpAny_pure hQ
    | (cases u <;> first
        | exact wpAny_pure hQ
        | (refine wpAny_bind (wpAny_load ho ?_)
           rw[hc,hd];show wpAny M A (if (["enumerate","zip","dict_itemiterator","dict_reverseitemiterator","odict_iterator","itertools.zip_longest","itertools.pairwise"].contains n&&vs[0]?==some (rawInt _))=true then _ else _) Q E s
           rw[if_neg (by intro h;rw[hn,Bool.false_and] at h;cases h)];exact wpAny_pure hQ))
noncomputable def Itl (K:PySem.W.Frag) (a:Addr):It:=
 ⟨λi H=>∃xs x,SqL K H a xs∧xs[i]?=some x,λi H x H'=>H'=H∧∀xs,SqL K H a xs→xs[i]?=some x,λi H=>∃xs,SqL K H a xs∧xs.length≤i⟩
noncomputable def Itt (K:PySem.W.Frag) (a:Addr):It:=
 ⟨λi H=>∃xs x,SqT K H a xs∧xs[i]?=some x,λi H x H'=>H'=H∧∀xs,SqT K H a xs→xs[i]?=some x,λi H=>∃xs,SqT K H a xs∧xs.length≤i⟩
noncomputable def Itr (lo:Int) (n:Nat):It:=⟨λi _=>i < n,λi H x H'=>H'=H∧x=.int (lo+i),λi _=>n≤i⟩
theorem Ig {P:Program} {w:World} {K:PySem.W.Frag} {tg:Expr} (a it:Addr):Turn P w K tg (Itl K a) [it] it (λi h=>h.IsListIter it a i) where
 mem:=by simp
 obj:=λi h st b hb=>by
  have e:b=it:=by simpa using hb
  subst e;obtain ⟨o,e,c,d⟩:=st;exact ⟨o,e,λv z=>by rw[d] at z;cases z⟩
 keep:=λi h h' st k=>st.at λo e=>k it (by simp) o e
 item:=by
  intro X hP hw hK hc i pins s σ H E I hf st hg;subst hP hw hK;obtain ⟨xs,x,hq,hx⟩:=hg;obtain ⟨its,rv,p,hz⟩:=I.list hq;obtain ⟨u,hu,ru⟩:=rv.get hx;obtain ⟨f0,f1,f2,f3,f4,f5⟩:=hf it (by simp);refine wpAny_pyNext_list_item st p.isList (x:=u) (by simpa using hu) λh' st' sb=>?_;have I1:Inv X pins σ H { s with heap:=h' }:=I.turned (t':=s.toks) (λb o hb e=>(sb.2 b hb).trans e) f0 f1 f3 f4 f5;obtain ⟨o,e,c,d⟩:=id st';exact ⟨u,rfl,xv (s:={ s with heap:=h' }) e c d (by decide) ⟨x,H,I1,ru,⟨rfl,λys hy=>by rw[I.vh hy hq];exact hx⟩,st',λb hb=>(hf b hb).1⟩⟩
 done:=by
  intro X hP hw hK hc i pins s σ H E I hf st hg;subst hP hw hK;obtain ⟨xs,hq,hx⟩:=hg;obtain ⟨its,rv,p,hz⟩:=I.list hq;obtain ⟨f0,f1,f2,f3,f4,f5⟩:=hf it (by simp);have hl:=rv.length;exact wpAny_pyNext_list_end (I.ok.hd hc) st p.isList (by simp;omega) λh' eb=>⟨rfl,I.turned (t':=s.toks) (λb o hb e=>eb b o hb e) f0 f1 f3 f4 f5⟩
 self:=λ_ _ _ _ _ st h=>wpAny_pyIter_listiter st h
theorem Dl {P:Program} {w:World} {K:PySem.W.Frag} {tg:Expr} (a it:Addr):Turn P w K tg (Itt K a) [it] it (λi h=>h.IsTupleIter it a i) where
 mem:=by simp
 obj:=λi h st b hb=>by
  have e:b=it:=by simpa using hb
  subst e;obtain ⟨o,e,c,d⟩:=st;exact ⟨o,e,λv z=>by rw[d] at z;cases z⟩
 keep:=λi h h' st k=>st.at λo e=>k it (by simp) o e
 item:=by
  intro X hP hw hK hc i pins s σ H E I hf st hg;subst hP hw hK;obtain ⟨xs,x,hq,hx⟩:=hg;obtain ⟨its,rv,p,hz⟩:=I.tuple hq;obtain ⟨u,hu,ru⟩:=rv.get hx;obtain ⟨f0,f1,f2,f3,f4,f5⟩:=hf it (by simp);refine wpAny_pyNext_tuple_item st (show s.heap.IsTuple a its.toArray from p) (x:=u) (by simpa using hu) λh' st' sb=>?_;have I1:Inv X pins σ H { s with heap:=h' }:=I.turned (t':=s.toks) (λb o hb e=>(sb.2 b hb).trans e) f0 f1 f3 f4 f5;obtain ⟨o,e,c,d⟩:=id st';exact ⟨u,rfl,xv (s:={ s with heap:=h' }) e c d (by decide) ⟨x,H,I1,ru,⟨rfl,λys hy=>by rw[I.xx hy hq];exact hx⟩,st',λb hb=>(hf b hb).1⟩⟩
 done:=by
  intro X hP hw hK hc i pins s σ H E I hf st hg;subst hP hw hK;obtain ⟨xs,hq,hx⟩:=hg;obtain ⟨its,rv,p,hz⟩:=I.tuple hq;obtain ⟨f0,f1,f2,f3,f4,f5⟩:=hf it (by simp);have hl:=rv.length;exact wpAny_pyNext_tuple_end (I.ok.hd hc) st (show s.heap.IsTuple a its.toArray from p) (by simp;omega) λh' eb=>⟨rfl,I.turned (t':=s.toks) (λb o hb e=>eb b o hb e) f0 f1 f3 f4 f5⟩
 self:=λ_ _ _ _ _ st h=>wpAny_pyIter_tupleiter st h
theorem Ej {P:Program} {w:World} {K:PySem.W.Frag} {tg:Expr} (it:Addr) (lo:Int) (n:Nat):Turn P w K tg (Itr lo n) [it] it (λi h=>IsRangeIter h it (lo+(i:Nat)*1) ((n:Int) - (i:Nat)) 1) where
 mem:=by simp
 obj:=λi h st b hb=>by
  have e:b=it:=by simpa using hb
  subst e;exact ⟨_,st,λv z=>by
   have z':Data.fields _=Data.cell v:=z;cases z'⟩
 keep:=λi h h' st k=>k it (by simp) _ st
 item:=by
  intro X hP hw hK hc i pins s σ H E I hf st hg;subst hP hw hK;obtain ⟨f0,f1,f2,f3,f4,f5⟩:=hf it (by simp);have W:=Walks.range (prog:=X.prog) (w:=X.w) (I.ok.hd hc) it lo 1 n;refine W.item i s _ _ hg st λv h' tk hv st' kk=>?_;obtain ⟨t,rfl⟩:=hv;have I1:Inv X pins σ H { s with heap:=h',toks:=tk }:=I.turned (λb o hb e=>kk b o (by simpa using hb) e) f0 f1 f3 f4 f5;refine ⟨_,rfl,xv (s:={ s with heap:=h',toks:=tk }) (n:="range_iterator") st' rfl rfl (by decide) ⟨.int (lo+i),H,I1,⟨t,?_⟩,⟨rfl,rfl⟩,st',λb hb=>(hf b hb).1⟩⟩;rw[Int.mul_one]
 done:=by
  intro X hP hw hK hc i pins s σ H E I hf st hg;subst hP hw hK;obtain ⟨f0,f1,f2,f3,f4,f5⟩:=hf it (by simp);exact wpAny_pyNext_range_end (I.ok.hd hc) st (by have:n≤i:=hg;omega) λh' eb=>⟨rfl,I.turned (t':=s.toks) (λb o hb e=>eb b o hb e) f0 f1 f3 f4 f5⟩
 self:=λ_ _ _ _ _ st h=>wpAny_pyIter_rangeiter st h
end L2
namespace L2
open PySem PySem.Spec PyProof.Rows
section
variable {X:Cx} {tg:Expr}
def iList (K:PySem.W.Frag) (tl:TE):TI:=λσ H R=>tl σ H λx H1=>∃a,x=.ref a∧(∃xs,SqL K H1 a xs)∧R (Itl K a) H1
def iTup (K:PySem.W.Frag) (tl:TE):TI:=λσ H R=>tl σ H λx H1=>∃a,x=.ref a∧(∃xs,SqT K H1 a xs)∧R (Itt K a) H1
theorem Nm {l:Expr} {tl:TE} (hl:PE X l tl):PI X tg l (iList X.K tl):=by
 intro pins s σ H R I h;refine thn (hl pins s σ H _ I h) λv s1 ⟨x,H1,I1,r1,q1⟩=>?_;obtain ⟨a,e,⟨xs,hq⟩,q⟩:=q1;subst e;cases r1
 obtain ⟨its,rv,p,hz⟩:=I1.list hq;refine wpAny_pyIter_list p.isList ?_;refine ⟨s1.heap.objs.size,[s1.heap.objs.size],_,_,H1,rfl,I1.kept (t':=s1.toks) λb o e=>Heap.get?_push_of_some _ e,Ig a _,⟨_,Heap.get?_push_size _ rfl,rfl,rfl⟩,λb hb=>?_,q⟩;have e:b=s1.heap.objs.size:=by simpa using hb
 subst e;exact I1.xc (aa6 _) (I1.hok.fresh (aa6 _))
theorem pi_tup {l:Expr} {tl:TE} (hl:PE X l tl):PI X tg l (iTup X.K tl):=by
 intro pins s σ H R I h;refine thn (hl pins s σ H _ I h) λv s1 ⟨x,H1,I1,r1,q1⟩=>?_;obtain ⟨a,e,⟨xs,hq⟩,q⟩:=q1;subst e;cases r1
 obtain ⟨its,rv,p,hz⟩:=I1.tuple hq;refine wpAny_pyIter_tuple (show s1.heap.IsTuple a its.toArray from p) ?_;refine ⟨s1.heap.objs.size,[s1.heap.objs.size],_,_,H1,rfl,I1.kept (t':=s1.toks) λb o e=>Heap.get?_push_of_some _ e,Dl a _,⟨_,Heap.get?_push_size _ rfl,rfl,rfl⟩,λb hb=>?_,q⟩;have e:b=s1.heap.objs.size:=by simpa using hb
 subst e;exact I1.xc (aa6 _) (I1.hok.fresh (aa6 _))
theorem Kg {pins:List (Addr×Obj)} {σ:St} {H:Hp} {s:Shared} {R:It→Hp→Prop} {E:Value→Shared→Prop} {lo hi:Int} {t u v:Tok} {tk:Nat} (I:Inv X pins σ H s) (h1:-(2 ^ 62)≤lo) (h2:lo < 2 ^ 62) (h3:-(2 ^ 62)≤hi) (h4:hi < 2 ^ 62)
  (q:R (Itr lo (hi - lo).toNat) H):wpAny (model X.prog X.w) X.A (pyIter (.ref s.heap.objs.size)) (PIE X pins σ tg R) E { s with heap:=s.heap.push { cls:=.type "range",data:=.fields #[.int lo t,.int hi u,.int 1 v] },toks:=tk }:=by
 refine wpAny_pyIter_range (IsRange.new ..) (small_one h1 h2 h3 h4) ?_;have I1:Inv X pins σ H { s with heap:=s.heap.push { cls:=.type "range",data:=.fields #[.int lo t,.int hi u,.int 1 v] },toks:=tk }:=I.kept λb o e=>Heap.get?_push_of_some _ e;refine ⟨(s.heap.push { cls:=.type "range",data:=.fields #[.int lo t,.int hi u,.int 1 v] }).objs.size,[(s.heap.push { cls:=.type "range",data:=.fields #[.int lo t,.int hi u,.int 1 v] }).objs.size],_,_,H,rfl,
  I1.kept (t':=tk) λb o e=>Heap.get?_push_of_some _ e,Ej _ lo (hi - lo).toNat,?_,λb hb=>?_,q⟩
 ·have e1:lo+((0:Nat):Int)*1=lo:=by simp
  have e2:(((hi - lo).toNat:Nat):Int) - ((0:Nat):Int)=Builtin.Range.rangeSize lo hi 1:=by rw[rangeSize_one];split <;> omega
  show IsRangeIter _ _ (lo+((0:Nat):Int)*1) ((((hi - lo).toNat:Nat):Int) - ((0:Nat):Int)) 1
  rw[e1,e2];exact Heap.get?_push_size _ rfl
 ·have e:b=(s.heap.push { cls:=.type "range",data:=.fields #[.int lo t,.int hi u,.int 1 v] }).objs.size:=by simpa using hb
  subst e;exact I1.xc (aa6 _) (I1.hok.fresh (aa6 _))
def iRng1 (ta:TA):TI:=λσ H R=>ta σ H λvs H1=>∃j:Int,vs=[.int j]∧-(2 ^ 62)≤j∧j < 2 ^ 62∧R (Itr 0 j.toNat) H1
def iRng2 (ta:TA):TI:=λσ H R=>ta σ H λvs H1=>∃i j:Int,vs=[.int i,.int j]∧(-(2 ^ 62)≤i∧i < 2 ^ 62∧-(2 ^ 62)≤j∧j < 2 ^ 62)∧R (Itr i (j - i).toNat) H1
theorem Jb {a:Expr} {ta:TA} {p pos:Pos} (hg:Gl X "range") (hm:X.mg "range"=none) (ha:PA X [a] ta) (hs:starEach [a] X.env=[(false,eval a X.env)]:=by rfl):PI X tg (.Call (.Name "range" p) [a] [] pos) (iRng1 ta):=by
 intro pins s σ H R I h;refine Call_ (jq I hg hm boot_range (PyProof.Rows.callWith_type1 (thn (ha pos pins s σ H _ I h) λus s1 ⟨vs,H1,I1,r1,q1⟩=>?_) hs rfl));obtain ⟨j,e,q1,q2,q⟩:=q1;subst e;cases r1 with
 | cons r rr=>
  cases rr
  obtain ⟨t,rfl⟩:=r;exact call_range_1 (Kg I1 (by omega) (by omega) q1 q2 (by simpa using q))
def tFor (wi:TI) (g:TG) (tb:TS):TS:=λD σ H=>wi σ H λJ H1=>∃W:Nat→Nat→St→Hp→Prop,(∃m,W 0 m σ H1)∧∀i m σ H,W i m σ H→
 (J.stop i H∧D.nx σ H)∨(J.go i H∧∃N:St→Hp→Prop,(∀σ' H',N σ' H'→∃m',m' < m∧W (i+1) m' σ' H')∧∀x H',J.yld i H x H'→g x σ H' λσ2 H2=>tb { D with nx:=N,ct:=N,bk:=D.nx } σ2 H2)
noncomputable def xb (fp:List Addr) (h:Heap):List (Addr×Obj):=fp.filterMap λb=>(h.get? b).map λo=>(b,o)
theorem jr {fp:List Addr} {h:Heap} {b:Addr} {o:Obj} (hb:b∈fp) (e:h.get? b=some o):(b,o)∈xb fp h:=List.mem_filterMap.mpr ⟨b,hb,by rw[e];rfl⟩
theorem Ic {fp:List Addr} {h:Heap} {p:Addr×Obj} (hp:p∈xb fp h):p.1∈fp∧h.get? p.1=some p.2:=by
 obtain ⟨b,hb,e⟩:=List.mem_filterMap.mp hp;cases q:h.get? b with
 | none=>rw[q] at e;cases e
 | some o=>
  rw[q] at e;have e':(b,o)=p:=aa3 e;subst e';exact ⟨hb,q⟩
theorem Inv.pinned {pins:List (Addr×Obj)} {σ:St} {H:Hp} {s:Shared} {fp:List Addr} (I:Inv X pins σ H s) (hf:∀b∈fp,qr X pins H b) (ho:∀b∈fp,∃o,s.heap.get? b=some o∧∀v,o.data≠.cell v):Inv X (pins++xb fp s.heap) σ H s:=
 I.Gg λp hp=>(List.mem_append.mp hp).elim (λz=>I.pin p (ab8 _ z)) λz=>by
  obtain ⟨hb,e⟩:=Ic z;obtain ⟨f0,f1,f2,_⟩:=hf p.1 hb;obtain ⟨o,e',d⟩:=ho p.1 hb;rw[e] at e';cases e';exact ⟨e,f0,f1,f2,d⟩
theorem Inv.ph {pins pl:List (Addr×Obj)} {σ:St} {H:Hp} {s:Shared} (I:Inv X (pins++pl) σ H s):Inv X pins σ H s:=I.Gg λp hp=>I.pin p (ab8 _ (adk _ hp))
theorem ps_for {iter:Expr} {body:List Stmt} {wi:TI} {g:TG} {tb:TS} {pos:Pos} (hp:PassesOwn (model X.prog X.w) X.A X.env X.xe) (hc:X.calm=true) (hi:PI X tg iter wi) (hg:PG X tg g) (hb:PSs X body tb)
  (hs:∀x,foldedSetIterable iter X.env x=pure x:=by intro _;rfl):PS X (.For tg iter body [] pos) (tFor wi g tb):=by
 intro pins s σ H D I h;refine wpAny_For (thn (hi pins s σ H _ I h) λv s1 h1=>thn h1 λitv s2 h2=>?_) hs;obtain ⟨it,fp,tn,J,H2,e,I2,T,st2,f2,W,⟨m0,w0⟩,turn⟩:=h2;subst e;have stat:∀{H':Hp},(∀b∈fp,H' b=none)→∀b∈fp,qr X pins H' b:=λhn b hb=>⟨hn b hb,(f2 b hb).2⟩;refine codeAny_forLoop_any (λn s'=>∃i σ' H',Inv X pins σ' H' s'∧tn i s'.heap∧(∀b∈fp,H' b=none)∧W i n σ' H') ?_ m0 ⟨0,σ,H2,I2,st2,λb hb=>(f2 b hb).1,w0⟩;rintro n s3 ⟨i,σ3,H3,I3,st3,fr3,w3⟩;rcases turn i n σ3 H3 w3 with ⟨stop,qn⟩ | ⟨go,N,hN,step⟩
 ·refine wpAny_passesOwn hp (thn (T.done X rfl rfl rfl hc i pins s3 σ3 H3 X.xe I3 (stat fr3) st3 stop) λr s4 ⟨hr,I4⟩=>?_);subst hr;exact wpAny_execs_nil ⟨σ3,H3,I4,qn⟩
 ·refine wpAny_passesOwn hp (thn (T.item X rfl rfl rfl hc i pins s3 σ3 H3 X.xe I3 (stat fr3) st3 go) λr s4 ⟨u,hr,h4⟩=>?_);subst hr;refine wpAny_passesOwn hp (thn h4 λ_ s5 ⟨x,H5,I5,r5,y5,st5,fr5⟩=>?_);have I5':=I5.pinned (stat fr5) (T.obj _ _ st5);refine wpAny_passesOwn hp (thn (hg _ s5 σ3 H5 x u _ I5' r5 (step x H5 y5)) λ_ s6 ⟨σ6,H6,I6,q6⟩=>?_);refine wpAny_passesOwn hp (thn (hb _ s6 σ6 H6 _ I6 q6) λf s7 q7=>?_);have again:∀{σ7:St} {H7:Hp},Inv X (pins++xb fp s5.heap) σ7 H7 s7→N σ7 H7→∃m,m < n∧∃i σ' H',Inv X pins σ' H' s7∧tn i s7.heap∧(∀b∈fp,H' b=none)∧W i m σ' H':=λ{σ7 H7} I7 n7=>by
   obtain ⟨m',hm,w7⟩:=hN σ7 H7 n7;refine ⟨m',hm,i+1,σ7,H7,I7.ph,T.keep _ _ _ st5 λb hb o e=>(I7.pin (b,o) (ab8 _ (ab8 _ (jr hb e)))).1,λb hb=>?_,w7⟩;obtain ⟨o,e,d⟩:=T.obj _ _ st5 b hb;exact (I7.pin (b,o) (ab8 _ (ab8 _ (jr hb e)))).2.1
  cases f with
  | next=>obtain ⟨σ7,H7,I7,n7⟩:=q7;exact again I7 n7
  | cont=>obtain ⟨σ7,H7,I7,n7⟩:=q7;exact again I7 n7
  | brk=>obtain ⟨σ7,H7,I7,q7⟩:=q7;exact ⟨σ7,H7,I7.ph,q7⟩
  | ret v=>obtain ⟨x7,σ7,H7,I7,r7,q7⟩:=q7;exact ⟨x7,σ7,H7,I7.ph,r7,q7⟩
end
theorem Km {K:PySem.W.Frag} {a:Addr} {xs:List V} {g:TG} {tb:TS} {D:Ends} {σ:St} {H:Hp} (Pv:Nat→St→Hp→Prop) (h0:Pv 0 σ H) (hl:∀i σ H,i≤xs.length→Pv i σ H→SqL K H a xs)
  (hs:∀i x σ H,xs[i]?=some x→Pv i σ H→g x σ H λσ2 H2=>tb { D with nx:=Pv (i+1),ct:=Pv (i+1),bk:=D.nx } σ2 H2) (hd:∀σ H,Pv xs.length σ H→D.nx σ H):
  ∃W:Nat→Nat→St→Hp→Prop,(∃m,W 0 m σ H)∧∀i m σ H,W i m σ H→
   ((Itl K a).stop i H∧D.nx σ H)∨((Itl K a).go i H∧∃N:St→Hp→Prop,(∀σ' H',N σ' H'→∃m',m' < m∧W (i+1) m' σ' H')∧∀x H',(Itl K a).yld i H x H'→g x σ H' λσ2 H2=>tb { D with nx:=N,ct:=N,bk:=D.nx } σ2 H2):=by
 refine ⟨λi m σ H=>m=xs.length - i∧i≤xs.length∧Pv i σ H,⟨xs.length,by simp,aa8 _,h0⟩,?_⟩;rintro i m σ H ⟨rfl,hi,p⟩;have q:=hl i σ H hi p;by_cases hlt:i < xs.length
 ·refine .inr ⟨⟨xs,xs[i],q,by simp[hlt]⟩,Pv (i+1),λσ' H' p'=>⟨xs.length - (i+1),by omega,rfl,hlt,p'⟩,λx H' y=>?_⟩;obtain ⟨e,y⟩:=y;subst e;exact hs i x σ _ (y xs q) p
 ·have e:i=xs.length:=by omega
  subst e;exact .inl ⟨⟨xs,q,aa6 _⟩,hd σ H p⟩
theorem O6 {K:PySem.W.Frag} {a:Addr} {xs:List V} {g:TG} {tb:TS} {D:Ends} {σ:St} {H:Hp} (Pv:Nat→St→Hp→Prop) (h0:Pv 0 σ H) (hl:∀i σ H,i≤xs.length→Pv i σ H→SqT K H a xs)
  (hs:∀i x σ H,xs[i]?=some x→Pv i σ H→g x σ H λσ2 H2=>tb { D with nx:=Pv (i+1),ct:=Pv (i+1),bk:=D.nx } σ2 H2) (hd:∀σ H,Pv xs.length σ H→D.nx σ H):
  ∃W:Nat→Nat→St→Hp→Prop,(∃m,W 0 m σ H)∧∀i m σ H,W i m σ H→
   ((Itt K a).stop i H∧D.nx σ H)∨((Itt K a).go i H∧∃N:St→Hp→Prop,(∀σ' H',N σ' H'→∃m',m' < m∧W (i+1) m' σ' H')∧∀x H',(Itt K a).yld i H x H'→g x σ H' λσ2 H2=>tb { D with nx:=N,ct:=N,bk:=D.nx } σ2 H2):=by
 refine ⟨λi m σ H=>m=xs.length - i∧i≤xs.length∧Pv i σ H,⟨xs.length,by simp,aa8 _,h0⟩,?_⟩;rintro i m σ H ⟨rfl,hi,p⟩;have q:=hl i σ H hi p;by_cases hlt:i < xs.length
 ·refine .inr ⟨⟨xs,xs[i],q,by simp[hlt]⟩,Pv (i+1),λσ' H' p'=>⟨xs.length - (i+1),by omega,rfl,hlt,p'⟩,λx H' y=>?_⟩;obtain ⟨e,y⟩:=y;subst e;exact hs i x σ _ (y xs q) p
 ·have e:i=xs.length:=by omega
  subst e;exact .inl ⟨⟨xs,q,aa6 _⟩,hd σ H p⟩
theorem Iz {lo:Int} {n:Nat} {g:TG} {tb:TS} {D:Ends} {σ:St} {H:Hp} (Pv:Nat→St→Hp→Prop) (h0:Pv 0 σ H)
  (hs:∀i σ H,i < n→Pv i σ H→g (.int (lo+i)) σ H λσ2 H2=>tb { D with nx:=Pv (i+1),ct:=Pv (i+1),bk:=D.nx } σ2 H2) (hd:∀σ H,Pv n σ H→D.nx σ H):
  ∃W:Nat→Nat→St→Hp→Prop,(∃m,W 0 m σ H)∧∀i m σ H,W i m σ H→
   ((Itr lo n).stop i H∧D.nx σ H)∨((Itr lo n).go i H∧∃N:St→Hp→Prop,(∀σ' H',N σ' H'→∃m',m' < m∧W (i+1) m' σ' H')∧∀x H',(Itr lo n).yld i H x H'→g x σ H' λσ2 H2=>tb { D with nx:=N,ct:=N,bk:=D.nx } σ2 H2):=by
 refine ⟨λi m σ H=>m=n - i∧i≤n∧Pv i σ H,⟨n,by simp,aa8 _,h0⟩,?_⟩;rintro i m σ H ⟨rfl,hi,p⟩;by_cases hlt:i < n
 ·refine .inr ⟨hlt,Pv (i+1),λσ' H' p'=>⟨n - (i+1),by omega,rfl,hlt,p'⟩,λx H' y=>?_⟩;obtain ⟨e,y⟩:=y;subst e y;exact hs i σ _ hlt p
 ·have e:i=n:=by omega
  subst e;exact .inl ⟨aa6 _,hd σ H p⟩
theorem kj {c:TT} {tb:TS} {D:Ends} {σ:St} {H:Hp} (Pv:St→Hp→Prop) (μ:St→Hp→Nat) (h0:Pv σ H)
  (hs:∀σ H,Pv σ H→c σ H λb H1=>if b=true then tb { D with nx:=λσ' H'=>Pv σ' H'∧μ σ' H' < μ σ H,ct:=λσ' H'=>Pv σ' H'∧μ σ' H' < μ σ H,bk:=D.nx } σ H1 else D.nx σ H1)
  (mono:∀σ H Q Q',(∀b H1,Q b H1→Q' b H1)→c σ H Q→c σ H Q'):K9 c tb D σ H:=by
 refine ⟨λm σ H=>m=μ σ H∧Pv σ H,⟨_,rfl,h0⟩,?_⟩;rintro m σ H ⟨rfl,p⟩;refine mono σ H _ _ (λb H1 q=>?_) (hs σ H p);cases b with
 | true=>exact ⟨_,λσ' H' ⟨p',l⟩=>⟨_,l,rfl,p'⟩,q⟩
 | false=>exact q
end L2
namespace L2
open PySem PySem.Spec PyProof.Rows
abbrev R2:=V→V→Hp→VK→Prop
def OpR (X:Cx) (f:Value→Value→Sem Value) (r:R2):Prop:=
 ∀(pins:List (Addr×Obj)) (s:Shared) (σ:St) (H:Hp) (x y:V) (v u:Value) (Q:VK),Inv X pins σ H s→RelV x v→RelV y u→r x y H Q→
  wpAny (model X.prog X.w) X.A (f v u) (EP X pins σ Q) X.xe s
def UnR (X:Cx) (f:Value→Sem Value) (r:V→Hp→VK→Prop):Prop:=
 ∀(pins:List (Addr×Obj)) (s:Shared) (σ:St) (H:Hp) (x:V) (v:Value) (Q:VK),Inv X pins σ H s→RelV x v→r x H Q→
  wpAny (model X.prog X.w) X.A (f v) (EP X pins σ Q) X.xe s
def gw (X:Cx) (f:Value) (r:List V→Hp→VK→Prop):Prop:=
 ∀(pins:List (Addr×Obj)) (s:Shared) (σ:St) (H:Hp) (xs:List V) (us:List Value) (Q:VK),Inv X pins σ H s→Vals xs us→r xs H Q→
  wpAny (model X.prog X.w) X.A (call f us) (EP X pins σ Q) X.xe s
def tOp (r:R2) (ta tb:TE):TE:=λσ H Q=>ta σ H λx H1=>tb σ H1 λy H2=>r x y H2 Q
def tUn (r:V→Hp→VK→Prop) (ta:TE):TE:=λσ H Q=>ta σ H λx H1=>r x H1 Q
def rI (C:Int→Int→Prop) (g:Int→Int→V):R2:=λx y H Q=>∃i j,x=.int i∧y=.int j∧C i j∧Q (g i j) H
def rI0 (g:Int→Int→V):R2:=λx y H Q=>∃i j,x=.int i∧y=.int j∧Q (g i j) H
def rU (g:Int→V):V→Hp→VK→Prop:=λx H Q=>∃i,x=.int i∧Q (g i) H
section
variable {X:Cx} {a b c:Expr} {ta tb tc:TE} {pos:Pos}
theorem binT (ha:PE X a ta) (hb:PE X b tb) {pins:List (Addr×Obj)} {s:Shared} {σ:St} {H:Hp} {R:V→V→Hp→Prop} (I:Inv X pins σ H s)
  (h:ta σ H λx H1=>tb σ H1 λy H2=>R x y H2) {Q:Value→Shared→Prop} {f:Value→Value→Sem Value}
  (hf:∀v u s2 x y H2,Inv X pins σ H2 s2→RelV x v→RelV y u→R x y H2→wpAny (model X.prog X.w) X.A (f v u) Q X.xe s2):
  wpAny (model X.prog X.w) X.A (eval a X.env) (λv s₁=>wpAny (model X.prog X.w) X.A (eval b X.env) (λu s₂=>wpAny (model X.prog X.w) X.A (f v u) Q X.xe s₂) X.xe s₁) X.xe s:=by
 refine thn (ha pins s σ H _ I h) λv s1 ⟨x,H1,I1,r1,q1⟩=>?_;refine thn (hb pins s1 σ H1 _ I1 q1) λu s2 ⟨y,H2,I2,r2,q2⟩=>?_;exact hf v u s2 x y H2 I2 r1 r2 q2
theorem pe_op {op:Operator} {r:R2} (ho:OpR X (binaryOp op) r) (ha:PE X a ta) (hb:PE X b tb):PE X (.BinOp a op b pos) (tOp r ta tb):=by
 intro pins s σ H Q I h;exact wpAny_BinOp (binT ha hb I h λv u s2 x y H2 I2 rx ry q=>ho pins s2 σ H2 x y v u Q I2 rx ry q)
theorem pe_un {op:UnaryOp} {r:V→Hp→VK→Prop} (ho:UnR X (unaryOp op) r) (ha:PE X a ta):PE X (.UnaryOp op a pos) (tUn r ta):=by
 intro pins s σ H Q I h;exact UnaryOp_ (thn (ha pins s σ H _ I h) λv s1 ⟨x,H1,I1,r1,q1⟩=>ho pins s1 σ H1 x v Q I1 r1 q1)
theorem opI {f:Value→Value→Sem Value} {C:Int→Int→Prop} {g:Int→Int→Int}
  (rule:∀(i j:Int) (t u:Tok) (s:Shared) (Q:Value→Shared→Prop) (E:Value→Shared→Prop),C i j→Q (.int (g i j) s.toks) { s with toks:=s.toks+1 }→wpAny (model X.prog X.w) X.A (f (.int i t) (.int j u)) Q E s):
  OpR X f (rI C λi j=>.int (g i j)):=by
 intro pins s σ H x y v u Q I rx ry h;obtain ⟨i,j,rfl,rfl,hc,q⟩:=h;obtain ⟨t,rfl⟩:=rx;obtain ⟨t',rfl⟩:=ry;exact rule i j t t' s _ _ hc ⟨.int (g i j),H,I.tok _,⟨_,rfl⟩,q⟩
theorem opI0 {f:Value→Value→Sem Value} {g:Int→Int→Int}
  (rule:∀(i j:Int) (t u:Tok) (s:Shared) (Q:Value→Shared→Prop) (E:Value→Shared→Prop),Q (.int (g i j) s.toks) { s with toks:=s.toks+1 }→wpAny (model X.prog X.w) X.A (f (.int i t) (.int j u)) Q E s):
  OpR X f (rI0 λi j=>.int (g i j)):=by
 intro pins s σ H x y v u Q I rx ry h;obtain ⟨i,j,rfl,rfl,q⟩:=h;obtain ⟨t,rfl⟩:=rx;obtain ⟨t',rfl⟩:=ry;exact rule i j t t' s _ _ ⟨.int (g i j),H,I.tok _,⟨_,rfl⟩,q⟩
theorem opB0 {f:Value→Value→Sem Value} {g:Int→Int→Bool}
  (rule:∀(i j:Int) (t u:Tok) (s:Shared) (Q:Value→Shared→Prop) (E:Value→Shared→Prop),Q (.bool (g i j)) s→wpAny (model X.prog X.w) X.A (f (.int i t) (.int j u)) Q E s):
  OpR X f (rI0 λi j=>.bl (g i j)):=by
 intro pins s σ H x y v u Q I rx ry h;obtain ⟨i,j,rfl,rfl,q⟩:=h;obtain ⟨t,rfl⟩:=rx;obtain ⟨t',rfl⟩:=ry;exact rule i j t t' s _ _ ⟨.bl (g i j),H,I,rfl,q⟩
def pj (i j:Int):Prop:=0 < j∧j < 1073741824
def CPow (i j:Int):Prop:=0≤j∧j≤1000000∧i.natAbs < 2 ^ 64
def CMul (i j:Int):Prop:=(-(2 ^ 64) < i∧i < 2 ^ 64)∨(-(2 ^ 64) < j∧j < 2 ^ 64)
theorem CMul.ok {i j:Int} (h:CMul i j):IntMulOk i j:=by
 rcases h with ⟨h1,h2⟩ | ⟨h1,h2⟩
 ·exact .of_left (intBits_le_64 h1 h2)
 ·exact .of_right (intBits_le_64 h1 h2)
theorem op_add:OpR X (binaryOp .Add) (rI0 λi j=>.int (i+j)):=opI0 λ_ _ _ _ _ _ _ q=>add_int q
theorem op_sub:OpR X (binaryOp .Sub) (rI0 λi j=>.int (i - j)):=opI0 λ_ _ _ _ _ _ _ q=>sub_int q
theorem op_mul:OpR X (binaryOp .Mult) (rI CMul λi j=>.int (i*j)):=opI λ_ _ _ _ _ _ _ hc q=>mul_int q hc.ok
theorem Om:OpR X (binaryOp .FloorDiv) (rI pj λi j=>.int (i / j)):=opI λi j _ _ _ _ _ hc q=>by
 have h1:(0:Int) < j:=hc.1;have h2:j < 1073741824:=hc.2;exact floordiv_int (by omega) (by rw[Int.fdiv_eq_ediv_of_nonneg i (by omega)];exact q) (.inl (PyProof.noPylong_small (by omega)))
theorem op_mod:OpR X (binaryOp .Mod) (rI (λ_ j=>0 < j) λi j=>.int (i % j)):=opI λi j _ _ _ _ _ hc q=>by
 have h1:(0:Int) < j:=hc;exact mod_int' (by omega) (by rw[Int.fmod_eq_emod_of_nonneg i (by omega)];exact q)
theorem op_pow:OpR X (binaryOp .Pow) (rI CPow λi j=>.int (i ^ j.toNat)):=opI λ_ _ _ _ _ _ _ hc q=>pow_int_small hc.1 hc.2.1 hc.2.2 q
theorem unI {f:Value→Sem Value} {g:Int→Int}
  (rule:∀(i:Int) (t:Tok) (s:Shared) (Q:Value→Shared→Prop) (E:Value→Shared→Prop),Q (.int (g i) s.toks) { s with toks:=s.toks+1 }→wpAny (model X.prog X.w) X.A (f (.int i t)) Q E s):
  UnR X f (rU λi=>.int (g i)):=by
 intro pins s σ H x v Q I rx h;obtain ⟨i,rfl,q⟩:=h;obtain ⟨t,rfl⟩:=rx;exact rule i t s _ _ ⟨.int (g i),H,I.tok _,⟨_,rfl⟩,q⟩
theorem un_neg:UnR X (unaryOp .USub) (rU λi=>.int (-i)):=unI λ_ _ _ _ _ q=>neg_int q
end
noncomputable def scal:V→V→Bool
 | .non,.non=>true | .non,.int _=>true | .int _,.non=>true | .non,.bl _=>true | .bl _,.non=>true | .non,.str _=>true | .str _,.non=>true
 | .int _,.int _=>true | .bl _,.bl _=>true | .str _,.str _=>true | .byt _,.byt _=>true
 | .int _,.str _=>true | .str _,.int _=>true | .bl _,.str _=>true | .str _,.bl _=>true
 | _,_=>false
def rEq:R2:=λx y H Q=>scal x y=true∧Q (.bl (decide (x=y))) H
def rNe:R2:=λx y H Q=>scal x y=true∧Q (.bl (!decide (x=y))) H
theorem Gp {i j:Int}:decide (V.int i=V.int j)=(i==j):=by
 rw[ack];simp
theorem J3 {i j:Bool}:decide (V.bl i=V.bl j)=(i==j):=by
 rw[ack];simp
theorem E8 {i j:Str}:decide (V.str i=V.str j)=(i==j):=by
 rw[ack];simp
theorem E7 {i j:Array UInt8}:decide (V.byt i=V.byt j)=(i.toList==j.toList):=by
 rw[ack];cases i
 cases j
 simp
section
variable {X:Cx} {a b c:Expr} {ta tb tc:TE} {pos:Pos}
theorem bh {pins:List (Addr×Obj)} {σ:St} {H:Hp} {s:Shared} {Q:VK} {k k':Bool} (I:Inv X pins σ H s) (q:Q (.bl k) H) (e:k=k'):EP X pins σ Q (.bool k') s:=by
 subst e;exact ⟨.bl k,H,I,rfl,q⟩
theorem op_eq:OpR X (compareOp .Eq) rEq:=by
 intro pins s σ H x y v u Q I rx ry h;obtain ⟨hs,q⟩:=h;cases x with
 | non=>
  cases rx
  cases y with
  | non=>cases ry;exact PySem.EqNone.eq_none_none (bh I q (by simp))
  | bl j=>cases ry;exact PySem.EqNone.eq_none_bool (bh I q (by simp))
  | int j=>obtain ⟨t',rfl⟩:=ry;exact PySem.EqNone.eq_none_int (bh I q (by simp))
  | str j=>obtain ⟨t',rfl⟩:=ry;exact PySem.EqNone.eq_none_str (bh I q (by simp))
  | _=>exact absurd (show false=true from hs) aab
 | bl i=>
  cases rx
  cases y with
  | non=>cases ry;exact PySem.EqNone.eq_bool_none (bh I q (by simp))
  | bl j=>cases ry;exact eq_bool (bh I q J3)
  | str j=>obtain ⟨t',rfl⟩:=ry;exact PySem.EqMixed.eq_bool_str (bh I q (by simp))
  | _=>exact absurd (show false=true from hs) aab
 | int i=>
  obtain ⟨t,rfl⟩:=rx;cases y with
  | non=>cases ry;exact PySem.EqNone.eq_int_none (bh I q (by simp))
  | int j=>obtain ⟨t',rfl⟩:=ry;exact eq_int (bh I q Gp)
  | str j=>obtain ⟨t',rfl⟩:=ry;exact PySem.EqMixed.eq_int_str (bh I q (by simp))
  | _=>exact absurd (show false=true from hs) aab
 | str i=>
  obtain ⟨t,rfl⟩:=rx;cases y with
  | non=>cases ry;exact PySem.EqNone.eq_str_none (bh I q (by simp))
  | bl j=>cases ry;exact PySem.EqMixed.eq_str_bool (bh I q (by simp))
  | int j=>obtain ⟨t',rfl⟩:=ry;exact PySem.EqMixed.eq_str_int (bh I q (by simp))
  | str j=>obtain ⟨t',rfl⟩:=ry;exact eq_str (bh I q E8)
  | _=>exact absurd (show false=true from hs) aab
 | byt i=>
  obtain ⟨t,rfl⟩:=rx;cases y with
  | byt j=>obtain ⟨t',rfl⟩:=ry;exact PySem.W.eq_bytes (bh I q E7)
  | _=>exact absurd (show false=true from hs) aab
 | _=>cases y <;> exact absurd (show false=true from hs) aab
theorem Cs:OpR X (compareOp .NotEq) rNe:=by
 intro pins s σ H x y v u Q I rx ry h;obtain ⟨hs,q⟩:=h;cases x with
 | non=>
  cases rx
  cases y with
  | non=>cases ry;exact PySem.EqNone.ne_none_none (bh I q (by simp))
  | bl j=>cases ry;exact PySem.EqNone.ne_none_bool (bh I q (by simp))
  | int j=>obtain ⟨t',rfl⟩:=ry;exact PySem.EqNone.ne_none_int (bh I q (by simp))
  | str j=>obtain ⟨t',rfl⟩:=ry;exact PySem.EqNone.ne_none_str (bh I q (by simp))
  | _=>exact absurd (show false=true from hs) aab
 | bl i=>
  cases rx
  cases y with
  | non=>cases ry;exact PySem.EqNone.ne_bool_none (bh I q (by simp))
  | bl j=>cases ry;exact ne_bool (bh I q (congrArg not J3))
  | str j=>obtain ⟨t',rfl⟩:=ry;exact PySem.EqMixed.ne_bool_str (bh I q (by simp))
  | _=>exact absurd (show false=true from hs) aab
 | int i=>
  obtain ⟨t,rfl⟩:=rx;cases y with
  | non=>cases ry;exact PySem.EqNone.ne_int_none (bh I q (by simp))
  | int j=>obtain ⟨t',rfl⟩:=ry;exact ne_int (bh I q (congrArg not Gp))
  | str j=>obtain ⟨t',rfl⟩:=ry;exact PySem.EqMixed.ne_int_str (bh I q (by simp))
  | _=>exact absurd (show false=true from hs) aab
 | str i=>
  obtain ⟨t,rfl⟩:=rx;cases y with
  | non=>cases ry;exact PySem.EqNone.ne_str_none (bh I q (by simp))
  | bl j=>cases ry;exact PySem.EqMixed.ne_str_bool (bh I q (by simp))
  | int j=>obtain ⟨t',rfl⟩:=ry;exact PySem.EqMixed.ne_str_int (bh I q (by simp))
  | str j=>obtain ⟨t',rfl⟩:=ry;exact ne_str (bh I q (congrArg not E8))
  | _=>exact absurd (show false=true from hs) aab
 | byt i=>
  obtain ⟨t,rfl⟩:=rx;cases y with
  | byt j=>obtain ⟨t',rfl⟩:=ry;exact PySem.W.ne_bytes (bh I q (congrArg not E7))
  | _=>exact absurd (show false=true from hs) aab
 | _=>cases y <;> exact absurd (show false=true from hs) aab
theorem op_lt:OpR X (compareOp .Lt) (rI0 λi j=>.bl (decide (i < j))):=opB0 λ_ _ _ _ _ _ _ q=>lt_int q
theorem op_gt:OpR X (compareOp .Gt) (rI0 λi j=>.bl (decide (j < i))):=opB0 λ_ _ _ _ _ _ _ q=>gt_int q
theorem nomark (b:Expr) {op:CmpOp} (h:op≠.In:=by decide) (h2:op≠.NotIn:=by decide):behindInMarks op b=false:=by
 have e1:(op==CmpOp.In)=false:=by cases op <;> first | rfl | exact absurd rfl h
 have e2:(op==CmpOp.NotIn)=false:=by cases op <;> first | rfl | exact absurd rfl h2
 cases b <;> simp[behindInMarks,e1,e2]
theorem Af {op:CmpOp} {r:R2} (ho:OpR X (compareOp op) r) (ha:PE X a ta) (hb:PE X b tb) (hm:behindInMarks op b=false):PE X (.Compare a [op] [b] pos) (tOp r ta tb):=by
 intro pins s σ H Q I h;exact wpAny_Compare1 (binT ha hb I h λv u s2 x y H2 I2 rx ry q=>ho pins s2 σ H2 x y v u Q I2 rx ry q) hm
def Cp (t:TE):TT:=λσ H Q=>t σ H λx H'=>∃k,x=.bl k∧Q k H'
theorem Ng {op:CmpOp} {r:R2} (ho:OpR X (compareOp op) r) (ha:PE X a ta) (hb:PE X b tb) (hm:behindInMarks op b=false):PT X (.Compare a [op] [b] pos) (Cp (tOp r ta tb)):=by
 intro pins s σ H Q I h;refine wpAny_isTrue_Compare1 (thn (ha pins s σ H _ I h) λv s1 ⟨x,H1,I1,r1,q1⟩=>thn (hb pins s1 σ H1 _ I1 q1) λu s2 ⟨y,H2,I2,r2,q2⟩=>
  thn (ho pins s2 σ H2 x y v u _ I2 r1 r2 q2) λc s3 ⟨z,H3,I3,r3,k,e,q3⟩=>?_) hm
 subst e;cases r3
 exact wpAny_truthy_bool ⟨H3,I3,q3⟩
theorem ur:(sizeLine:Nat) < 2 ^ 63:=by rw[sizeLine_eq];decide
theorem Er:OpR X (binaryOp .Add) (λx y H Q=>∃i j,x=.str i∧y=.str j∧i.length+j.length≤sizeLine∧Q (.str (i++j)) H):=by
 intro pins s σ H x y v u Q I rx ry h;obtain ⟨i,j,rfl,rfl,hz,q⟩:=h;obtain ⟨t,rfl⟩:=rx;obtain ⟨t',rfl⟩:=ry;exact add_str (λt' tk=>⟨.str (i++j),H,I.tok _,⟨_,rfl⟩,q⟩) hz
theorem vals1 {x:V} {us:List Value} (r:Vals [x] us):∃u,us=[u]∧RelV x u:=by
 cases r with
 | cons r1 r2=>cases r2;exact ⟨_,rfl,r1⟩
theorem vals2 {x y:V} {us:List Value} (r:Vals [x,y] us):∃u w',us=[u,w']∧RelV x u∧RelV y w':=by
 cases r with
 | cons r1 r2=>
  cases r2 with
  | cons r3 r4=>cases r4;exact ⟨_,_,rfl,r1,r3⟩
theorem Hh (hc:X.calm=true):gw X (.builtin "max") (λxs H Q=>∃i j,xs=[.int i,.int j]∧Q (.int (if j > i then j else i)) H):=by
 intro pins s σ H xs us Q I r h;obtain ⟨i,j,rfl,q⟩:=h;obtain ⟨u,w',rfl,⟨t,rfl⟩,⟨t',rfl⟩⟩:=vals2 r;refine max_two_ints (I.ok.hd hc) λh' tk k=>⟨_,H,I.kept k,?_,q⟩;by_cases hj:j > i
 ·rw[if_pos hj,if_pos hj];exact ⟨_,rfl⟩
 ·rw[if_neg hj,if_neg hj];exact ⟨_,rfl⟩
theorem Jc:gw X (.type "int") (λxs H Q=>(∃i,xs=[.int i]∧Q (.int i) H)∨∃k,xs=[.bl k]∧Q (.int (if k then 1 else 0)) H):=by
 intro pins s σ H xs us Q I r h;rcases h with ⟨i,rfl,q⟩ | ⟨k,rfl,q⟩
 ·obtain ⟨u,rfl,t,rfl⟩:=vals1 r;exact call_int_int ⟨.int i,H,I,⟨_,rfl⟩,q⟩
 ·obtain ⟨u,rfl,r1⟩:=vals1 r;cases r1
  exact call_int_bool ⟨.int (if k then 1 else 0),H,I.tok _,⟨_,rfl⟩,q⟩
end
end L2
namespace L2
open PySem PySem.Spec PyProof.Rows
structure ObjM (h:Heap) (x dx C:Addr) (mA:Str→Option Value):Prop where
 obj:h.get? x=some (PySem.W.instObj C dx)
 ns:h.Ns1 dx mA
 ne:dx≠x
theorem Hv {h:Heap} {dx:Addr} {mA:Str→Option Value} (n:h.Ns1 dx mA):∃od,h.get? dx=some od∧∀name,PySem.W.lookIn name od=some (mA name):=by
 obtain ⟨o,es,ep,ho,hd,hk,_,hm⟩:=n;refine ⟨o,ho,λname=>?_⟩;have e:=hm name;unfold nsFind findBy at e;rw[←Array.find?_toList] at e;unfold PySem.W.lookIn;rw[hd];dsimp only;split
 ·rename_i y q
  rw[q] at e;exact congrArg some e
 ·rename_i q
  rw[q] at e;have a:es.toList.any (·.refKey)=false:=by
   rw[List.any_eq_false];intro y hy;obtain ⟨z,t,hkey⟩:=hk y (Array.mem_toList_iff.mp hy);simp[DictEntry.refKey,hkey]
  have a':¬es.toList.any (·.refKey)=true:=by rw[a];exact aab
  rw[if_neg a'];exact congrArg some e
theorem ObjM.look {h:Heap} {x dx C:Addr} {mA:Str→Option Value} (I:ObjM h x dx C mA):∃od,PySem.W.InstAt h x (PySem.W.instObj C dx) C (some od)∧∀name,PySem.W.lookIn name od=some (mA name):=
 let ⟨od,ho,hl⟩:=Hv I.ns
 ⟨od,⟨I.obj,rfl,rfl,ho⟩,hl⟩
section
variable {prog:Program} {w:World} {A:Around} {E:Value→Shared→Prop} {s:Shared} {K:PySem.W.Frag} {x dx C f:Addr} {mA:Str→Option Value} {name:Str} {v:Value}
end
theorem m5.some_of {v:V} {o:Option Value} (r:m5 (some v) o):∃u,o=some u∧RelV v u:=by
 cases o with
 | none=>exact (show False from r).elim
 | some u=>exact ⟨u,rfl,r⟩
section
variable {P:Program} {w:World} {H H':Hp} {h h':Heap} {a C dx:Addr} {fs fs':List (Str×V)}
theorem Ph (hok:HOk P w H h) (e:H a=some (.ins C dx fs)):∃mA,ObjM h a dx C mA∧(∀f,m5 (fs.lookup f) (mA f))∧PySem.Within mA (fs.map (·.1))∧fs.length≤1000∧H dx=some (.own a):=by
 obtain ⟨d,z,ne,ob,mA,n,r,q⟩:=(show br P w H h a (.ins C dx fs) from hok a _ e);exact ⟨mA,⟨ob,n,ne⟩,r,q,z,d⟩
end
structure Cls (K:PySem.W.Frag) (C:Addr):Prop where
 pg:PySem.W.plainGet K C Str.empty=true
 hd:PySem.W.hasDictIn K C=true
 po:PySem.W.plainOver K C=true
 sa:PySem.W.findIn K (.ref C) "__setattr__"=some (some (.builtin "object.__setattr__"))
theorem Cls.get {K:PySem.W.Frag} {C:Addr} (c:Cls K C) (f:Str):PySem.W.plainGet K C f=true:=c.pg
section
variable {X:Cx} {pins:List (Addr×Obj)} {σ:St} {H:Hp} {s:Shared} {a C dx:Addr} {fs:List (Str×V)} {f:Str} {v:V} {A:Around} {E:Value→Shared→Prop}
end
section
variable {X:Cx} {o e value:Expr} {f:Str} {pos pos' tpos:Pos} {ta tv:TE}
end
section
variable {X:Cx} {pins:List (Addr×Obj)} {σ:St} {H:Hp} {s:Shared} {A:Around} {E:Value→Shared→Prop} {Q:Value→Shared→Prop} {c:Value} {b:Bool}
inductive ql (K:PySem.W.Frag) (H:Hp):V→Value→Prop where
 | non:ql K H .non (.type "NoneType")
 | bl (x:Bool):ql K H (.bl x) (.type "bool")
 | int (i:Int):ql K H (.int i) (.type "int")
 | str (x:Str):ql K H (.str x) (.type "str")
 | flt (x:UInt64):ql K H (.flt x) (.type "float")
 | lst {a:Addr} {xs:List V} (e:H a=some (.lst xs)):ql K H (.ref a) (.type "list")
 | frz {a:Addr} {o:Obj} {xs:List V} (e:H a=some (.frz o (.lst xs))):ql K H (.ref a) (.type "list")
 | tup {a:Addr} {xs:List V} (e:H a=some (.tup xs)):ql K H (.ref a) (.type "tuple")
 | dK {a:Addr} {kvs:List (Key×V)} (e:H a=some (.dK kvs)):ql K H (.ref a) (.type "dict")
 | dT {a:Addr} {kvs:List (List Key×V)} (e:H a=some (.dT kvs)):ql K H (.ref a) (.type "dict")
 | ins {a C dx:Addr} {fs:List (Str×V)} (e:H a=some (.ins C dx fs)) (cl:Cls K C) (ha:PySem.W.findIn K (.ref C) "__class__"=some (some (.builtin "object.__class__")))
   (hn:PySem.W.specialIn K (.builtin "object.__class__") "__get__"=some (some (.builtin "getset_descriptor.__get__"))) (htk:PySem.W.takesIn K (.builtin "object.__class__")=some true)
   (hm:PySem.W.mroIn K C (.type "object")=some true):ql K H (.ref a) (.ref C)
theorem Hg {x:V} {u t:Value} (I:Inv X pins σ H s) (rx:RelV x u) (ty:ql X.K H x t) (e:PySem.W.kitOne X.K t c=some b) (h:∀tk,Q (.bool b) { s with toks:=tk }):
  wpAny (model X.prog X.w) A (call (.builtin "isinstance") [u,c]) Q E s:=by
 cases ty with
 | non=>cases (show u=Value.none from rx);exact PySem.W.kia_one PySem.W.kitx_none I.kIn True.intro e (λz=>nomatch z) h
 | bl y=>cases (show u=Value.bool y from rx);exact PySem.W.kia_one PySem.W.kitx_bool I.kIn True.intro e (λz=>nomatch z) h
 | int i=>obtain ⟨t,q⟩:=(show ∃t,u=Value.int i t from rx);cases q;exact PySem.W.kia_one PySem.W.kitx_int I.kIn True.intro e (λz=>nomatch z) h
 | str y=>obtain ⟨t,q⟩:=(show ∃t,u=Value.str y t from rx);cases q;exact PySem.W.kia_one PySem.W.kitx_str I.kIn True.intro e (λz=>nomatch z) h
 | flt y=>obtain ⟨t,q⟩:=(show ∃t,u=Value.float y t from rx);cases q;exact PySem.W.kia_one PySem.W.kitx_float I.kIn True.intro e (λz=>nomatch z) h
 | @lst a xs ea=>
  cases (show u=Value.ref a from rx)
  obtain ⟨_,_,n,_,h1⟩:=(show br X.prog X.w H s.heap a (.lst xs) from I.hok a _ ea);exact PySem.W.kia_one PySem.W.kitx_list I.kIn ⟨_,h1,rfl⟩ e (λz=>nomatch z) h
 | @frz a ob xs ea=>
  cases (show u=Value.ref a from rx)
  obtain ⟨_,_,_,n,_,h1⟩:=(show br X.prog X.w H s.heap a (.frz ob (.lst xs)) from I.hok a _ ea);exact PySem.W.kia_one PySem.W.kitx_list I.kIn ⟨_,h1,rfl⟩ e (λz=>nomatch z) h
 | @tup a xs ea=>
  cases (show u=Value.ref a from rx)
  obtain ⟨_,_,_,p⟩:=(show br X.prog X.w H s.heap a (.tup xs) from I.hok a _ ea);obtain ⟨o,h1,h2,_⟩:=p;exact PySem.W.kia_one PySem.W.kitx_tuple I.kIn ⟨o,h1,h2⟩ e (λz=>nomatch z) h
 | @dK a kvs ea=>
  cases (show u=Value.ref a from rx)
  obtain ⟨_,_,vs,_,p⟩:=(show br X.prog X.w H s.heap a (.dK kvs) from I.hok a _ ea);obtain ⟨o,es,ep,h1,h2,_⟩:=p;exact PySem.W.kia_one PySem.W.kitx_dict I.kIn ⟨o,h1,h2.1⟩ e (λz=>nomatch z) h
 | @dT a kvs ea=>
  cases (show u=Value.ref a from rx)
  obtain ⟨_,_,xs,_,o,es,ep,h1,h2,_⟩:=(show br X.prog X.w H s.heap a (.dT kvs) from I.hok a _ ea);exact PySem.W.kia_one PySem.W.kitx_dict I.kIn ⟨o,h1,h2.1⟩ e (λz=>nomatch z) h
 | @ins a C dx fs ea cl ha hn htk hm=>
  cases (show u=Value.ref a from rx)
  obtain ⟨mA,O,_⟩:=Ph I.hok ea;obtain ⟨od,J,_⟩:=O.look;exact PySem.W.kia_one (PySem.W.kitx_own (cl.get _) cl.hd ha hn htk hm) I.kIn J e (λz=>nomatch z) h
end
end L2
namespace L2
open PySem PySem.Spec PyProof.Rows
structure iy (k:Nat) (A:Around):Prop where
 hd:A.handled=none
 dp:A.depth+3*k+5 < recursionLimit
 un:A.units+16*k+200 < cLine
theorem iy.mono {j k:Nat} {A:Around} (r:iy k A) (h:j≤k):iy j A:=⟨r.hd,by have:=r.dp;omega,by have:=r.un;omega⟩
theorem iy.deeper {k:Nat} {A:Around} (r:iy (k+1) A) (env:Env):iy k (A.deeper env):=
 ⟨r.hd,by have:=r.dp;show A.depth+1+3*k+5 < _;omega,by have:=r.un;show A.units+3+16*k+200 < _;omega⟩
theorem iy.depth {k:Nat} {A:Around} (r:iy k A):A.depth < recursionLimit:=by have:=r.dp;omega
theorem iy.units {k:Nat} {A:Around} (r:iy k A):A.units+64 < cLine:=by have:=r.un;omega
def tNil:TA:=λ_ H Q=>Q [] H
def tCons (ta:TE) (tr:TA):TA:=λσ H Q=>ta σ H λx H1=>tr σ H1 λxs H2=>Q (x::xs) H2
section
variable {X:Cx} {e:Expr} {es:List Expr} {te:TE} {t:TA} {pos:Pos}
theorem Lq:PA X [] tNil:=λ_ _ _ _ H Q I h=>Calls.spliced_nil ⟨[],H,I,.nil,h⟩
theorem Ak (ha:PE X e te) (hr:PA X es t) (hs:starEach (e::es) X.env=(false,eval e X.env)::starEach es X.env:=by rfl):PA X (e::es) (tCons te t):=by
 intro pos pins s σ H Q I h;rw[hs];show wpAny _ _ (spliced ((false,eval e X.env)::backTo pos (starEach es X.env))) _ _ s
 refine Calls.spliced_cons (thn (ha pins s σ H _ I h) λu s1 ⟨x,H1,I1,r1,q1⟩=>?_);exact thn (hr pos pins s1 σ H1 _ I1 q1) λus s2 ⟨xs,H2,I2,r2,q2⟩=>⟨x::xs,H2,I2,.cons r1 r2,q2⟩
def tTup (t:TA):TE:=λσ H Q=>t σ H λxs H1=>xs.length≤sizeLine∧∀p,H1 p=none→Q (.ref p) (upd H1 p (.tup xs))
def tLst (t:TA):TE:=λσ H Q=>t σ H λxs H1=>xs.length≤sizeLine∧∀p,H1 p=none→Q (.ref p) (upd H1 p (.lst xs))
theorem pe_tup {x1} (h:PA X es t):PE X (.Tuple es x1 pos) (tTup t):=by
 intro pins s σ H Q I hq;refine wpAny_Tuple_spliced (thn (h pos pins s σ H _ I hq) λus s1 ⟨xs,H1,I1,r,z,q⟩=>⟨by rw[←r.length];exact z,?_⟩);have hf:H1 s1.heap.objs.size=none:=I1.hok.fresh (aa6 _);refine ⟨.ref s1.heap.objs.size,upd H1 s1.heap.objs.size (.tup xs),I1.laid (t':=s1.toks) (λb u e=>Heap.get?_push_of_some _ e) (aa6 _) ?_,rfl,q _ hf⟩;exact ⟨z,us,r,⟨_,Heap.get?_push_size _ rfl,rfl,_,rfl,rfl⟩⟩
theorem pe_lst (h:PA X es t):PE X (.List es pos) (tLst t):=by
 intro pins s σ H Q I hq;refine wpAny_List_spliced (thn (h pos pins s σ H _ I hq) λus s1 ⟨xs,H1,I1,r,z,q⟩=>⟨by rw[←r.length];exact z,?_⟩);have hf:H1 s1.heap.objs.size=none:=I1.hok.fresh (aa6 _);refine ⟨.ref s1.heap.objs.size,upd H1 s1.heap.objs.size (.lst xs),I1.laid (t':=s1.toks) (λb u e=>Heap.get?_push_of_some _ e) (aa6 _) ?_,rfl,q _ hf⟩;exact ⟨z,us,0,r,Heap.get?_push_size _ rfl⟩
end
abbrev Sp:=List V→Hp→VK→XK→Prop
abbrev CXT:=List Env→Hp→Shared→XK→Value→Shared→Prop
structure Env0 (P:Program) (w:World) (K:PySem.W.Frag) (mg:Str→Option Value) (base:Heap) (A:Around) (outer:List Env) (s:Shared) (H:Hp):Prop where
 frames:A.frames=some outer
 mod:Mod K mg base
 bs:∀b o,base.get? b=some o→s.heap.get? b=some o∧H b=none
 bsz:base.objs.size≤s.heap.objs.size
 se:s.heap.FunFrames base outer
 frf:∀b∈frs outer,H b=none
 hok:HOk P w H s.heap
 bare:AllBare s.gens
def CE (outer:List Env) (P:Program) (w:World) (H:Hp) (s:Shared) (Q:VK) (u:Value) (s':Shared):Prop:=
 ∃v H',s'.os=s.os∧AllBare s'.gens∧Un (frs outer) [] H H' s.heap s'.heap∧HOk P w H' s'.heap∧RelV v u∧Q v H'
def CR (CX:CXT) (outer:List Env) (P:Program) (w:World) (H:Hp) (s:Shared) (Q:VK) (E:XK) (r:Result) (s':Shared):Prop:=
 match r with
 | .ok (.ret u)=>CE outer P w H s Q u s'
 | .ok _=>False
 | .error e=>CX outer H s E e s'
structure qc (P:Program) (w:World) (K:PySem.W.Frag) (mg:Str→Option Value) (base:Heap) (CX:CXT) (k:Nat) (f:Addr) (fd:FuncData) (ps:List Str) (sp:Sp):Prop where
 len:∀vs H Q E,sp vs H Q E→vs.length=ps.length
 run:∀(A:Around) (outer:List Env) (s:Shared) (H:Hp) (args:Args) (us:List Value) (vs:List V) (Q:VK) (E:XK),iy k A→Env0 P w K mg base A outer s H→BindsTo s fd args (ps.zip us)→Vals vs us→sp vs H Q E→
  codeAny (model P w) A (.call (.ref f) args) (CR CX outer P w H s Q E) s
theorem qc.mono {P:Program} {w:World} {K:PySem.W.Frag} {mg:Str→Option Value} {base:Heap} {CX:CXT} {j k:Nat} {f:Addr} {fd:FuncData} {ps:List Str} {sp:Sp} (F:qc P w K mg base CX j f fd ps sp) (h:j≤k):
  qc P w K mg base CX k f fd ps sp:=⟨F.len,λA outer s H args us vs Q E hr=>F.run A outer s H args us vs Q E (hr.mono h)⟩
section
variable {X:Cx} {pins:List (Addr×Obj)} {σ:St} {H:Hp} {s s':Shared}
theorem Inv.env0 (I:Inv X pins σ H s):Env0 X.prog X.w X.K X.mg X.base X.A X.stack s H:=
 ⟨I.ok.frames,I.ok.mod,I.bs,aay I.ok.bsz I.sz,I.stack,I.Fw,I.hok,I.bare⟩
theorem Inv.after {Q:VK} {u:Value} (I:Inv X pins σ H s) (h:CE X.stack X.prog X.w H s Q u s'):EP X pins σ Q u s':=by
 obtain ⟨v,H',os,bare,un,hok,r,q⟩:=h;obtain ⟨hh,g,d,t,os'⟩:=s';obtain rfl:os'=s.os:=os;exact ⟨v,H',I.call (h':=hh) (g':=g) (d':=d) (t':=t) (ch:=[]) un hok bare (λb z=>absurd z (by simp)),r,q⟩
end
def M4 (sp:Sp) (dvs:List V) (E:XK) (t:TA):TE:=λσ H Q=>t σ H λvs H1=>sp (vs++dvs) H1 Q E
def Binds (K:PySem.W.Frag) (fd:FuncData) (ps:List Str) (ds:List Value):Prop:=
 ∀(s:Shared) (us:List Value),K.In s.heap→(us++ds).length=ps.length→BindsTo s fd ⟨us,[]⟩ (ps.zip (us++ds))
theorem Binds.all {K:PySem.W.Frag} {fd:FuncData} {ps:List Str} (h:∀us:List Value,us.length=ps.length→bindArgs fd ⟨us,[]⟩=pure (ps.zip us)):Binds K fd ps []:=λs us _ hl=>by
 rw[ab1] at hl ⊢;exact .of_eq (h us hl)
def Passes (CX:CXT) (X:Cx) (E:XK):Prop:=∀(pins:List (Addr×Obj)) (σ:St) (H:Hp) (s:Shared) (e:Value) (s':Shared),Inv X pins σ H s→CX X.stack H s E e s'→X.xe e s'
section
variable {X:Cx} {CX:CXT} {k:Nat} {f C:Addr} {fd:FuncData} {ps:List Str} {sp:Sp} {dvs:List V} {ds:List Value} {E:XK} {x m:Str} {p pos apos:Pos} {e o:Expr} {es:List Expr} {ta:TE} {t:TA}
theorem run_fn {pins:List (Addr×Obj)} {σ:St} {H:Hp} {s:Shared} {Q:VK} {us:List Value} {vs:List V} (F:qc X.prog X.w X.K X.mg X.base CX k f fd ps sp) (hr:iy k X.A) (hb:Binds X.K fd ps ds) (hd:Vals dvs ds) (hx:Passes CX X E)
  (I:Inv X pins σ H s) (r:Vals vs us) (h:sp (vs++dvs) H Q E):wpAny (model X.prog X.w) X.A (call (.ref f) us) (EP X pins σ Q) X.xe s:=by
 have r2:Vals (vs++dvs) (us++ds):=r.append hd;have hl:(us++ds).length=ps.length:=by rw[←r2.length];exact F.len _ _ _ _ h
 refine wpAny_call (codeAny_mono (F.run X.A X.stack s H ⟨us,[]⟩ (us++ds) (vs++dvs) Q E hr I.env0 (hb s us I.kIn hl) r2 h) λr s' hq=>?_);cases r with
 | error e=>exact hx pins σ H s e s' I hq
 | ok fl=>
  cases fl with
  | ret u=>exact I.after hq
  | next=>exact False.elim hq
  | brk=>exact False.elim hq
  | cont=>exact False.elim hq
theorem Ox (F:qc X.prog X.w X.K X.mg X.base CX k f fd ps sp) (hr:iy k X.A) (hg:Gl X x) (hm:X.mg x=some (.ref f)) (hk:PySem.W.keepIn X.K (.ref f)=true) (hb:Binds X.K fd ps ds) (hd:Vals dvs ds) (hx:Passes CX X E)
  (ha:PA X (e::es) t) (hdb:(x==("__debug__":Str))=false:=by decide) (he:starEach (e::es) X.env=(false,eval e X.env)::starEach es X.env:=by rfl) (hpl:(backTo pos (starEach es X.env)).any (·.1)=false:=by rfl):
  PE X (.Call (.Name x p) (e::es) [] pos) (M4 sp dvs E t):=by
 intro pins s σ H Q I h;refine wpAny_Call_Name_kw (Gu I hg hm ?_ hdb);refine PySem.W.callWith_K (h₀:=X.base) I.ok.mod.kin hk (thn (ha pos pins s σ H _ I h) λus s1 ⟨vs,H1,I1,r,q⟩=>⟨I1.kIn,?_⟩) he hpl;exact run_fn F hr hb hd hx I1 r q
end
section
variable {X:Cx} {CX:CXT} {k:Nat} {f C:Addr} {fd:FuncData} {ps ks:List Str} {sp:Sp} {E:XK} {x m:Str} {p pos apos kpos:Pos} {e o:Expr} {es:List Expr} {kws:List Keyword} {te ta:TE} {t tk:TA} {nm:Option Str}
variable {g:List Value→List Value→List Value} {gV:List V→List V→List V}
end
structure az (N P:List Str) (sc:Scope):Prop where
 kind:sc.kind=.function
 co:sc.isCoroutine=false
 gen:sc.isGenerator=false
 nd:N.Nodup
 pre:N.take P.length=P
 par:∀x∈P,sc.names.lookup x=some .local∨sc.names.lookup x=some .cell
 nofree:∀y∈sc.names,y.2≠.free
theorem ya {kindOf:Str→Option NameKind} {x:Str}:∀{binds:List (Str×Value)} {m:Str→Option Value},(∀v,(x,v)∉binds)→bindL kindOf binds m x=m x
 | [],_,_=>rfl
 | (n,v)::r,m,h=>by
  unfold bindL;rw[ya λw hw=>h w (aaj _ hw)];split
  ·have:x≠n:=by rintro rfl;exact h v aan
   simp[this]
  ·rfl
theorem yi {kindOf:Str→Option NameKind} {x:Str}:∀{binds:List (Str×Value)} {m:Str→Option Value},(∀v,(x,v)∉binds)→bindC kindOf binds m x=m x
 | [],_,_=>rfl
 | (n,v)::r,m,h=>by
  unfold bindC;rw[yi λw hw=>h w (aaj _ hw)];split
  ·rfl
  ·have:x≠n:=by rintro rfl;exact h v aan
   simp[this]
theorem xy {kindOf:Str→Option NameKind} {x:Str} {v:Value}:∀{P:List Str} {vs:List Value} {i:Nat} {m:Str→Option Value},P.Nodup→P[i]?=some x→vs[i]?=some v→kindOf x=some .local→
  bindL kindOf (P.zip vs) m x=some v
 | [],_,_,_,_,h,_,_=>by simp at h
 | _::_,[],_,_,_,_,h,_=>by simp at h
 | p::P,w::vs,0,m,nd,h1,h2,hk=>by
  simp at h1 h2;subst h1;subst h2;show bindL kindOf ((p,w)::P.zip vs) m p=_
  unfold bindL;rw[ya λv hv=>(List.nodup_cons.mp nd).1 (adl hv).1,if_pos hk];simp
 | p::P,w::vs,i+1,m,nd,h1,h2,hk=>by
  show bindL kindOf ((p,w)::P.zip vs) m x=_
  unfold bindL;exact xy (i:=i) (List.nodup_cons.mp nd).2 (by simpa using h1) (by simpa using h2) hk
theorem x9 {kindOf:Str→Option NameKind} {x:Str} {v:Value}:∀{P:List Str} {vs:List Value} {i:Nat} {m:Str→Option Value},P.Nodup→P[i]?=some x→vs[i]?=some v→kindOf x≠some .local→
  bindC kindOf (P.zip vs) m x=some v
 | [],_,_,_,_,h,_,_=>by simp at h
 | _::_,[],_,_,_,_,h,_=>by simp at h
 | p::P,w::vs,0,m,nd,h1,h2,hk=>by
  simp at h1 h2;subst h1;subst h2;show bindC kindOf ((p,w)::P.zip vs) m p=_
  unfold bindC;rw[yi λv hv=>(List.nodup_cons.mp nd).1 (adl hv).1,if_neg hk];simp
 | p::P,w::vs,i+1,m,nd,h1,h2,hk=>by
  show bindC kindOf ((p,w)::P.zip vs) m x=_
  unfold bindC;exact x9 (i:=i) (List.nodup_cons.mp nd).2 (by simpa using h1) (by simpa using h2) hk
noncomputable def start (N:List Str) (vs:List V):St:=vs.map some++aap (N.length - vs.length) none
noncomputable def sd (CX:CXT) (P:Program) (w:World) (K:PySem.W.Frag) (mg:Str→Option Value) (base:Heap) (N:List Str) (qual:Str) (scope:Scope) (f:Addr) (cd:Value) (A:Around) (outer:List Env) (s:Shared) (H:Hp) (E:XK):Cx where
 prog:=P
 w:=w
 K:=K
 mg:=mg
 base:=base
 A:=A.deeper (envOfC qual scope s.heap.objs.size f cd)
 N:=N
 s₀:=s
 H₀:=H
 env:=envOfC qual scope s.heap.objs.size f cd
 outer:=outer
 stack:=envOfC qual scope s.heap.objs.size f cd::outer
 ex:=[]
 calm:=true
 fn:=λ_=>true
 pn:=[]
 xe:=λe s'=>wpAny (model P w) (A.deeper (envOfC qual scope s.heap.objs.size f cd)) (leaving (envOfC qual scope s.heap.objs.size f cd) e) (λ_ s''=>CX outer H s E e s'') (λe' s''=>CX outer H s E e' s'') s'
theorem Cv {sc:Scope} {n:Nat} {x:Str} (h:sc.names.lookup x=some .cell):∃c,(cellsFrom n sc.names []).lookup x=some c:=by
 have q:=PySem.W.cellsFrom_some sc.names n [] (.inl h);exact Option.isSome_iff_exists.mp q
theorem Hc {CX:CXT} {P:Program} {w:World} {K:PySem.W.Frag} {mg:Str→Option Value} {base:Heap} {N ps:List Str} {qual:Str} {scope:Scope} {f:Addr} {cd:Value} {A:Around} {outer:List Env} {s s1:Shared} {H:Hp} {E:XK} {us:List Value} {vs:List V}
  (S:az N ps scope) (hd:A.handled=none) (e0:Env0 P w K mg base A outer s H) (hl:vs.length=ps.length) (r:Vals vs us)
  (x:InCallC s s.heap.objs.size (bindL (envOfC qual scope s.heap.objs.size f cd).kindOf (ps.zip us) λ_=>none) (cellsFrom (s.heap.objs.size+1) scope.names []) (bindC (envOfC qual scope s.heap.objs.size f cd).kindOf (ps.zip us) λ_=>none) s1):
  Inv (sd CX P w K mg base N qual scope f cd A outer s H E) [] (start N vs) H s1:=by
 have hpl:ps.length≤N.length:=by have:=congrArg ac0 S.pre;rw[aaw] at this;omega
 obtain ⟨h1,tk,rfl,hk⟩:=x.done;have noA:∀b:Addr,b∉(sd CX P w K mg base N qual scope f cd A outer s H E).ex:=λb z=>absurd (show b∈([]:List Addr) from z) (by simp);refine ⟨⟨e0.mod,S.kind,rfl,rfl,aa6 _,λy z c h1 h2=>?_,λy hy=>?_,λy c _ h=>?_,λ_=>hd,Around.frames_deeper e0.frames,.inr ⟨rfl,rfl⟩,λb z=>absurd z (noA b),e0.bs,e0.bsz,λb _ _=>noA b,λb z=>absurd z (noA b),e0.se,e0.frf⟩,
  rfl,e0.bare,Un.kept hk,⟨_,x.toInCall.ns,λi y v h1 h2 h3=>?_⟩,λy c h=>⟨_,x.cell y c h⟩,e0.hok.fresh (aa6 _),λy c h=>?_,λp hp=>absurd (show p∈([]:List (Addr×Obj)) from hp) (by simp),e0.hok.kept hk,?_⟩
 ·exact name_of_addr x.apart (PySem.mem_of_lookup h1) (PySem.mem_of_lookup h2)
 ·have hy:scope.names.lookup y=some .cell∨scope.names.lookup y=some .free:=hy;rcases hy with hy | hy
  ·exact Cv hy
  ·exact absurd rfl (S.nofree _ (PySem.mem_of_lookup hy))
 ·exact ac4 (x.above y c (PySem.mem_of_lookup h))
 ·have hi:i < vs.length:=by
   unfold start at h2;by_cases hi:i < vs.length
   ·exact hi
   ·rw[aac (by simpa using hi)] at h2;rw[ae8] at h2;split at h2 <;> cases h2
  have ha:vs[i]?=some v:=by
   unfold start at h2;rw[aae (by simpa using hi),aa7] at h2;cases e:vs[i]? with
   | none=>rw[e] at h2;cases h2
   | some a=>rw[e] at h2;cases h2;rfl
  obtain ⟨u,hu,rv⟩:=r.get ha;have hp:ps[i]?=some y:=by
   rw[←S.pre,ad7 (by omega)];exact h1
  have ndP:ps.Nodup:=by rw[←S.pre];exact S.nd.sublist (adw _ _)
  refine ⟨u,rv,?_⟩;rcases S.par y (aak hp) with k | k
  ·exact .inl ⟨k,xy ndP hp hu k⟩
  ·obtain ⟨c,e⟩:=Cv (n:=s.heap.objs.size+1) k;refine .inr ⟨.inl k,c,e,?_⟩;have q:=x.cell y c e;rw[x9 ndP hp hu (by show scope.names.lookup y≠_;rw[k];decide)] at q;exact q
 ·exact e0.hok.fresh (ac4 (x.above y c (PySem.mem_of_lookup h)))
 ·unfold start;show _=N.length
  rw[aa2,aa1,abi];omega
theorem fn_of {CX:CXT} {P:Program} {w:World} {K:PySem.W.Frag} {mg:Str→Option Value} {base:Heap} {k:Nat} {f:Addr} {name qual:Str} {params:Arguments} {body:List Stmt} {scope:Scope} {dV kV doc pm cdv ct oc:Value} {an od:Option Addr}
  {osl:Array (Option Value)} {N ps:List Str} {sp:Sp} (lk:K.lookup f=some ⟨oc,od,.func (PySem.W.fnOf name qual params body scope dV kV doc pm an cdv ct),osl⟩) (hcd:PySem.W.codeIn K cdv qual=true) (S:az N ps scope)
  (len:∀vs H Q E,sp vs H Q E→vs.length=ps.length)
  (hbody:∀(A:Around) (outer:List Env) (s:Shared) (H:Hp) (vs:List V) (Q:VK) (E:XK),iy k (A.deeper (envOfC qual scope s.heap.objs.size f cdv))→sp vs H Q E→
   ∃t,PSs (sd CX P w K mg base N qual scope f cdv A outer s H E) body t∧t { nx:=λ_ H'=>Q .non H',rt:=Q } (start N vs) H):
  qc P w K mg base CX (k+1) f (PySem.W.fnOf name qual params body scope dV kV doc pm an cdv ct) ps sp:=by
 refine ⟨len,λA outer s H args us vs Q E hr e0 hb r hsp=>?_⟩;have hl:=len _ _ _ _ hsp;have KX:K.In s.heap:=e0.mod.kin.keeps λb o e=>(e0.bs b o e).1;have lim:s.heap.NoLimit:=e0.mod.nolimit.keeps λb o e=>(e0.bs b o e).1;have hkind:∀y∈ps.zip us,scope.names.lookup y.1=some .local∨(scope.names.lookup y.1=some .cell∧((cellsFrom (s.heap.objs.size+1) scope.names []).lookup y.1).isSome=true):=λ⟨n,v⟩ hy=>by
  rcases S.par n (adl hy).1 with q | q
  ·exact .inl q
  ·exact .inr ⟨q,PySem.W.cellsFrom_some _ _ _ (.inl q)⟩
 refine codeAny_call_function hr.depth (KX _ _ lk) rfl S.co S.gen rfl (PySem.W.codeRec_of KX hcd) (hb _ _ _ _ ?_);refine wpAny_newFunctionEnv_cells S.kind hkind λenv he s1 x=>?_;subst he;refine ⟨lim.keeps x.toInCall.keep,codeAny_func ?_⟩;obtain ⟨t,ht,hq⟩:=hbody A outer s H vs Q E (hr.deeper _) hsp;have I:Inv (sd CX P w K mg base N qual scope f cdv A outer s H E) [] (start N vs) H s1:=Hc S hr.hd e0 hl r x;refine wpAny_mono (ht [] s1 (start N vs) H _ I hq) (λfl s' hs=>?_) λe s' hs=>hs;have fin:∀{σ':St} {H':Hp} {v:V} {u:Value},Inv (sd CX P w K mg base N qual scope f cdv A outer s H E) [] σ' H' s'→RelV v u→Q v H'→CE outer P w H s Q u s':=
  λ{σ' H' v u} J rv q=>⟨v,H',J.os,J.bare,J.base,J.hok,rv,q⟩
 cases fl with
 | ret u=>
  obtain ⟨v,σ',H',J,rv,q⟩:=hs;exact fin J rv q
 | next=>
  obtain ⟨σ',H',J,q⟩:=hs;exact fin (v:=V.non) (u:=Value.none) J rfl q
 | brk=>
  obtain ⟨_,_,_,q⟩:=hs;exact False.elim q
 | cont=>
  obtain ⟨_,_,_,q⟩:=hs;exact False.elim q
end L2
namespace L2
open PySem PySem.Spec PyProof.Rows
section
variable {X:Cx} {x:Str} {p pos:Pos} {e:Expr} {es:List Expr} {t:TA} {id T:String} {r:List V→Hp→VK→Prop}
def tCB (r:List V→Hp→VK→Prop) (t:TA):TE:=λσ H Q=>t σ H λvs H1=>r vs H1 Q
theorem L9 (hc:gw X (.builtin id) r) (hg:Gl X x) (hm:X.mg x=none) (hv:bootBuiltins x=some (.builtin id)) (ha:PA X (e::es) t) (hn:x≠"__name__":=by decide) (hdb:(x==("__debug__":Str))=false:=by decide)
  (he:starEach (e::es) X.env=(false,eval e X.env)::starEach es X.env:=by rfl) (hpl:(backTo pos (starEach es X.env)).any (·.1)=false:=by rfl):PE X (.Call (.Name x p) (e::es) [] pos) (tCB r t):=by
 intro pins s σ H Q I h;refine wpAny_Call_Name_kw (jq I hg hm hv ?_ hn hdb);exact PyProof.Rows.callWith_builtin1 (thn (ha pos pins s σ H _ I h) λus s1 ⟨vs,H1,I1,r1,q1⟩=>hc pins s1 σ H1 vs us Q I1 r1 q1) he hpl
theorem Hj (hc:gw X (.type T) r) (hg:Gl X x) (hm:X.mg x=none) (hv:bootBuiltins x=some (.type T)) (ha:PA X (e::es) t) (hn:x≠"__name__":=by decide) (hdb:(x==("__debug__":Str))=false:=by decide)
  (he:starEach (e::es) X.env=(false,eval e X.env)::starEach es X.env:=by rfl) (hpl:(backTo pos (starEach es X.env)).any (·.1)=false:=by rfl):PE X (.Call (.Name x p) (e::es) [] pos) (tCB r t):=by
 intro pins s σ H Q I h;refine wpAny_Call_Name_kw (jq I hg hm hv ?_ hn hdb);exact PyProof.Rows.callWith_type1 (thn (ha pos pins s σ H _ I h) λus s1 ⟨vs,H1,I1,r1,q1⟩=>hc pins s1 σ H1 vs us Q I1 r1 q1) he hpl
end
end L2
namespace HT
open PySem PyProof.Rows
section
open PySem.SeqAt
open PySem.AutoSeq1 (wpAny_loadPart')
open PySem.MeetsSeq PySem.MeetsSeq2 PySem.MeetsSeq3
end
section
variable {prog:Program} {w:World} {A:Around} {E:Value→Shared→Prop} {s:Shared}
theorem Np {t b:Addr} {vs ws:List Value} {Q:Value→Shared→Prop} (ht:IsTup s.heap t vs.toArray) (hb:IsTup s.heap b ws.toArray) (hv:vs≠[])
  (h1:ws=[]→Q (.ref t) s) (h2:ws≠[]→Q (.ref s.heap.objs.size) { s with heap:=s.heap.push { cls:=.type "tuple",data:=.seq (vs++ws).toArray } })
  (hsz:vs.length+ws.length≤sizeLine):wpAny (model prog w) A (binaryOp .Add (.ref t) (.ref b)) Q E s:=by
 obtain ⟨⟨cls,dd,data,sl⟩,ho,hc,n,hd⟩:=id ht;obtain ⟨⟨cls2,dd2,data2,sl2⟩,ho2,hc2,n2,hd2⟩:=id hb;simp only at hc hd hc2 hd2;subst hc hd hc2 hd2;have e:vs.toArray++ws.toArray=(vs++ws).toArray:=by simp
 by_cases hw:ws=[]
 ·exact concat_meets ⟨_,ho,rfl⟩ ⟨_,ho2,rfl⟩ noFill_tuple_add seq_tuple_add PySem.F.slot_tuple_add PySem.F.entry_tuple_add (PySem.F.args_tuple_add_2 _ _)
   (tuple_addW1 t b vs.toArray ws.toArray n n2 dd dd2 sl sl2 (by simpa using hv) (by simp[hw])) ⟨ho,ho2,h1 hw⟩
 ·refine concat_meets ⟨_,ho,rfl⟩ ⟨_,ho2,rfl⟩ noFill_tuple_add seq_tuple_add PySem.F.slot_tuple_add PySem.F.entry_tuple_add (PySem.F.args_tuple_add_2 _ _)
   (tuple_addW2 t b vs.toArray ws.toArray n n2 dd dd2 sl sl2 (by simpa using hv) (by simpa using hw) (by rw[aa5,aa5];exact hsz)) ⟨ho,ho2,?_⟩
  rw[e];exact h2 hw
noncomputable def sIx (n d:Nat):Option Int→Nat
 | none=>d
 | some v=>if v < 0 then (v+(n:Int)).toNat else min v.toNat n
theorem Bb (n d:Nat):sIx n d none=d:=rfl
theorem Gy (n d k:Nat):sIx n d (some (k:Int))=min k n:=by
 show (if (k:Int) < 0 then ((k:Int)+(n:Int)).toNat else min (k:Int).toNat n)=min k n
 rw[if_neg (by omega),ac8]
theorem sIx_le (n d:Nat) (hd:d≤n) (o:Option Int):sIx n d o≤n:=by
 cases o with
 | none=>exact hd
 | some v=>
  show (if v < 0 then (v+(n:Int)).toNat else min v.toNat n)≤n
  by_cases hv:v < 0
  ·rw[if_pos hv];omega
  ·rw[if_neg hv];exact Nat.min_le_right _ _
theorem Gq (v:Int) (n d:Nat):(if v < 0 then max (v+(n:Int)) 0 else min v (n:Int))=((sIx n d (some v):Nat):Int):=by
 show (if v < 0 then max (v+(n:Int)) 0 else min v (n:Int))=(((if v < 0 then (v+(n:Int)).toNat else min v.toNat n):Nat):Int)
 by_cases hv:v < 0
 ·simp only[if_pos hv];omega
 ·simp only[if_neg hv];omega
theorem Dq (lo hi:Option Int) (n:Nat):Builtin.Slice.sliceAdjust lo hi 1 (n:Int)=(((sIx n 0 lo:Nat):Int),((sIx n n hi:Nat):Int)):=by
 have h1:¬((1:Int) < 0):=by omega
 unfold Builtin.Slice.sliceAdjust;simp only[h1,if_false];refine Prod.ext ?_ ?_
 ·cases lo with
  | none=>rfl
  | some v=>exact Gq v n 0
 ·cases hi with
  | none=>rfl
  | some v=>exact Gq v n n
theorem Df (i j:Nat):Builtin.Slice.slicePlaces (i:Int) (j:Int) 1=j - i:=by
 unfold Builtin.Slice.slicePlaces;have h1:(1:Int) > 0:=by omega
 simp only[h1,if_true,Int.ediv_one];split <;> omega
theorem ux {v:Value} {o:Option Int} {Q:Option Int→Shared→Prop} (p:IsPart v o) (h:Q o s):wpAny (model prog w) A (Builtin.Slice.slicePartIndex v) Q E s:=by
 cases p with
 | none=>exact slicePart_none h
 | int i t=>exact slicePart_int h
theorem i8 {sl:Addr} {vl vu:Value} {lo hi:Option Int} {n:Nat} {Q:Int×Int×Nat→Shared→Prop} (hs:s.heap.IsSliceOf sl vl vu .none) (pl:IsPart vl lo) (pu:IsPart vu hi)
  (h:Q (((sIx n 0 lo:Nat):Int),1,sIx n n hi - sIx n 0 lo) s):wpAny (model prog w) A (Builtin.Slice.sliceApplied (.ref sl) (pure (n:Int))) Q E s:=by
 obtain ⟨os,hos,hcs,hds⟩:=id hs;unfold Builtin.Slice.sliceApplied Builtin.Slice.sliceFields;refine wpAny_bind (wpAny_bind (wpAny_field hos hds (x:=vl) rfl (wpAny_bind (wpAny_field hos hds (x:=vu) rfl (wpAny_bind (wpAny_field hos hds (x:=.none) rfl (wpAny_pure ?_)))))));refine wpAny_bind (slicePart_none ?_);show wpAny _ _ (if ((1:Int)==0)=true then _ else _) _ _ s
 rw[if_neg (by decide)];refine wpAny_bind (ux pl (wpAny_bind (ux pu (wpAny_bind (wpAny_pure ?_)))));show wpAny _ _ (match Builtin.Slice.sliceAdjust lo hi 1 (n:Int) with | (lo,hi)=>pure (lo,(1:Int),Builtin.Slice.slicePlaces lo hi 1)) _ _ s
 rw[Dq lo hi n];show wpAny _ _ (pure (((sIx n 0 lo:Nat):Int),(1:Int),Builtin.Slice.slicePlaces ((sIx n 0 lo:Nat):Int) ((sIx n n hi:Nat):Int) 1)) _ _ s
 rw[Df];exact wpAny_pure h
theorem Jv (xs:Array Value) (i k:Nat):((aat k).filterMap λ(m:Nat)=>xs[((i:Int)+(m:Int)*1).toNat]?).toArray=((xs.toList.drop i).take k).toArray:=by
 have e:(λ(m:Nat)=>xs[((i:Int)+(m:Int)*1).toNat]?)=λm=>xs[i+m]?:=by
  funext m
  have:((i:Int)+(m:Int)*1).toNat=i+m:=by omega
  rw[this]
 rw[e];have:=pick_run xs i k;rw[List.filterMap_map] at this;have e2:((λx=>xs[x]?) ∘ λx=>i+x)=λm=>xs[i+m]?:=rfl;rw[e2] at this;rw[this]
theorem pz {t sl:Addr} {items:Array Value} {vl vu:Value} {lo hi:Option Int} {Q:Value→Shared→Prop} (ht:IsTup s.heap t items) (hs:s.heap.IsSliceOf sl vl vu .none) (pl:IsPart vl lo) (pu:IsPart vu hi)
  (hw:¬(sIx items.size 0 lo=0∧sIx items.size items.size hi=items.size))
  (h:Q (.ref s.heap.objs.size) { s with heap:=s.heap.push { cls:=.type "tuple",data:=.seq ((items.toList.drop (sIx items.size 0 lo)).take (sIx items.size items.size hi - sIx items.size 0 lo)).toArray } })
  (hsz:items.size≤sizeLine):wpAny (model prog w) A (getItem (.ref t) (.ref sl)) Q E s:=by
 have htake:sizeOk (.seq ((items.toList.drop (sIx items.size 0 lo)).take (sIx items.size items.size hi - sIx items.size 0 lo)).toArray):=by
  show ((items.toList.drop (sIx items.size 0 lo)).take (sIx items.size items.size hi - sIx items.size 0 lo)).toArray.size≤sizeLine
  rw[aa5,aaw,aah,aag];omega
 have hj:sIx items.size items.size hi≤items.size:=sIx_le _ _ (aa6 _) hi;obtain ⟨os,hos,hcs,hds⟩:=id hs;have hTs:s.TypeIs (.ref sl) "slice":=⟨os,hos,hcs⟩;unfold getItem;try with_reducible refine wpAny_holding ?_
 first | refine wpAny_bind (wpAny_pure ?_) | skip
 refine wpAny_bind (wpAny_sequenceKey ht.typeIs (by decide) ?_);refine wpAny_bind (wpAny_callSpecial?_slot (name:=Str.ofString "__getitem__") ht.typeIs PyProof.Rows.slot_tuple_getitem
  (wpAny_call_entry PyProof.Rows.slot_tuple_getitem ht.typeIs entry_tuple_getitem ?_ (args_tuple_getitem _ _)))
 show wpAny _ _ (Builtin.Tuple.tupleItemsOf (.ref t) >>=_) _ _ s
 refine wpAny_bind (tupleItemsOf_ ht ?_);refine wpAny_bind (wpAny_typeOf hTs ?_);rw[if_pos (by decide)];refine wpAny_bind (i8 hs pl pu ?_);have hno:¬((((sIx items.size 0 lo:Nat):Int)==0&&(1:Int)==1&&(sIx items.size items.size hi - sIx items.size 0 lo)==items.size)=true):=by
  intro q;rw[ad0,ad0] at q;have q1:((sIx items.size 0 lo:Nat):Int)=0:=eq_of_beq q.1.1;have q2:sIx items.size items.size hi - sIx items.size 0 lo=items.size:=eq_of_beq q.2;exact hw ⟨by omega,by omega⟩
 show wpAny _ _ (if (((sIx items.size 0 lo:Nat):Int)==0&&(1:Int)==1&&(sIx items.size items.size hi - sIx items.size 0 lo)==items.size)=true then _ else _) _ _ s
 rw[if_neg hno,Jv];first
  | exact wpAny_bind (m:=Builtin.Tuple.tupleExact _) (wpAny_newObj_type (wpAny_pure ⟨_,rfl,wpAny_pure h⟩) htake)
  | exact wpAny_bind (m:=Builtin.Tuple.tupleExact _) (wpAny_newObj_type (wpAny_bind (wpAny_pure (wpAny_pure ⟨_,rfl,wpAny_pure h⟩))) htake)
  | exact wpAny_bind (wpAny_bind (m:=Builtin.Tuple.tupleExact _) (wpAny_newObj_type (wpAny_pure (wpAny_pure ⟨_,rfl,wpAny_pure h⟩)) htake))
  | exact wpAny_bind (wpAny_bind (m:=Builtin.Tuple.tupleExact _) (wpAny_newObj_type (wpAny_pure ⟨_,rfl,wpAny_pure h⟩) htake))
end
end HT
namespace L2
open PySem PySem.Spec PyProof.Rows
abbrev TO:=St→Hp→(Option Int→Hp→Prop)→Prop
def PO (X:Cx) (e:Option Expr) (t:TO):Prop:=
 ∀(pins:List (Addr×Obj)) (s:Shared) (σ:St) (H:Hp) (Q:Option Int→Hp→Prop),Inv X pins σ H s→t σ H Q→
  wpAny (model X.prog X.w) X.A (evalPart e X.env) (λu s'=>∃o H',Inv X pins σ H' s'∧IsPart u o∧Q o H') X.xe s
def E4:TO:=λ_ H Q=>Q none H
def K0 (t:TE):TO:=λσ H Q=>t σ H λx H1=>∃i,x=.int i∧Q (some i) H1
section
variable {X:Cx} {e:Expr} {te:TE} {lo hi:Option Expr} {tl th:TO} {pos p2:Pos}
theorem Pu:PO X none E4:=by
 intro pins s σ H Q I h;rw[evalPart_none];exact wpAny_pure ⟨none,H,I,.none,h⟩
theorem Pg (h:PE X e te):PO X (some e) (K0 te):=by
 intro pins s σ H Q I hw;rw[evalPart_some];refine thn (h pins s σ H _ I hw) λu s1 ⟨x,H1,I1,r1,q1⟩=>?_;obtain ⟨i,rfl,q⟩:=q1;obtain ⟨t,rfl⟩:=r1;exact ⟨some i,H1,I1,.int i t,q⟩
def SlR (X:Cx) (r:V→Option Int→Option Int→Hp→VK→Prop):Prop:=
 ∀(pins:List (Addr×Obj)) (s:Shared) (σ:St) (H:Hp) (x:V) (v vl vu:Value) (lo hi:Option Int) (sl:Addr) (Q:VK),Inv X pins σ H s→RelV x v→s.heap.IsSliceOf sl vl vu .none→IsPart vl lo→IsPart vu hi→r x lo hi H Q→
  ∃T id,typeLookup (.type T) "__getitem__"=pure (some (.builtin id))∧s.TypeIs v T∧wpAny (model X.prog X.w) X.A (getItem v (.ref sl)) (EP X pins σ Q) X.xe s
def tSl (r:V→Option Int→Option Int→Hp→VK→Prop) (te:TE) (tl th:TO):TE:=λσ H Q=>te σ H λx H1=>tl σ H1 λl H2=>th σ H2 λu H3=>r x l u H3 Q
theorem Kc {r:V→Option Int→Option Int→Hp→VK→Prop} (hr:SlR X r) (he:PE X e te) (hl:PO X lo tl) (hu:PO X hi th):PE X (.Subscript e (.Slice lo hi none p2) pos) (tSl r te tl th):=by
 intro pins s σ H Q I h;refine Subscript_ (thn (he pins s σ H _ I h) λv s1 ⟨x,H1,I1,r1,q1⟩=>?_);refine wpAny_Slice (thn (hl pins s1 σ H1 _ I1 q1) λvl s2 ⟨l,H2,I2,pl,q2⟩=>thn (hu pins s2 σ H2 _ I2 q2) λvu s3 ⟨u,H3,I3,pu,q3⟩=>?_);rw[evalPart_none];refine wpAny_pure ?_;have I4:Inv X pins σ H3 { s3 with heap:=s3.heap.push { cls:=.type "slice",data:=.fields #[vl,vu,.none] } }:=I3.kept (t':=s3.toks) λb ob q=>Heap.get?_push_of_some _ q;obtain ⟨T,id,hT,ht,hg⟩:=hr pins { s3 with heap:=s3.heap.push { cls:=.type "slice",data:=.fields #[vl,vu,.none] } } σ H3 x v vl vu l u s3.heap.objs.size Q I4 r1 (Heap.IsSliceOf.new ..) pl pu q3;show wpAny (model X.prog X.w) X.A (subscriptTail e (.Slice lo hi none p2) v (.ref s3.heap.objs.size)) (EP X pins σ Q) X.xe { s3 with heap:=s3.heap.push { cls:=.type "slice",data:=.fields #[vl,vu,.none] } }
 exact tail_any (ops:=[.ref s3.heap.objs.size,v]) ht hT hg (by with_unfolding_all rfl)
noncomputable def cn (xs:List V) (lo hi:Option Int):List V:=(xs.drop (HT.sIx xs.length 0 lo)).take (HT.sIx xs.length xs.length hi - HT.sIx xs.length 0 lo)
theorem dm (xs:List V) (lo hi:Option Int):(cn xs lo hi).length≤xs.length:=by
 unfold cn;rw[aaw,aah];omega
def rSlT (K:PySem.W.Frag):V→Option Int→Option Int→Hp→VK→Prop:=λx lo hi H Q=>∃a xs,x=.ref a∧SqT K H a xs∧
 ¬(HT.sIx xs.length 0 lo=0∧HT.sIx xs.length xs.length hi=xs.length)∧∀p,H p=none→Q (.ref p) (upd H p (.tup (cn xs lo hi)))
theorem sl_tup:SlR X (rSlT X.K):=by
 intro pins s σ H x v vl vu lo hi sl Q I rx hs pl pu h;obtain ⟨a,xs,rfl,hx,hw,q⟩:=h;cases rx
 obtain ⟨its,r,ht,hz⟩:=I.tuple hx;have hlen:its.toArray.size=xs.length:=by rw[aa5];exact r.length.symm
 refine ⟨"tuple",_,PyProof.Rows.slot_tuple_getitem.lookup,ht.typeIs,?_⟩;refine HT.pz ht hs pl pu (by rw[hlen];exact hw) ?_ (by rw[hlen];exact hz);rw[hlen];refine ⟨.ref s.heap.objs.size,_,I.laid (t':=s.toks) (o:=.tup (cn xs lo hi)) (λb ob q=>Heap.get?_push_of_some _ q) (aa6 _) ?_,rfl,q _ (I.hok.fresh (aa6 _))⟩;exact ⟨aay (dm xs lo hi) hz,_,(r.drop (HT.sIx xs.length 0 lo)).take (HT.sIx xs.length xs.length hi - HT.sIx xs.length 0 lo),⟨_,Heap.get?_push_size _ rfl,rfl,_,rfl,rfl⟩⟩
def rCatT (K:PySem.W.Frag):R2:=λx y H Q=>∃a b xs ys,x=.ref a∧y=.ref b∧SqT K H a xs∧SqT K H b ys∧xs≠[]∧xs.length+ys.length≤sizeLine∧
 (ys=[]→Q (.ref a) H)∧(ys≠[]→∀p,H p=none→Q (.ref p) (upd H p (.tup (xs++ys))))
theorem Vals.ug {xs:List V} {us:List Value} (r:Vals xs us):us=[]↔xs=[]:=by
 cases r with
 | nil=>simp
 | cons _ _=>simp
theorem Qm:OpR X (binaryOp .Add) (rCatT X.K):=by
 intro pins s σ H x y v u Q I rx ry h;obtain ⟨a,b,xs,ys,rfl,rfl,ha,hb,hx,hz,q1,q2⟩:=h;cases rx
 cases ry
 obtain ⟨its,r1,p1,_⟩:=I.tuple ha;obtain ⟨its2,r2,p2,_⟩:=I.tuple hb;refine HT.Np p1 p2 (λz=>hx (r1.ug.mp z)) (λz=>⟨.ref a,H,I,rfl,q1 (r2.ug.mp z)⟩) (λz=>?_) (by rw[←r1.length,←r2.length];exact hz);refine ⟨.ref s.heap.objs.size,_,I.laid (t':=s.toks) (o:=.tup (xs++ys)) (λb ob q=>Heap.get?_push_of_some _ q) (aa6 _) ?_,rfl,q2 (λw=>z (r2.ug.mpr w)) _ (I.hok.fresh (aa6 _))⟩;exact ⟨by rw[aa2];exact hz,_,r1.append r2,⟨_,Heap.get?_push_size _ rfl,rfl,_,rfl,rfl⟩⟩
end
end L2
namespace L2
open PySem PySem.Spec PyProof.Rows
noncomputable def ixN (n:Nat) (i:Int):Option Nat:=if 0≤i then (if i < n then some i.toNat else none) else if -(n:Int)≤i then some (i+n).toNat else none
noncomputable def atI {α:Type} (xs:List α) (i:Int):Option α:=(ixN xs.length i).bind λj=>xs[j]?
theorem Fv {n:Nat} {i:Int} {j:Nat} (h:ixN n i=some j):seqIndex? i n=some j∧j < n∧-(n:Int)≤i∧i < n:=by
 unfold ixN at h;by_cases h0:0≤i
 ·rw[if_pos h0] at h;by_cases h1:i < n
  ·rw[if_pos h1] at h;have e:i.toNat=j:=aa3 h;exact ⟨by rw[seqIndex_of h0 h1,e],by omega,by omega,h1⟩
  ·rw[if_neg h1] at h;cases h
 ·rw[if_neg h0] at h;by_cases h1:-(n:Int)≤i
  ·rw[if_pos h1] at h;have e:(i+n).toNat=j:=aa3 h;exact ⟨by rw[seqIndex_neg (by omega) h1,e],by omega,h1,by omega⟩
  ·rw[if_neg h1] at h;cases h
theorem Al {α:Type} {xs:List α} {i:Int} {v:α} (h:atI xs i=some v):∃j,seqIndex? i xs.length=some j∧xs[j]?=some v∧j < xs.length∧-(xs.length:Int)≤i∧i < xs.length:=by
 unfold atI at h;cases e:ixN xs.length i with
 | none=>rw[e] at h;cases h
 | some j=>
  rw[e] at h;obtain ⟨h1,h2,h3,h4⟩:=Fv e;exact ⟨j,h1,h,h2,h3,h4⟩
theorem bo {α:Type} {xs:List α} {j:Nat} {v:α} (h:xs[j]?=some v):atI xs (j:Int)=some v:=by
 have hj:j < xs.length:=(List.getElem?_eq_some_iff.mp h).1;have e:ixN xs.length (j:Int)=some j:=by
  unfold ixN;rw[if_pos (by omega),if_pos (by omega)];simp
 unfold atI;rw[e];exact h
def O4 (b:Expr):Prop:=∀o i,subscripted b false o i=operate [o,i] (getItem o i)
def IxR (X:Cx) (r:R2):Prop:=
 ∀(value slice:Expr) (pins:List (Addr×Obj)) (s:Shared) (σ:St) (H:Hp) (x y:V) (v u:Value) (Q:VK),Inv X pins σ H s→RelV x v→RelV y u→r x y H Q→
  subscripted slice false v u=operate [v,u] (getItem v u)→wpAny (model X.prog X.w) X.A (subscriptTail value slice v u) (EP X pins σ Q) X.xe s
def MtR (X:Cx) (id:String) (r:V→List V→Hp→VK→Prop):Prop:=
 ∀(pins:List (Addr×Obj)) (s:Shared) (σ:St) (H:Hp) (x:V) (xs:List V) (v:Value) (us:List Value) (Q:VK),Inv X pins σ H s→RelV x v→Vals xs us→r x xs H Q→
  wpAny (model X.prog X.w) X.A (call (.builtin id) (v::us)) (EP X pins σ Q) X.xe s
section
variable {X:Cx} {a b:Expr} {ta tb:TE} {pos:Pos}
theorem pe_ix {r:R2} (hr:IxR X r) (ha:PE X a ta) (hb:PE X b tb) (hs:O4 b):PE X (.Subscript a b pos) (tOp r ta tb):=by
 intro pins s σ H Q I h;exact Subscript_ (binT ha hb I h λv u s2 x y H2 I2 rx ry q=>hr a b pins s2 σ H2 x y v u Q I2 rx ry q (hs _ _))
def rIxL (K:PySem.W.Frag):R2:=λx y H Q=>∃p xs i v,x=.ref p∧y=.int i∧SqL K H p xs∧atI xs i=some v∧Q v H
def rIxT (K:PySem.W.Frag):R2:=λx y H Q=>∃p xs i v,x=.ref p∧y=.int i∧SqT K H p xs∧atI xs i=some v∧Q v H
def rIxS:R2:=λx y H Q=>∃z i c,x=.str z∧y=.int i∧z.length≤sizeLine∧atI z.cps.toList i=some c∧Q (.str ⟨#[c]⟩) H
theorem Ff:IxR X (rIxL X.K):=by
 intro value slice pins s σ H x y v u Q I rx ry h hs;obtain ⟨p,xs,i,z,rfl,rfl,hq,he,q⟩:=h;cases rx
 obtain ⟨t,rfl⟩:=ry;obtain ⟨its,r,pl,hz⟩:=I.list hq;obtain ⟨j,h1,h2,h3,h4,h5⟩:=Al he;obtain ⟨w,ew,rw'⟩:=r.get h2;have hl:=r.length;have hn:=ur;have fin:EP X pins σ Q w s:=⟨z,H,I,rw',q⟩;by_cases h0:0≤i
 ·have hj:i.toNat=j:=by
   rw[seqIndex_of h0 h5] at h1;exact aa3 h1
  exact item_listR pl.isList h0 (by omega) (by rw[hj];simpa using ew) fin hs
 ·have hj:(i+(its.toArray.size:Int)).toNat=j:=by
   rw[seqIndex_neg (by omega) h4] at h1;rw[aa5,←hl];exact aa3 h1
  exact subscriptTail_builtinR (x:=w) pl.isList.typeIs slot_list_getitem.lookup
   (wpAny_getItem_list_neg (Q:=λr s'=>r=w∧EP X pins σ Q r s') pl.isList (by omega) (by rw[aa5] <;> omega) (by omega) (by rw[hj];simpa using ew) ⟨rfl,fin⟩) hs
theorem Kf:IxR X (rIxT X.K):=by
 intro value slice pins s σ H x y v u Q I rx ry h hs;obtain ⟨p,xs,i,z,rfl,rfl,hq,he,q⟩:=h;cases rx
 obtain ⟨t,rfl⟩:=ry;obtain ⟨its,r,pl,hz⟩:=I.tuple hq;obtain ⟨j,h1,h2,h3,h4,h5⟩:=Al he;obtain ⟨w,ew,rw'⟩:=r.get h2;have hl:=r.length;have hn:=ur;have fin:EP X pins σ Q w s:=⟨z,H,I,rw',q⟩;exact subscriptTail_builtinR (x:=w) pl.typeIs slot_tuple_getitem.lookup
  (getItem_tuple (j:=j) (Q:=λr s'=>r=w∧EP X pins σ Q r s') pl (by omega) (by omega) (by rw[aa5,←hl];exact h1) (by simpa using ew) ⟨rfl,fin⟩) hs
theorem ka:IxR X rIxS:=by
 intro value slice pins s σ H x y v u Q I rx ry h hs;obtain ⟨z,i,c,rfl,rfl,hz,he,q⟩:=h;obtain ⟨t,rfl⟩:=rx;obtain ⟨t',rfl⟩:=ry;obtain ⟨j,h1,h2,h3,h4,h5⟩:=Al he;have hl:z.cps.toList.length=z.length:=by simp[Str.length]
 rw[hl] at h1 h4 h5;have hn:=ur;exact tail_any (typeIs_str s z t) slot_str_getitem.lookup (getItem_str (c:=c) (by
  have e1:decide (i < -(2 ^ 63:Int))=false:=decide_eq_false (by omega);have e2:decide (i≥2 ^ 63)=false:=decide_eq_false (by omega);rw[e1,e2,Bool.or_false]) (by rw[h1];simpa using h2) ⟨.str ⟨#[c]⟩,H,I.tok _,⟨_,rfl⟩,q⟩) hs
theorem Dv (its:List Value) (n j:Nat) (u:Value):Obj.mapSeq (·.setIfInBounds j u) { cls:=.type "list",data:=.seq its.toArray n }={ cls:=.type "list",data:=.seq (its.set j u).toArray n }:=by
 simp[Obj.mapSeq]
theorem Inv.lst {pins:List (Addr×Obj)} {σ:St} {H:Hp} {s:Shared} {p:Addr} {xs:List V} (I:Inv X pins σ H s) (h:H p=some (.lst xs)):
  ∃(its:List Value) (n:Nat),Vals xs its∧s.heap.get? p=some { cls:=.type "list",data:=.seq its.toArray n }∧xs.length≤sizeLine:=by
 obtain ⟨z,its,n,r,e⟩:=I.hok p _ h;exact ⟨its,n,r,e,z⟩
theorem Inv.lstUpd {pins:List (Addr×Obj)} {σ:St} {H:Hp} {s:Shared} {p:Addr} {xs ys:List V} {its its':List Value} {n n':Nat} {f:Obj→Obj} (I:Inv X pins σ H s) (h:H p=some (.lst xs))
  (ho:s.heap.get? p=some { cls:=.type "list",data:=.seq its.toArray n }) (hf:f { cls:=.type "list",data:=.seq its.toArray n }={ cls:=.type "list",data:=.seq its'.toArray n' }) (r:Vals ys its') (hz:ys.length≤sizeLine) (t:Nat):
  Inv X pins σ (upd H p (.lst ys)) { s with heap:=s.heap.update p f,toks:=t }:=by
 have e:(s.heap.update p f).get? p=some { cls:=.type "list",data:=.seq its'.toArray n' }:=by
  rw[Heap.get?_update_self f ho (by rw[hf] <;> rfl),hf]
 refine I.write (x:=p) (e:=p) (by rw[h];trivial) (.inl rfl) (λb u hb q=>(Heap.get?_update_other _ _ (Ne.symm hb)).trans q) ⟨_,e⟩ ?_;exact ⟨hz,its',n',r,e⟩
def Mg:V→V→V→Hp→(Hp→Prop)→Prop:=λo i v H Q=>∃p xs k j,o=.ref p∧i=.int k∧H p=some (.lst xs)∧ixN xs.length k=some j∧Q (upd H p (.lst (xs.set j v)))
theorem set_list:PSet X Mg:=by
 intro pins s σ H o i v ov iv u Q I ro ri rv h;obtain ⟨p,xs,k,j,rfl,rfl,hp,hj,q⟩:=h;cases ro
 obtain ⟨t,rfl⟩:=ri;obtain ⟨its,n,r,ho,hz⟩:=I.lst hp;obtain ⟨h1,h2,h3,h4⟩:=Fv hj;have hl:=r.length;have hn:=ur;have I':Inv X pins σ (upd H p (.lst (xs.set j v))) { s with heap:=s.heap.update p (Obj.mapSeq (·.setIfInBounds j u)) }:=
  I.lstUpd hp ho (Dv its n j u) (r.set rv j) (by rw[ae9];exact hz) s.toks
 by_cases h0:0≤k
 ·have hk:k.toNat=j:=by
   rw[seqIndex_of h0 h4] at h1;exact aa3 h1
  exact PySem.W.ki_setAt ho h0 (by omega) (by rw[aa5,←hl];exact h4) (by rw[hk];exact ⟨_,I',q⟩)
 ·have hk:(k+(its.toArray.size:Int)).toNat=j:=by
   rw[seqIndex_neg (by omega) h3] at h1;rw[aa5,←hl];exact aa3 h1
  exact PySem.W.ki_setBack ho (by omega) (by rw[aa5,←hl];exact h3) (by omega) (by rw[hk];exact ⟨_,I',q⟩)
theorem An (lo hi:Option Int) (n:Nat):(sliceBounds lo hi none n).1=((HT.sIx n 0 lo:Nat):Int)∧(sliceBounds lo hi none n).2.1=((HT.sIx n n hi:Nat):Int)∧(sliceBounds lo hi none n).2.2=1:=by
 refine ⟨?_,?_,rfl⟩
 ·cases lo with
  | none=>simp[sliceBounds,HT.sIx]
  | some i=>
   simp only[sliceBounds,HT.sIx,ae2,show (1:Int) > 0 by decide,if_true];by_cases h:i < 0
   ·simp only[h,if_true] <;> omega
   ·simp only[h,if_false] <;> omega
 ·cases hi with
  | none=>simp[sliceBounds,HT.sIx]
  | some i=>
   simp only[sliceBounds,HT.sIx,ae2,show (1:Int) > 0 by decide,if_true];by_cases h:i < 0
   ·simp only[h,if_true] <;> omega
   ·simp only[h,if_false] <;> omega
theorem xq (its:List Value) (lo hi:Option Int):slicePick its.toArray lo hi none=((its.drop (HT.sIx its.length 0 lo)).take (HT.sIx its.length its.length hi - HT.sIx its.length 0 lo)).toArray:=by
 obtain ⟨h1,h2,h3⟩:=An lo hi its.toArray.size;unfold slicePick;rw[h1,h2,h3];simp only[sliceRange_one,pick_run,aa5] <;> rfl
def rSlL (K:PySem.W.Frag):V→Option Int→Option Int→Hp→VK→Prop:=λx lo hi H Q=>∃a xs,x=.ref a∧SqL K H a xs∧∀p,H p=none→Q (.ref p) (upd H p (.lst (cn xs lo hi)))
theorem Qr:SlR X (rSlL X.K):=by
 intro pins s σ H x v vl vu lo hi sl Q I rx hs pl pu h;obtain ⟨a,xs,rfl,hx,q⟩:=h;cases rx
 obtain ⟨its,r,ht,hz⟩:=I.list hx;have hlen:=r.length;refine ⟨"list",_,slot_list_getitem.lookup,ht.isList.typeIs,?_⟩;refine wpAny_getItem_list_slice ht.isList hs pl pu .none (by simp) ?_ (by rw[aa5] <;> omega);rw[xq,←hlen];refine ⟨.ref s.heap.objs.size,_,I.laid (t':=s.toks) (o:=.lst (cn xs lo hi)) (λb ob q=>Heap.get?_push_of_some _ q) (aa6 _) ?_,rfl,q _ (I.hok.fresh (aa6 _))⟩;exact ⟨aay (dm xs lo hi) hz,_,0,(r.drop (HT.sIx xs.length 0 lo)).take (HT.sIx xs.length xs.length hi - HT.sIx xs.length 0 lo),Heap.get?_push_size _ rfl⟩
noncomputable def ij:V→Bool
 | .non=>true
 | .bl _=>true
 | .int _=>true
 | .str _=>true
 | _=>false
noncomputable def eqV:V→V→Bool
 | .non,.non=>true
 | .bl a,.bl b=>a==b
 | .bl a,.int b=>(if a then 1 else 0)==b
 | .int a,.bl b=>a==(if b then 1 else 0)
 | .int a,.int b=>a==b
 | .str a,.str b=>a==b
 | _,_=>false
theorem Ku {A:Around} {s:Shared} {y x:V} {u v:Value} (ry:RelV y u) (rx:RelV x v) (fy:ij y=true) (fx:ij x=true):SeqAt.EqAt A s u v (eqV y x):=by
 cases y with
 | non=>
  cases ry
  cases x with
  | non=>cases rx;exact SeqAt.EqAt.same _
  | bl b=>cases rx;exact SeqAt.EqAt.none_bool b
  | int b=>obtain ⟨t,rfl⟩:=rx;exact SeqAt.EqAt.none_int b t
  | str b=>obtain ⟨t,rfl⟩:=rx;exact SeqAt.EqAt.none_str b t
  | _=>exact absurd (show false=true from fx) aab
 | bl a=>
  cases ry
  cases x with
  | non=>cases rx;exact SeqAt.EqAt.bool_none a
  | bl b=>cases rx;exact SeqAt.EqAt.bool_bool a b
  | int b=>obtain ⟨t,rfl⟩:=rx;exact SeqAt.EqAt.bool_int a b t
  | str b=>obtain ⟨t,rfl⟩:=rx;exact SeqAt.EqAt.bool_str a b t
  | _=>exact absurd (show false=true from fx) aab
 | int a=>
  obtain ⟨t',rfl⟩:=ry;cases x with
  | non=>cases rx;exact SeqAt.EqAt.int_none a t'
  | bl b=>cases rx;exact SeqAt.EqAt.int_bool a t' b
  | int b=>obtain ⟨t,rfl⟩:=rx;exact SeqAt.EqAt.int_int a t' b t
  | str b=>obtain ⟨t,rfl⟩:=rx;exact SeqAt.EqAt.int_str a t' b t
  | _=>exact absurd (show false=true from fx) aab
 | str a=>
  obtain ⟨t',rfl⟩:=ry;cases x with
  | non=>cases rx;exact SeqAt.EqAt.str_none a t'
  | bl b=>cases rx;exact SeqAt.EqAt.str_bool a t' b
  | int b=>obtain ⟨t,rfl⟩:=rx;exact SeqAt.EqAt.str_int a t' b t
  | str b=>obtain ⟨t,rfl⟩:=rx;exact SeqAt.EqAt.str_str a t' b t
  | _=>exact absurd (show false=true from fx) aab
 | _=>exact absurd (show false=true from fy) aab
noncomputable def eqU (x:V) (u:Value):Bool:=match u with
 | .none=>eqV .non x
 | .bool b=>eqV (.bl b) x
 | .int i _=>eqV (.int i) x
 | .str z _=>eqV (.str z) x
 | _=>false
theorem Jl {x y:V} {u:Value} (r:RelV y u) (f:ij y=true):eqU x u=eqV y x:=by
 cases y with
 | non=>cases r;rfl
 | bl b=>cases r;rfl
 | int i=>obtain ⟨t,rfl⟩:=r;rfl
 | str z=>obtain ⟨t,rfl⟩:=r;rfl
 | _=>exact absurd (show false=true from f) aab
theorem oa {x:V}:∀{xs:List V} {us:List Value},Vals xs us→xs.all ij=true→us.any (eqU x)=xs.any λy=>eqV y x
 | _,_,.nil,_=>rfl
 | y::xs,u::us,.cons r t,f=>by
  rw[List.all_cons,ad0] at f;rw[adh,adh,Jl r f.1,oa t f.2]
theorem kb {A:Around} {s:Shared} {x:V} {v:Value} (rx:RelV x v) (fx:ij x=true):∀{xs:List V} {us:List Value},Vals xs us→xs.all ij=true→∀u∈us,SeqAt.EqAt A s u v (eqU x u)
 | _,_,.nil,_=>λu hu=>by cases hu
 | y::xs,u::us,.cons r t,f=>λu' hu=>by
  rw[List.all_cons,ad0] at f;rcases List.mem_cons.mp hu with rfl | hu
  ·rw[Jl r f.1];exact Ku r rx f.1 fx
  ·exact kb rx fx t f.2 u' hu
noncomputable def inV (x:V) (xs:List V):Bool:=xs.any λy=>eqV y x
def rIn (K:PySem.W.Frag) (neg:Bool):R2:=λx y H Q=>∃p xs,y=.ref p∧(SqL K H p xs∨SqT K H p xs)∧ij x=true∧xs.all ij=true∧Q (.bl (if neg then !inV x xs else inV x xs)) H
theorem yq:OpR X (compareOp .In) (rIn X.K false):=by
 intro pins s σ H x y v u Q I rx ry h;obtain ⟨p,xs,rfl,hq,fx,fs,q⟩:=h;cases ry
 rcases hq with hq | hq
 ·obtain ⟨its,r,pl,hz⟩:=I.list hq;refine SeqAt.in_listAt (eqU x) pl.isList (λw hw=>kb rx fx r fs w (by simpa using hw)) ⟨.bl _,H,I,rfl,?_⟩;rw[show its.toArray.any (eqU x)=its.any (eqU x) by simp,oa r fs];exact q
 ·obtain ⟨its,r,pl,hz⟩:=I.tuple hq;refine SeqAt.in_tupleAt (eqU x) pl (λw hw=>kb rx fx r fs w (by simpa using hw)) ⟨.bl _,H,I,rfl,?_⟩;rw[show its.toArray.any (eqU x)=its.any (eqU x) by simp,oa r fs];exact q
theorem je:OpR X (compareOp .NotIn) (rIn X.K true):=by
 intro pins s σ H x y v u Q I rx ry h;obtain ⟨p,xs,rfl,hq,fx,fs,q⟩:=h;cases ry
 rcases hq with hq | hq
 ·obtain ⟨its,r,pl,hz⟩:=I.list hq;refine SeqAt.notIn_listAt (eqU x) pl.isList (λw hw=>kb rx fx r fs w (by simpa using hw)) ⟨.bl _,H,I,rfl,?_⟩;rw[show its.toArray.any (eqU x)=its.any (eqU x) by simp,oa r fs];exact q
 ·obtain ⟨its,r,pl,hz⟩:=I.tuple hq;refine SeqAt.notIn_tupleAt (eqU x) pl (λw hw=>kb rx fx r fs w (by simpa using hw)) ⟨.bl _,H,I,rfl,?_⟩;rw[show its.toArray.any (eqU x)=its.any (eqU x) by simp,oa r fs];exact q
theorem Ab:gw X (.builtin "len") (λxs H Q=>∃p ys,xs=[.ref p]∧(SqL X.K H p ys∨SqT X.K H p ys)∧Q (.int ys.length) H):=by
 intro pins s σ H xs us Q I r h;obtain ⟨p,ys,rfl,hq,q⟩:=h;obtain ⟨u,rfl,rx⟩:=vals1 r;cases rx
 have hn:=ur;rcases hq with hq | hq
 ·obtain ⟨its,r',pl,hz⟩:=I.list hq;have hlen:=r'.length;exact Calls.call_len_list pl.isList (by simp only[aa5] <;> omega) ⟨.int ys.length,H,I.tok _,⟨s.toks+1,by rw[aa5,hlen]⟩,q⟩
 ·obtain ⟨its,r',pl,hz⟩:=I.tuple hq;have hlen:=r'.length;exact len_tuple pl (by simp only[aa5] <;> omega) ⟨.int ys.length,H,I.tok _,⟨s.toks+1,by rw[aa5,hlen]⟩,q⟩
theorem ow:gw X (.type "list") (λxs H Q=>∃p ys,xs=[.ref p]∧(SqL X.K H p ys∨SqT X.K H p ys)∧∀l,H l=none→Q (.ref l) (upd H l (.lst ys))):=by
 intro pins s σ H xs us Q I r h;obtain ⟨p,ys,rfl,hq,q⟩:=h;obtain ⟨u,rfl,rx⟩:=vals1 r;cases rx
 have fin:∀(its:List Value),Vals ys its→ys.length≤sizeLine→∀(h':Heap) (c':Nat),(∀b o',s.heap.get? b=some o'→h'.get? b=some o')→
   h'.get? s.heap.objs.size=some { cls:=.type "list",dict:=none,data:=.seq its.toArray c',slots:=#[] }→EP X pins σ Q (.ref s.heap.objs.size) { s with heap:=h' }:=λits r' hz h' c' kp e=>
  ⟨.ref s.heap.objs.size,_,I.laid (t':=s.toks) kp (aa6 _) (show br X.prog X.w _ h' _ (.lst ys) from ⟨hz,its,c',r',e⟩),rfl,q _ (I.hok.fresh (aa6 _))⟩
 rcases hq with hq | hq
 ·obtain ⟨its,r',pl,hz⟩:=I.list hq;have hlen:=r'.length;obtain ⟨o,ho,hc,n,hd⟩:=pl.isList;exact call_list_seq p (.inl rfl) ho hc hd (λh' c' kp e=>fin its r' hz h' c' kp e) (by simp only[aa5] <;> omega)
 ·obtain ⟨its,r',pl,hz⟩:=I.tuple hq;have hlen:=r'.length;obtain ⟨o,ho,hc,n,hd⟩:=pl;exact call_list_seq p (.inr rfl) ho hc hd (λh' c' kp e=>fin its r' hz h' c' kp e) (by simp only[aa5] <;> omega)
theorem xj:gw X (.type "tuple") (λxs H Q=>∃p ys,xs=[.ref p]∧((SqL X.K H p ys∧∀l,H l=none→Q (.ref l) (upd H l (.tup ys)))∨(SqT X.K H p ys∧Q (.ref p) H))):=by
 intro pins s σ H xs us Q I r h;obtain ⟨p,ys,rfl,h⟩:=h;obtain ⟨u,rfl,rx⟩:=vals1 r;cases rx
 rcases h with ⟨hq,q⟩ | ⟨hq,q⟩
 ·obtain ⟨its,r',pl,hz⟩:=I.list hq;have hlen:=r'.length;refine call_tuple_list pl.isList (λh' kp=>?_) (by simp only[aa5] <;> omega);have I1:Inv X pins σ H { s with heap:=h' }:=I.kept (t':=s.toks) kp;have I2:Inv X pins σ (upd H h'.objs.size (.tup ys)) { s with heap:=h'.push { cls:=.type "tuple",data:=.seq its.toArray } }:=
   I1.laid (t':=s.toks) (λb o e=>Heap.get?_push_of_some _ e) (aa6 _) (show br X.prog X.w _ _ _ (.tup ys) from ⟨hz,its,r',⟨_,Heap.get?_push_size _ rfl,rfl,_,rfl,rfl⟩⟩)
  exact ⟨.ref h'.objs.size,_,I2,rfl,q _ (I1.hok.fresh (aa6 _))⟩
 ·obtain ⟨its,r',pl,hz⟩:=I.tuple hq;exact call_tuple_same pl ⟨.ref p,H,I,rfl,q⟩
def tyV (K:PySem.W.Frag) (T:String) (x:V) (H:Hp):Prop:=match x with
 | .str _=>T="str"
 | .int _=>T="int"
 | .ref p=>(T="list"∧∃xs,SqL K H p xs)∨(T="tuple"∧((∃o,K.lookup p=some o∧o.cls=.type "tuple"∧o.dict=none)∨∃xs,H p=some (.tup xs)))∨
   (T="dict"∧((∃kvs,H p=some (.dK kvs))∨∃kvs,H p=some (.dT kvs)))∨(T="set"∧∃S n,H p=some (.set S n))
 | _=>False
theorem Jj {pins:List (Addr×Obj)} {σ:St} {H:Hp} {s:Shared} {T:String} {x:V} {v:Value} (I:Inv X pins σ H s) (r:RelV x v) (ty:tyV X.K T x H):
  s.TypeIs v T∧∀a,v=.ref a→∃ob,s.heap.get? a=some ob∧ob.dict=none:=by
 cases x with
 | str z=>
  obtain ⟨t,rfl⟩:=r;cases (show T="str" from ty)
  exact ⟨typeIs_str s z t,λ_ e=>nomatch e⟩
 | int i=>
  obtain ⟨t,rfl⟩:=r;cases (show T="int" from ty)
  exact ⟨typeIs_int s i t,λ_ e=>nomatch e⟩
 | ref p=>
  cases r
  rcases ty with ⟨rfl,xs,hq⟩ | ⟨rfl,⟨o,hk,hc,hd⟩ | ⟨xs,hx⟩⟩ | ⟨rfl,hk⟩ | ⟨rfl,S,n,hk⟩
  ·obtain ⟨its,_,pl,_⟩:=I.list hq;refine ⟨pl.isList.typeIs,λa e=>?_⟩;cases e
   obtain ⟨o,n,e,c,hd,_⟩:=pl;exact ⟨o,e,hd⟩
  ·refine ⟨⟨o,I.kIn p o hk,hc⟩,λa e=>?_⟩;cases e
   exact ⟨o,I.kIn _ o hk,hd⟩
  ·obtain ⟨_,its,_,o,h1,h2,n,_,h3⟩:=I.hok p _ hx;refine ⟨⟨o,h1,h2⟩,λa e=>?_⟩;cases e
   exact ⟨o,h1,h3⟩
  ·have z:∃o,s.heap.get? p=some o∧o.ExactDict:=by
    rcases hk with ⟨kvs,hk⟩ | ⟨kvs,hk⟩
    ·obtain ⟨_,_,_,_,o,_,_,e,ex,_⟩:=I.hok p _ hk;exact ⟨o,e,ex⟩
    ·obtain ⟨_,_,_,_,o,_,_,e,ex,_⟩:=I.hok p _ hk;exact ⟨o,e,ex⟩
   obtain ⟨o,e,ex⟩:=z;refine ⟨⟨o,e,ex.1⟩,λa e2=>?_⟩;cases e2
   exact ⟨o,e,ex.2.1⟩
  ·obtain ⟨o,_,_,_,e,ex,_⟩:=I.hok p _ hk;refine ⟨⟨o,e,ex.1⟩,λa e2=>?_⟩;cases e2
   exact ⟨o,e,ex.2.1⟩
 | _=>exact False.elim ty
def tBM0 (K:PySem.W.Frag) (T:String) (r:V→List V→Hp→VK→Prop) (to:TE):TE:=λσ H Q=>to σ H λx H1=>tyV K T x H1∧r x [] H1 Q
def tBM (K:PySem.W.Frag) (T:String) (r:V→List V→Hp→VK→Prop) (to:TE) (t:TA):TE:=λσ H Q=>to σ H λx H1=>tyV K T x H1∧t σ H1 λxs H2=>r x xs H2 Q
variable {o e:Expr} {es:List Expr} {to:TE} {t:TA} {name:Str} {apos cpos:Pos} {T id:String} {r:V→List V→Hp→VK→Prop}
theorem pe_bm0 (pa:PlainAttrs T) (slot:Slot T name id) (hty:typeOf (.builtin id)=pure (.type "method_descriptor")) (hm:MtR X id r) (ho:PE X o to)
  (hbase:attributeBase o name X.env (eval o X.env)=eval o X.env:=by rfl) (hline:(apos.endLine==cpos.line)=true:=by rfl):PE X (.Call (.Attribute o name apos) [] [] cpos) (tBM0 X.K T r to):=by
 intro pins s σ H Q I h;refine wpAny_Call_method0_late hbase hline (thn (ho pins s σ H _ I h) λv s1 ⟨x,H1,I1,r1,ty,q1⟩=>?_);obtain ⟨h1,h2⟩:=Jj I1 r1 ty;exact ⟨T,id,pa,slot,hty,h1,h2,Calls.callWith_builtin rfl (PySem.evalArgs_none (hm pins s1 σ H1 x [] v [] Q I1 r1 .nil q1))⟩
theorem pe_bm (pa:PlainAttrs T) (slot:Slot T name id) (hty:typeOf (.builtin id)=pure (.type "method_descriptor")) (hm:MtR X id r) (ho:PE X o to) (ha:PA X (e::es) t)
  (hbase:attributeBase o name X.env (eval o X.env)=eval o X.env:=by rfl)
  (hfew:((backTo cpos (starEach (e::es) X.env)).all (λx=>!x.1)&&(backToKw cpos (keywordEach [] X.env)).all (λx=>x.1.isSome)
   &&decide ((e::es).length+([]:List Keyword).length+(if ([]:List Keyword).isEmpty then 0 else 1) < 30))=true:=by rfl)
  (hline:(apos.endLine==cpos.line)=true:=by rfl) (hs:starEach (e::es) X.env=(false,eval e X.env)::starEach es X.env:=by rfl) (hplain:(backTo cpos (starEach es X.env)).any (·.1)=false:=by rfl):
  PE X (.Call (.Attribute o name apos) (e::es) [] cpos) (tBM X.K T r to t):=by
 intro pins s σ H Q I h;refine wpAny_Call_method_late hbase hfew hline rfl (thn (ho pins s σ H _ I h) λv s1 ⟨x,H1,I1,r1,ty,q1⟩=>?_);obtain ⟨h1,h2⟩:=Jj I1 r1 ty;refine ⟨T,id,pa,slot,hty,h1,h2,?_⟩;have hA:=ha cpos pins s1 σ H1 _ I1 q1;rw[hs] at hA ⊢;refine Calls.callWith_builtin (by show (false||(backTo cpos (starEach es X.env)).any (·.1))=false;rw[hplain] <;> rfl) (Calls.evalArgs_plain ?_);exact thn hA λus s2 ⟨vs,H2,I2,r2,q2⟩=>hm pins s2 σ H2 x vs v us Q I2 r1 r2 q2
end
end L2
namespace L2
open PySem PySem.Spec PyProof.Rows
def MtM (X:Cx) (id:String) (r:V→List V→Hp→VK→Prop):Prop:=
 ∀(pins:List (Addr×Obj)) (s:Shared) (σ:St) (H:Hp) (x:V) (xs:List V) (v:Value) (us:List Value) (Q:VK),Inv X pins σ H s→RelV x v→Vals xs us→r x xs H Q→
  wpAny (model X.prog X.w) X.A (call (.builtin id) (v::us)) (EP X pins σ Q) X.xe s
theorem Vals.one:∀{x:V} {us:List Value},Vals [x] us→∃u,us=[u]∧RelV x u
 | _,_,.cons r .nil=>⟨_,rfl,r⟩
theorem Vals.zero:∀{us:List Value},Vals [] us→us=[]
 | _,.nil=>rfl
theorem Vals.dropLast {xs:List V} {us:List Value} (h:Vals xs us):Vals xs.dropLast us.dropLast:=by
 induction h with
 | nil=>exact .nil
 | cons r t ih=>
  cases t with
  | nil=>exact .nil
  | cons q t'=>exact .cons r ih
theorem Vals.rep {xs:List V} {us:List Value} (h:Vals xs us):∀k:Nat,Vals (aap k xs).flatten (aap k us).flatten
 | 0=>.nil
 | k+1=>by
  rw[abb,abb,ac9,ac9];exact Vals.append h (Vals.rep h k)
theorem Eh {α:Type} (l:List α):l.eraseIdx (l.length - 1)=l.dropLast:=by
 induction l with
 | nil=>rfl
 | cons a r ih=>
  cases r with
  | nil=>rfl
  | cons b r=>
   have e:(a::b::r).length - 1=((b::r).length - 1)+1:=by
    have h1:(a::b::r).length=r.length+2:=rfl;have h2:(b::r).length=r.length+1:=rfl;omega
   rw[e,List.eraseIdx_cons_succ,ih];all_goals rfl
theorem foldl_rep (its:List Value):∀(k:Nat) (acc:List Value),
  afd (λx1 x2=>x1++x2) acc.toArray (aap k its.toArray)=(acc++(aap k its).flatten).toArray
 | 0,acc=>by simp
 | k+1,acc=>by
  have e:acc.toArray++its.toArray=(acc++its).toArray:=by simp
  have e2:(acc++its)++(aap k its).flatten=acc++(aap (k+1) its).flatten:=by
   rw[abb,ac9,aax]
  rw[←e2,←foldl_rep its k (acc++its),←e,abb,afe]
section
variable {X:Cx} {pins:List (Addr×Obj)} {σ:St} {H:Hp} {s:Shared} {l b:Addr} {xs ys zs:List V}
theorem Inv.lset {its its':List Value} {n:Nat} {f:Array Value→Array Value} {t':Nat} (I:Inv X pins σ H s) (hH:H l=some (.lst xs))
  (e:s.heap.get? l=some { cls:=.type "list",data:=.seq its.toArray n }) (hf:f its.toArray=its'.toArray) (hv:Vals ys its') (hz:ys.length≤sizeLine):
  Inv X pins σ (upd H l (.lst ys)) { s with heap:=s.heap.update l (Obj.mapSeq f),toks:=t' }:=by
 have q:=PySem.IsL.update e f;rw[hf] at q;refine I.write (x:=l) (e:=l) (by rw[hH];exact trivial) (.inl rfl) (λb' u hb hu=>(Heap.get?_update_other s.heap (Obj.mapSeq f) (Ne.symm hb)).trans hu) ⟨_,q⟩ ?_;exact ⟨hz,its',_,hv,q⟩
theorem Inv.lnew {its:List Value} {t':Nat} (I:Inv X pins σ H s) (hv:Vals ys its) (hz:ys.length≤sizeLine):
  Inv X pins σ (upd H s.heap.objs.size (.lst ys)) { s with heap:=s.heap.push { cls:=.type "list",data:=.seq its.toArray },toks:=t' }:=
 I.laid (λ_ _ q=>Heap.get?_push_of_some _ q) (aa6 _) ⟨hz,its,0,hv,Heap.get?_push_size _ rfl⟩
theorem Inv.fresh (I:Inv X pins σ H s):H s.heap.objs.size=none:=I.hok.fresh (aa6 _)
theorem Inv.Dj (I:Inv X pins σ H s) (hH:H l=some (.lst xs)):xs.length≤sizeLine∧∃(its:List Value) (n:Nat),Vals xs its∧xs.length=its.length∧s.heap.get? l=some { cls:=.type "list",data:=.seq its.toArray n }:=by
 obtain ⟨z,its,n,r,e⟩:=I.hok l _ hH;exact ⟨z,its,n,r,r.length,e⟩
theorem Az {n:Nat} (h:n≤sizeLine):Builtin.List.listTooLong n=false:=by
 unfold Builtin.List.listTooLong;exact decide_eq_false (by omega)
end
section
variable {X:Cx}
def qa:V→List V→Hp→VK→Prop:=λx vs H Q=>∃l xs y,x=.ref l∧vs=[y]∧H l=some (.lst xs)∧xs.length < sizeLine∧Q .non (upd H l (.lst (xs++[y])))
theorem x8:MtM X "list.append" qa:=by
 intro pins s σ H x vs v us Q I rx rv h;obtain ⟨l,xs,y,rfl,rfl,hH,hz,q⟩:=h;cases rx
 obtain ⟨u,rfl,ru⟩:=rv.one;obtain ⟨z,its,n,r,hl,e⟩:=I.Dj hH;refine call_meets F.slot_list_append ⟨_,e,rfl⟩ F.entry_list_append (F.args_list_append_2 _ _) (PySem.list_append l its.toArray n u (by rw[aa5];omega)) ⟨e,?_⟩;refine ⟨.non,_,I.lset (its':=its++[u]) hH e (by simp) (r.append (.cons ru .nil)) ?_,rfl,q⟩;rw[aa2,aa9];omega
def Oy:V→List V→Hp→VK→Prop:=λx vs H Q=>∃l b xs zs,x=.ref l∧vs=[.ref b]∧H l=some (.lst xs)∧H b=some (.lst zs)∧xs.length+zs.length≤sizeLine∧Q .non (upd H l (.lst (xs++zs)))
theorem yd:MtM X "list.extend" Oy:=by
 intro pins s σ H x vs v us Q I rx rv h;obtain ⟨l,b,xs,zs,rfl,rfl,hH,hB,hz,q⟩:=h;cases rx
 obtain ⟨u,rfl,ru⟩:=rv.one;cases ru
 obtain ⟨z,its,n,r,hl,e⟩:=I.Dj hH;obtain ⟨z2,its2,n2,r2,hl2,e2⟩:=I.Dj hB;have hsz:its.toArray.size+its2.toArray.size≤sizeLine:=by rw[aa5,aa5];omega
 have hlong:¬(!its.toArray.isEmpty&&Builtin.List.listTooLong (its.toArray.size+its2.toArray.size))=true:=by
  rw[Az hsz,aed];exact aab
 refine call_meets F.slot_list_extend ⟨_,e,rfl⟩ F.entry_list_extend (F.args_list_extend_2 _ _)
  (AutoSeq1.list_extend_list_list_0 l its.toArray n b its2.toArray n2 hlong (by rw[aa5];omega) (by omega)) ⟨e,e2,?_⟩
 refine ⟨.non,_,I.lset (its':=its++its2) hH e (by simp) (r.append r2) ?_,rfl,q⟩;rw[aa2];omega
def rPop:V→List V→Hp→VK→Prop:=λx vs H Q=>∃l xs y,x=.ref l∧vs=[]∧H l=some (.lst xs)∧xs[xs.length - 1]?=some y∧Q y (upd H l (.lst xs.dropLast))
theorem za:MtM X "list.pop" rPop:=by
 intro pins s σ H x vs v us Q I rx rv h;obtain ⟨l,xs,y,rfl,rfl,hH,hy,q⟩:=h;cases rx
 have hus:=rv.zero;subst hus;obtain ⟨z,its,n,r,hl,e⟩:=I.Dj hH;obtain ⟨u,hu,ru⟩:=r.get hy;have hy':its.toArray[its.toArray.size - 1]?=some u:=by
  show its.toArray[its.length - 1]?=some u
  rw[←aao,←hl];exact hu
 refine call_meets F.slot_list_pop ⟨_,e,rfl⟩ F.entry_list_pop (F.args_list_pop_1 _) (MeetsSeq.list_pop_last l its.toArray n u hy' (by rw[aa5];omega)) ⟨e,?_⟩;refine ⟨y,_,I.lset (its':=its.dropLast) hH e ?_ r.dropLast ?_,ru,q⟩
 ·show its.toArray.eraseIdxIfInBounds (its.toArray.size - 1)=its.dropLast.toArray
  rw[aa5,List.eraseIdxIfInBounds_toArray,Eh]
 ·rw[aej];omega
def rCat:R2:=λx y H Q=>∃l b xs zs,x=.ref l∧y=.ref b∧H l=some (.lst xs)∧H b=some (.lst zs)∧xs.length+zs.length≤sizeLine∧∀p,H p=none→Q (.ref p) (upd H p (.lst (xs++zs)))
theorem mz:OpR X (binaryOp .Add) rCat:=by
 intro pins s σ H x y v u Q I rx ry h;obtain ⟨l,b,xs,zs,rfl,rfl,hH,hB,hz,q⟩:=h;cases rx
 cases ry
 obtain ⟨z,its,n,r,hl,e⟩:=I.Dj hH;obtain ⟨z2,its2,n2,r2,hl2,e2⟩:=I.Dj hB;refine PySem.P.add_list e e2 ?_ (by rw[aa5,aa5];omega);have ea:its.toArray++its2.toArray=(its++its2).toArray:=by simp
 rw[ea];exact ⟨.ref _,_,I.lnew (t':=s.toks) (r.append r2) (by rw[aa2];omega),rfl,q _ I.fresh⟩
def rRep:R2:=λx y H Q=>∃l k xs,x=.ref l∧y=.int k∧H l=some (.lst xs)∧-(2 ^ 63)≤k∧k < 2 ^ 63∧xs.length*k.toNat≤sizeLine∧
 ∀p,H p=none→Q (.ref p) (upd H p (.lst (aap k.toNat xs).flatten))
theorem len_rep {α:Type} (xs:List α) (k:Nat):(aap k xs).flatten.length=k*xs.length:=by
 induction k with
 | zero=>simp
 | succ k ih=>rw[abb,ac9,aa2,ih,Nat.succ_mul,aes]
theorem op_rep:OpR X (binaryOp .Mult) rRep:=by
 intro pins s σ H x y v u Q I rx ry h;obtain ⟨l,k,xs,rfl,rfl,hH,h1,h2,hz,q⟩:=h;cases rx
 obtain ⟨t,rfl⟩:=ry;obtain ⟨z,its,n,r,hl,e⟩:=I.Dj hH;have hlen:its.toArray.size*k.toNat≤sizeLine:=by rw[aa5,←hl];exact hz
 have hcap:¬its.toArray.size*k.toNat > (2 ^ 63 - 1) / 8:=by
  have:(sizeLine:Nat)≤(2 ^ 63 - 1) / 8:=by decide
  omega
 have hfit:¬(!Builtin.List.listFitsIndex k)=true:=by
  rw[fitsIndex_both h1 h2];exact aab
 have hlong:¬Builtin.List.listTooLong (its.toArray.size*k.toNat)=true:=by
  rw[Az hlen];exact aab
 have hnew:afd (λx1 x2=>x1++x2) #[] (aap (if its.toArray.isEmpty=true then 0 else k.toNat) its.toArray)=(aap k.toNat its).flatten.toArray:=by
  have f0:∀m:Nat,afd (λx1 x2=>x1++x2) #[] (aap m its.toArray)=(aap m its).flatten.toArray:=λm=>by
   have:=foldl_rep its m [];rw[ad5] at this;exact this
  rw[f0];cases its with
  | nil=>simp
  | cons a r'=>rw[if_neg (by simp)]
 refine wpAny_binaryOp_repeat_ref (T:="list") (U:="int") (by decide) ⟨_,e,rfl⟩ (λs'=>typeIs_int s' k t) noFill_list_mul F.fills_int_mul F.slot_int_rmul repeat_list F.slot_int_index.lookup
  (call_meets F.slot_int_rmul (typeIs_int s k t) F.entry_int_rmul (F.args_int_rmul_2 _ _) (int___rmul___int_list k t l its.toArray n)
   ⟨e,rfl,⟨_,e,rfl⟩,call_meets F.slot_list_mul ⟨_,e,rfl⟩ F.entry_list_mul (F.args_list_mul_2 _ _) (AutoListH.list___mul___list_int_3 l its.toArray n k t hfit hcap hlong) ⟨e,?_⟩⟩)
 rw[hnew];exact ⟨.ref _,_,I.lnew (t':=s.toks) (r.rep k.toNat) (by rw[len_rep,Nat.mul_comm];exact hz),rfl,q _ I.fresh⟩
end
section
variable {prog:Program} {w:World} {A:Around} {E:Value→Shared→Prop} {s:Shared}
set_option maxRecDepth 100000 in
end
section
variable {X:Cx}
end
end L2
namespace Att
open PySem PySem.W PySem.Calls PyProof.Rows
theorem rm {P:Params} {h:Heap}:∀(ns:List Int) (vs:List Value),WellAll P h vs (ns.map WData.int)→IntsAre vs ns:=by
 intro ns;induction ns with
 | nil=>
  intro vs w;rw[ae3] at w;cases w
  exact .nil
 | cons n ns ih=>
  intro vs w;rw[ab0] at w;cases w with
  | cons a b=>
   cases a
   exact .cons _ _ (ih _ b)
theorem He {l:OpenLaw} {n:Nat} (hn:l.most=some n) {P:Params} {h:Heap} {args:List WData} {vals:List Value}
  (hpre:l.row.toRowW.claim.pre args=true) (hwl:WellAll P h vals args):
  ∃a vs ns,vals=[Value.ref a]∧args=[WData.list (ns.map WData.int)]∧h.get? a=some { cls:=.type "list",data:=.seq vs.toArray }∧IntsAre vs ns∧ns.length≤n:=by
 have hsh:WShape.hasAll [] args [.list .int]=true:=(pre_splitW hpre).1;have hc:l.pre.holds [] { args:=args }=true:=(pre_splitW hpre).2;obtain ⟨d,r,rfl,h1,h2⟩:=hasAllW_cons hsh;obtain rfl:=hasAllW_nil h2;obtain ⟨xs,rfl,h3⟩:=hasW_list h1;obtain ⟨ns,rfl⟩:=items_int h3;have hlen:ns.length≤n:=by
  unfold OpenLaw.pre at hc;have h4:(WTm.not (.lt (.lit (.int (n:Int))) (.len (.arg 0)))).holds [] { args:=[.list (ns.map .int)] }=true:=by
   have h4:=(holds_andW hc).1;rw[hn] at h4;exact h4
  have h5:=condW_of h4 (w_not (w_lt w_lit (w_len_list (w_arg rfl))));rw[aa1] at h5;refine af5 λq=>?_;have q':(n:Int) < ((ns.length:Nat):Int):=by omega
  first
   | (rw[decide_eq_true q'] at h5;exact absurd h5 (by decide))
   | (simp at h5;omega)
 cases hwl with
 | cons w1 w2=>
  cases w2
  cases w1 with
  | list ho hall=>exact ⟨_,_,ns,rfl,rfl,ho,rm ns _ hall,hlen⟩
theorem Im (l:OpenLaw) (args:List WData):l.row.toRowW.claim.post args (.bool true) args=true:=
 postW_of (r:=l.row.toRowW) (X:=(true==true))
  (show WShape.has [] (.bool true) .bool=true by first | rfl | decide | simp[WShape.has,WShape.arms,WShape.armsAll])
  (show (WTm.eq .res (.lit (.bool true))).value [] { args:=args,res:=some (.bool true),after:=args }=some (.bool (true==true)) from w_eq_bool (w_res rfl) w_lit) rfl
theorem By {l:OpenLaw} {n:Nat} {q:Program} {loose:List Str} {XP:(Str→Option Value)→Heap→Prop} {YP:World→Heap→Prop} {d:DefRec}
  (hn:l.most=some n) (hdf:d.params.defaults=[])
  (call:∀(w:World) (s₀ s₁:Shared) (mg mb:Str→Option Value) (fa:Addr) (o:Obj) (pm cd doc:Value) (a:Addr) (vs:List Value) (ns:List Int),
   Ground q loose [] XP w s₀ mg mb s₁.heap→YP w s₁.heap→
   s₁.heap.get? fa=some o→o.data=.func (docDef d.name d.params d.body d.scope pm cd doc)→s₁.heap.CodeRec cd d.name→mg d.name=some (.ref fa)→
   s₁.heap.get? a=some { cls:=.type "list",data:=.seq vs.toArray }→IntsAre vs ns→ns.length≤n→s₁.gens=#[]→
   codeAny (model l.prog w) callerA (.call (.ref fa) ⟨[.ref a],[]⟩) (λr s'=>r=.ok (.ret (.bool true))∧OldK s₁.heap s'.heap∧s'.os=s₁.os∧AllBare s'.gens) s₁):
  WalkO q loose XP YP l.row.toRowW d [] (λf vs=>PySem.call f vs):=by
 intro w s₀ s₁ mg mb G Y fa o pm cd doc dV kV ho hd hcd hD hmg hg args vals as hpre hlay hrd hwl hlo;obtain rfl:dV=.none:=Dflts.none hD hdf;obtain rfl:kV=.none:=Dflts.noKw hD;obtain ⟨a,vs,ns,rfl,rfl,hobj,hints,hlen⟩:=He hn hpre hwl;refine enter_call (codeAny_mono (call w s₀ s₁ mg mb fa o pm cd doc a vs ns G Y ho (fd_plain hd) hcd hmg hobj hints hlen hg) λr s' hq=>?_);obtain ⟨rfl,h2,h3,h4⟩:=hq;exact ⟨.inl ⟨.bool true,.bool true,[],rfl,λ_=>rfl,.bool true,Im l _,λ_=>⟨acs,λ_ hm=>(nomatch hm)⟩⟩,h2,h3,h4⟩
section
variable {prog:Program} {w:World} {A:Around} {E:Value→Shared→Prop} {s:Shared} {K:Frag}
end
end Att
namespace L2
open PySem PySem.Spec PyProof.Rows
theorem yc:∀{vs:List Value} {ns:List Int},IntsAre vs ns→Vals (ns.map V.int) vs
 | _,_,.nil=>.nil
 | _,_,.cons n t h=>.cons ⟨t,rfl⟩ (yc h)
def Only (H:Hp):Prop:=∀b,H b=none∨∃o xs,H b=some (.frz o (.lst xs))
theorem Lz {P:Program} {w:World} {K:PySem.W.Frag} {mg mb:Str→Option Value} {CX:CXT} {k:Nat} {fa a:Addr} {fd:FuncData} {x:Str} {sp:Sp} {s₁:Shared} {vs:List Value} {ns:List Int}
  (KX:K.In s₁.heap) (hns:s₁.heap.Ns mainGlobals mg) (hb:s₁.heap.Ns builtinsNs mb) (hbb:∀x:Str,x≠"__name__"→mb x=bootBuiltins x) (hlim:s₁.heap.NoLimit) (hg:s₁.gens=#[])
  (ha:s₁.heap.get? a=some { cls:=.type "list",data:=.seq vs.toArray }) (hi:IntsAre vs ns) (hl:ns.length≤sizeLine) (hr:iy k callerA)
  (F:∀base:Heap,K.In base→base.Ns mainGlobals mg→qc P w K mg base CX k fa fd [x] sp) (hbind:∀(s:Shared) (u:Value),BindsTo s fd ⟨[u],[]⟩ [(x,u)])
  (hsp:∀H:Hp,Only H→SqL K H a (ns.map V.int)→sp [.ref a] H (λv _=>v=.bl true) λ_ _ _=>False)
  (hCX:∀H e s',CX [] H s₁ (λ_ _ _=>False) e s'→False):
  codeAny (model P w) callerA (.call (.ref fa) ⟨[.ref a],[]⟩) (λr s'=>r=.ok (.ret (.bool true))∧OldK s₁.heap s'.heap∧s'.os=s₁.os∧AllBare s'.gens) s₁:=by
 have rv:=yc hi;have lenV:=hi.length;have core:∀H:Hp,Only H→SqL K H a (ns.map V.int)→HOk P w H s₁.heap→(∀b,H b≠none→b=a)→(H a≠none→K.lookup a=none)→
   codeAny (model P w) callerA (.call (.ref fa) ⟨[.ref a],[]⟩) (λr s'=>r=.ok (.ret (.bool true))∧OldK s₁.heap s'.heap∧s'.os=s₁.os∧AllBare s'.gens) s₁:=by
  intro H hO hS hok hA hK;have base_of:∀{b:Addr} {o:Obj},s₁.heap.get? b=some o→H b=none→(zi s₁.heap H).get? b=some o:=λe n=>Mp e n;have noA:∀{b:Addr} {o:Obj} {es:Array DictEntry} {ep:Nat},s₁.heap.get? b=some o→o.data=.dict es ep→H b=none:=λ{b o es ep} e d=>by
   cases q:H b with
   | none=>rfl
   | some u=>
    have e':b=a:=hA b (by rw[q];simp);subst e';rw[ha] at e;cases e;have d':Data.seq vs.toArray _=Data.dict es ep:=d;cases d'
  have nsK:∀{b:Addr} {m:Str→Option Value},s₁.heap.Ns b m→(zi s₁.heap H).Ns b m:=λ{b m} ⟨o,es,ep,e,d,r⟩=>⟨o,es,ep,base_of e (noA e d),d,r⟩;have hKb:K.In (zi s₁.heap H):=λb o e=>base_of (KX b o e) (by
   cases q:H b with
   | none=>rfl
   | some u=>
    have e':b=a:=hA b (by rw[q];simp);subst e';rw[hK (by rw[q];simp)] at e;cases e)
  have hM:Mod K mg (zi s₁.heap H):=⟨hKb,nsK hns,⟨mb,nsK hb,hbb⟩,let ⟨mc,h1,h2⟩:=hlim;⟨mc,nsK h1,h2⟩⟩;have e0:Env0 P w K mg (zi s₁.heap H) callerA [] s₁ H:=⟨rfl,hM,λb o e=>P6 e,Nat.le_of_eq (Ho _ _),trivial,λb hb=>absurd (show b∈([]:List Addr) from hb) (by simp),hok,.of_eq hg⟩;refine codeAny_mono ((F _ hKb (nsK hns)).run callerA [] s₁ H ⟨[.ref a],[]⟩ [.ref a] [.ref a] _ _ hr e0 (hbind s₁ (.ref a)) (.cons rfl .nil) (hsp H hO hS)) λr s' h=>?_;cases r with
  | error e=>exact (hCX H e s' h).elim
  | ok fl=>
   cases fl with
   | next=>exact False.elim h
   | brk=>exact False.elim h
   | cont=>exact False.elim h
   | ret u=>
    obtain ⟨v,H',os,bare,un,hok',r',q⟩:=h;have q':v=.bl true:=q;subst q';obtain rfl:u=Value.bool true:=r';refine ⟨rfl,OldK.of_keep λb o e=>?_,os,bare⟩;cases q:H b with
    | none=>exact un.keep b o e q (by intro z;exact absurd (show b∈([]:List Addr) from z) (by simp)) (by simp)
    | some u=>
     rcases hO b with z | ⟨ob,xs,z⟩
     ·rw[q] at z;cases z
     ·have z2:=un.frzs b ob _ z;obtain ⟨e1,_⟩:=hok b _ z;obtain ⟨e2,_⟩:=hok' b _ z2;rw[e] at e1;cases e1;exact e2
 cases hk:K.lookup a with
 | some o=>
  have e:=KX a o hk;rw[ha] at e;cases e
  refine core (λ_=>none) (λ_=>.inl rfl) (.inr ⟨_,vs.toArray,_,hk,rfl,rfl,rfl,by rw[aa5,lenV];exact hl,by simpa using rv⟩) (λb u z=>by have z':(none:Option HO)=some u:=z;cases z') (λb z=>absurd rfl z) λz=>absurd rfl z
 | none=>
  refine core (λb=>if b=a then some (.frz { cls:=.type "list",data:=.seq vs.toArray } (.lst (ns.map V.int))) else none) (λb=>?_) (.inl (.inr ⟨{ cls:=.type "list",data:=.seq vs.toArray },if_pos rfl⟩)) (λb u z=>?_) (λb z=>?_) λ_=>hk
  ·by_cases hb:b=a
   ·exact .inr ⟨_,_,if_pos hb⟩
   ·exact .inl (if_neg hb)
  ·by_cases hb:b=a
   ·have z':=(if_pos hb).symm.trans z;cases z'
    subst hb;exact ⟨ha,by rw[aa1];exact hl,vs,_,rv,ha⟩
   ·have z':=(if_neg hb).symm.trans z;cases z'
  ·by_cases hb:b=a
   ·exact hb
   ·exact absurd (if_neg hb) z
end L2
namespace L2
open PySem PySem.Spec PyProof.Rows
noncomputable abbrev KOf {K:PySem.W.Frag} {h:Heap} (_:K.In h):PySem.W.Frag:=K
theorem Oh {l:PySem.W.OpenLaw} {n k:Nat} {q:Program} {loose:List Str} {XP:(Str→Option Value)→Heap→Prop} {YP:World→Heap→Prop} {d:DefRec} {K:Params→PySem.W.Frag} {CX:World→CXT} {sp:World→Sp} {x:Str}
  (hn:l.most=some n) (hn2:n≤sizeLine) (hdf:d.params.defaults=[]) (hr:iy k callerA)
  (hY:∀(w:World) (h:Heap),YP w h→(K w.params).In h)
  (F:∀(w:World) (mg:Str→Option Value) (fa:Addr) (h:Heap),(K w.params).In h→h.Ns mainGlobals mg→mg d.name=some (.ref fa)→
   ∃fd:FuncData,(∀(s:Shared) (u:Value),BindsTo s fd ⟨[u],[]⟩ [(x,u)])∧
    ∀base:Heap,(K w.params).In base→base.Ns mainGlobals mg→qc l.prog w (K w.params) mg base (CX w) k fa fd [x] (sp w))
  (hsp:∀(w:World) (H:Hp) (a:Addr) (ns:List Int),ns.length≤n→Only H→SqL (K w.params) H a (ns.map V.int)→sp w [.ref a] H (λv _=>v=.bl true) λ_ _ _=>False)
  (hCX:∀(w:World) (H:Hp) (s:Shared) (e:Value) (s':Shared),CX w [] H s (λ_ _ _=>False) e s'→False):
  PySem.W.WalkO q loose XP YP l.row.toRowW d [] (λf vs=>PySem.call f vs):=by
 refine Att.By hn hdf λw s₀ s₁ mg mb fa o pm cd doc a vs ns G Y ho hd hcd hmg hobj hints hlen hg=>?_;have KX:=hY w _ Y;obtain ⟨fd,hb,hF⟩:=F w mg fa _ KX G.T.g hmg;exact Lz KX G.T.g G.T.b G.T.builtins G.T.nolimit hg hobj hints (aay hlen hn2) hr hF hb (λH hO hS=>hsp w H a ns hlen hO hS) λH e s'=>hCX w H s₁ e s'
end L2
namespace L2
open PySem PySem.Spec PyProof.Rows
noncomputable def ay (s:Stmt):Arguments:=match s with
 | .FunctionDef _ a _ _ _ _ _ _ _ _=>a
 | _=>{ posonlyargs:=[],args:=[],vararg:=none,kwonlyargs:=[],kw_defaults:=[],kwarg:=none,defaults:=[] }
noncomputable def aw (s:Stmt):List Stmt:=match s with
 | .FunctionDef _ _ b _ _ _ _ _ _ _=>b
 | _=>[]
noncomputable def ah (s:Stmt):Scope:=match s with
 | .FunctionDef _ _ _ _ _ _ sc _ _ _=>sc
 | _=>{ kind:=.function,names:=[],isGenerator:=false,isCoroutine:=false }
noncomputable abbrev CX0:CXT:=λ_ _ _ _ _ _=>False
abbrev E0:XK:=λ_ _ _=>False
theorem pass0 {X:Cx}:Passes CX0 X E0:=λ_ _ _ _ _ _ _ h=>h.elim
structure Fun (K:PySem.W.Frag) (x qual:Str) (st:Stmt) (f:Addr) (fd:FuncData):Prop where
 ex:∃(oc:Value) (od:Option Addr) (kV doc pm:Value) (an:Option Addr) (cdv ct:Value) (osl:Array (Option Value)),
  fd=PySem.W.fnOf x qual (ay st) (aw st) (ah st) .none kV doc pm an cdv ct∧K.lookup f=some ⟨oc,od,.func fd,osl⟩∧PySem.W.codeIn K cdv qual=true
 kp:PySem.W.keepIn K (.ref f)=true
section
variable {P:Program} {w:World} {K:PySem.W.Frag} {mg:Str→Option Value} {base:Heap}
theorem Fun.ok {x qual:Str} {st:Stmt} {f:Addr} {fd:FuncData} {N ps:List Str} {k:Nat} {sp:Sp} (F:Fun K x qual st f fd) (S:az N ps (ah st)) (len:∀vs H Q E,sp vs H Q E→vs.length=ps.length)
  (hbody:∀(cdv:Value) (A:Around) (outer:List Env) (s:Shared) (H:Hp) (vs:List V) (Q:VK) (E:XK),iy k (A.deeper (envOfC qual (ah st) s.heap.objs.size f cdv))→sp vs H Q E→
   ∃t,PSs (sd CX0 P w K mg base N qual (ah st) f cdv A outer s H E).nox (aw st) t∧t { nx:=λ_ H'=>Q .non H',rt:=Q } (start N vs) H):qc P w K mg base CX0 (k+1) f fd ps sp:=by
 obtain ⟨oc,od,kV,doc,pm,an,cdv,ct,osl,rfl,lk,hcd⟩:=F.ex;refine fn_of lk hcd S len λA outer s H vs Q E hr hsp=>?_;obtain ⟨t,h,q⟩:=hbody cdv A outer s H vs Q E hr hsp;exact ⟨t,h.nox,q⟩
theorem Fun.binds {x qual:Str} {st:Stmt} {f:Addr} {fd:FuncData} {ps:List Str} (F:Fun K x qual st f fd)
  (h:∀(kV doc pm:Value) (an:Option Addr) (cdv ct:Value) (us:List Value),us.length=ps.length→bindArgs (PySem.W.fnOf x qual (ay st) (aw st) (ah st) .none kV doc pm an cdv ct) ⟨us,[]⟩=pure (ps.zip us)):Binds K fd ps []:=by
 obtain ⟨oc,od,kV,doc,pm,an,cdv,ct,osl,rfl,lk,hcd⟩:=F.ex;exact .all (h kV doc pm an cdv ct)
theorem bq {x qual:Str} {st:Stmt} {f:Addr} {oc:Value} {od an:Option Addr} {osl:Array (Option Value)} {kV doc pm cdv ct:Value} (l:K.lookup f=some ⟨oc,od,.func (PySem.W.fnOf x qual (ay st) (aw st) (ah st) .none kV doc pm an cdv ct),osl⟩)
  (c:PySem.W.codeIn K cdv qual=true) (k:PySem.W.keepIn K (.ref f)=true):Fun K x qual st f (PySem.W.fnOf x qual (ay st) (aw st) (ah st) .none kV doc pm an cdv ct):=⟨⟨oc,od,kV,doc,pm,an,cdv,ct,osl,rfl,l,c⟩,k⟩
end
theorem b9 {A:Around} {k:Nat} (hr:iy k A):A.units+1 < cLine:=ad8 (Nat.add_le_add_left (by decide:1≤64) _) hr.units
section
variable {X:Cx}
theorem pv (i:Nat) {x:Str} {pos:Pos} (hN:X.N[i]?=some x:=by rfl) (hv:Vis X.env.scope x:=by first | exact ab5 rfl | exact ab7 (ab5 rfl) | exact ab7 (ab7 rfl)) (hd:(x==("__debug__":Str))=false:=by decide)
  (hcd:(x==("__classdict__":Str))=false:=by decide):PE X (.Name x pos) (tVar i):=pe_var hN hv hd hcd
end
theorem iteF {A B:Prop} (h:B):if false=true then A else B:=by
 rw[if_neg aab];exact h
theorem iteT {A B:Prop} (h:A):if true=true then A else B:=by
 rw[if_pos rfl];exact h
theorem bu {c A B:Prop} [Decidable c] (h1:c→A) (h2:¬c→B):if c then A else B:=by
 by_cases h:c
 ·rw[if_pos h];exact h1 h
 ·rw[if_neg h];exact h2 h
def ak (H H':Hp):Prop:=∀b o,H b=some o→H' b=some o
theorem ak.refl (H:Hp):ak H H:=λ_ _ h=>h
theorem ak.trans {H H1 H2:Hp} (a:ak H H1) (b:ak H1 H2):ak H H2:=λc o h=>b c o (a c o h)
theorem ak.free {H H':Hp} (e:ak H H') {l:Addr} (h:H' l=Option.none):H l=Option.none:=by
 cases q:H l with
 | none=>rfl
 | some o=>
  rw[e l o q] at h;cases h
theorem ak.seq {K:PySem.W.Frag} {H H':Hp} {a:Addr} {xs:List V} (e:ak H H') (h:SqL K H a xs):SqL K H' a xs:=by
 rcases h with (h | ⟨o,h⟩) | h
 ·exact .inl (.inl (e _ _ h))
 ·exact .inl (.inr ⟨o,e _ _ h⟩)
 ·exact .inr h
end L2
namespace L2
open PySem PySem.Spec PyProof.Rows
section
variable {κ:Type} [DecidableEq κ]
noncomputable def dh (kvs:List (κ×V)) (k:κ):Option V:=(kvs.find? λkv=>decide (kv.1=k)).map (·.2)
noncomputable def putK (kvs:List (κ×V)) (k:κ) (v:V):List (κ×V):=
 if (kvs.any λkv=>decide (kv.1=k))=true then kvs.map (λkv=>if kv.1=k then (kv.1,v) else kv) else kvs++[(k,v)]
theorem bx {p:κ×V} {r:List (κ×V)} {k:κ} (e:p.1=k):dh (p::r) k=some p.2:=by simp[dh,acm,e]
theorem bz {p:κ×V} {r:List (κ×V)} {k:κ} (e:¬p.1=k):dh (p::r) k=dh r k:=by simp[dh,acm,e]
theorem fo (k:κ):∀kvs:List (κ×V),(kvs.any λkv=>decide (kv.1=k))=(dh kvs k).isSome
 | []=>rfl
 | p::r=>by
  rw[adh];by_cases e:p.1=k
  ·simp only[bx e,decide_eq_true e,Bool.true_or,aca]
  ·rw[bz e,decide_eq_false e,Bool.false_or];exact fo k r
theorem Bh (k j:κ) (y:V):∀kvs:List (κ×V),dh (kvs.map λkv=>if kv.1=k then (kv.1,y) else kv) j=(dh kvs j).map λx=>if j=k then y else x
 | []=>rfl
 | p::r=>by
  have ih:=Bh k j y r;rw[ab0];by_cases h:p.1=k
  ·rw[if_pos h];by_cases e:p.1=j
   ·rw[bx (p:=(p.1,y)) e,bx e,abw,if_pos (e.symm.trans h)]
   ·rw[bz (p:=(p.1,y)) e,bz e,ih]
  ·rw[if_neg h];by_cases e:p.1=j
   ·rw[bx (p:=p) e,bx e,abw,if_neg (λz=>h (e.trans z))]
   ·rw[bz (p:=p) e,bz e,ih]
theorem yk (k j:κ) (y:V):∀kvs:List (κ×V),dh kvs k=none→dh (kvs++[(k,y)]) j=if j=k then some y else dh kvs j
 | [],_=>by
  by_cases e:k=j
  ·rw[if_pos e.symm];exact bx (p:=(k,y)) e
  ·rw[if_neg (λz=>e z.symm)];exact bz (p:=(k,y)) e
 | p::r,hn=>by
  rw[af6];have hk:¬p.1=k:=λz=>by rw[bx z] at hn;cases hn
  rw[bz hk] at hn;have ih:=yk k j y r hn;by_cases e:p.1=j
  ·rw[bx e,bx e,if_neg (λz=>hk (e.trans z))]
  ·rw[bz e,bz e,ih]
theorem Cr (kvs:List (κ×V)) (k j:κ) (y:V):dh (putK kvs k y) j=if j=k then some y else dh kvs j:=by
 unfold putK;by_cases a:(kvs.any λkv=>decide (kv.1=k))=true
 ·rw[if_pos a,Bh];rw[fo] at a;by_cases e:j=k
  ·obtain ⟨x,hx⟩:=Option.isSome_iff_exists.mp a;rw[if_pos e,e,hx,abw,if_pos rfl]
  ·rw[if_neg e];cases dh kvs j with
   | none=>rfl
   | some x=>rw[abw,if_neg e]
 ·rw[if_neg a];refine yk k j y kvs ?_;rw[fo] at a;cases q:dh kvs k with
  | none=>rfl
  | some x=>rw[q] at a;exact (a rfl).elim
theorem gj (kvs:List (κ×V)) (k:κ) (v:V):(putK kvs k v).length≤kvs.length+1:=by
 unfold putK;split
 ·rw[aa1];omega
 ·rw[aa2,aal,acn];omega
theorem Cm {kvs:List (κ×V)} {k:κ} (v:V) (h:dh kvs k=none):putK kvs k v=kvs++[(k,v)]:=by
 unfold putK;rw[fo,h];exact if_neg (by decide)
theorem m5.i7 {o:Option V} {u:Option Value} (r:m5 o u):o.isSome=u.isSome:=by
 cases o with
 | none=>cases u with
  | none=>rfl
  | some _=>exact (show False from r).elim
 | some _=>cases u with
  | none=>exact (show False from r).elim
  | some _=>rfl
theorem m5.getD {o:Option V} {u:Option Value} {d:V} {d':Value} (r:m5 o u) (rd:RelV d d'):RelV (o.getD d) (u.getD d'):=by
 cases o with
 | none=>cases u with
  | none=>exact rd
  | some _=>exact (show False from r).elim
 | some _=>cases u with
  | none=>exact (show False from r).elim
  | some _=>exact r
theorem KV.val {kvs:List (κ×V)} {vs:List (κ×Value)} (r:KV kvs vs) (k:κ):m5 (dh kvs k) (valueAt vs k):=by
 unfold KV at r;induction r with
 | nil=>exact True.intro
 | @cons p q ps qs h t ih=>
  obtain ⟨h1,h2⟩:=h;by_cases e:p.1=k
  ·have e':q.1=k:=h1.symm.trans e;have b:valueAt (q::qs) k=some q.2:=by simp[valueAt,acm,e']
   rw[bx e,b];exact h2
  ·have e':¬q.1=k:=λz=>e (h1.trans z);have b:valueAt (q::qs) k=valueAt qs k:=by simp[valueAt,acm,e']
   rw[bz e,b];exact ih
theorem KV.any {kvs:List (κ×V)} {vs:List (κ×Value)} (r:KV kvs vs) (k:κ):(kvs.any λkv=>decide (kv.1=k))=vs.any λkv=>decide (kv.1=k):=by
 unfold KV at r;induction r with
 | nil=>rfl
 | cons h t ih=>rw[adh,adh,ih,h.1]
theorem KV.repl {kvs:List (κ×V)} {vs:List (κ×Value)} (r:KV kvs vs) (k:κ) {y:V} {u:Value} (ry:RelV y u):
  KV (kvs.map λkv=>if kv.1=k then (kv.1,y) else kv) (vs.map λkv=>if kv.1=k then (kv.1,u) else kv):=by
 unfold KV at r ⊢;induction r with
 | nil=>exact .nil
 | @cons p q ps qs h t ih=>
  rw[ab0,ab0];refine .cons ?_ ih;obtain ⟨h1,h2⟩:=h;by_cases e:p.1=k
  ·rw[if_pos e,if_pos (h1.symm.trans e)];exact ⟨h1,ry⟩
  ·rw[if_neg e,if_neg (λz=>e (h1.trans z))];exact ⟨h1,h2⟩
theorem KV.put {kvs:List (κ×V)} {vs:List (κ×Value)} (r:KV kvs vs) (k:κ) {y:V} {u:Value} (ry:RelV y u):KV (putK kvs k y) (stored vs k u):=by
 unfold putK stored;rw[r.any k];by_cases e:(vs.any λkv=>decide (kv.1=k))=true
 ·rw[if_pos e,if_pos e];exact r.repl k ry
 ·rw[if_neg e,if_neg e];exact Paired.snoc r ⟨rfl,ry⟩
theorem KV.length {kvs:List (κ×V)} {vs:List (κ×Value)} (r:KV kvs vs):kvs.length=vs.length:=Paired.length r
end
theorem rg {P:Program} {w:World} {k:Key} {u:Value} (r:RelV (kV k) u):(bj P w).is k u=true:=by
 cases k with
 | inl i=>obtain ⟨t,e⟩:=(show ∃t,u=Value.int i t from r);subst e;exact Aw P w i t
 | inr x=>obtain ⟨t,e⟩:=(show ∃t,u=Value.str x t from r);subst e;exact kc P w x t
theorem yn {P:Program} {w:World}:∀{ks:List Key} {us:List Value},Vals (ks.map kV) us→ItemsAre (bj P w) ks us
 | [],_,r=>by rw[ae3] at r;cases r;exact .nil
 | k::ks,_,r=>by
  rw[ab0] at r;cases r with
  | cons h t=>exact .cons (rg h) (yn t)
abbrev KT (H:Hp):List (List Key×V)→List (List Key×Addr×Value)→Prop:=Paired λp q=>p.1=q.1∧H q.2.1=some (.tup (p.1.map kV))∧RelV p.2 q.2.2
theorem KT.val {H:Hp} {kvs:List (List Key×V)} {xs:List (List Key×Addr×Value)} (r:KT H kvs xs) (k:List Key):m5 (dh kvs k) ((atKey xs k).map (·.2)):=by
 induction r with
 | nil=>exact True.intro
 | @cons p q ps qs h t ih=>
  obtain ⟨h1,_,h2⟩:=h;by_cases e:p.1=k
  ·have e':q.1=k:=h1.symm.trans e;have b:atKey (q::qs) k=some q.2:=by simp[atKey,acm,e']
   rw[bx e,b];exact h2
  ·have e':¬q.1=k:=λz=>e (h1.trans z);have b:atKey (q::qs) k=atKey qs k:=by simp[atKey,acm,e']
   rw[bz e,b];exact ih
theorem KT.repl {H:Hp} {kvs:List (List Key×V)} {xs:List (List Key×Addr×Value)} (r:KT H kvs xs) (k:List Key) {y:V} {u:Value} (ry:RelV y u):
  KT H (kvs.map λkv=>if kv.1=k then (kv.1,y) else kv) (xs.map (putAt k u)):=by
 induction r with
 | nil=>exact .nil
 | @cons p q ps qs h t ih=>
  rw[ab0,ab0];refine .cons ?_ ih;obtain ⟨h1,h2,h3⟩:=h;unfold putAt;by_cases e:p.1=k
  ·rw[if_pos e,if_pos (h1.symm.trans e)];exact ⟨h1,h2,ry⟩
  ·rw[if_neg e,if_neg (λz=>e (h1.trans z))];exact ⟨h1,h2,h3⟩
theorem KT.put {H:Hp} {kvs:List (List Key×V)} {xs:List (List Key×Addr×Value)} (r:KT H kvs xs) (k:List Key) {b:Addr} {y:V} {u:Value} (hb:H b=some (.tup (k.map kV))) (ry:RelV y u):
  KT H (putK kvs k y) (storedH xs k b u):=by
 have e:(kvs.any λkv=>decide (kv.1=k))=(atKey xs k).isSome:=by
  rw[fo,(r.val k).i7,adx]
 unfold putK storedH;rw[e];by_cases q:(atKey xs k).isSome=true
 ·rw[if_pos q,if_pos q];exact r.repl k ry
 ·rw[if_neg q,if_neg q];exact Paired.snoc r ⟨rfl,hb,ry⟩
theorem KT.keeps {H H':Hp} {kvs:List (List Key×V)} {xs:List (List Key×Addr×Value)} (r:KT H kvs xs) (ht:∀b ys,H b=some (.tup ys)→H' b=some (.tup ys)):KT H' kvs xs:=
 Paired.mapP r λ_ _ z=>⟨z.1,ht _ _ z.2.1,z.2.2⟩
section
variable {P:Program} {w:World} {H:Hp} {h:Heap} {a:Addr}
theorem rd_of {u:HO} (ok:HOk P w H h) (e:Rd H a u):br P w H h a u:=e.ok ok
theorem xt {kvs:List (Key×V)} (ok:HOk P w H h) (e:Rd H a (.dK kvs)):kvs.length≤sizeLine∧(a==sysModules)=false∧∃vs,KV kvs vs∧h.DictOf (bj P w) a vs:=
 show br P w H h a (.dK kvs) from rd_of ok e
theorem dk_of {kvs:List (Key×V)} (ok:HOk P w H h) (e:H a=some (.dK kvs)):kvs.length≤sizeLine∧(a==sysModules)=false∧∃vs,KV kvs vs∧h.DictOf (bj P w) a vs:=xt ok (.inl e)
theorem mf {ks:List Key} (ok:HOk P w H h) (e:H a=some (.tup (ks.map kV))):(tupleKind (bj P w)).is h ks a:=by
 obtain ⟨_,its,r,o,h1,h2,n,h3,_⟩:=(show br P w H h a (.tup (ks.map kV)) from ok a _ e);exact ⟨o,its.toArray,n,h1,h2,h3,by simpa using yn r⟩
theorem ym {kvs:List (List Key×V)} (ok:HOk P w H h) (e:Rd H a (.dT kvs)):kvs.length≤sizeLine∧(a==sysModules)=false∧
  ∃xs,KT H kvs xs∧h.DictOfH (tupleKind (bj P w)) a xs:=by
 obtain ⟨z,y,xs,r,o,es,ep,h1,h2,h3,h4,h5⟩:=(show br P w H h a (.dT kvs) from rd_of ok e);refine ⟨z,y,xs,r,o,es,ep,h1,h2,h3,h4,λx hx=>?_,h5⟩;have all:∀{l:List (List Key×V)} {m:List (List Key×Addr×Value)},KT H l m→∀x∈m,(tupleKind (bj P w)).is h x.1 x.2.1:=by
  intro l m q;induction q with
  | nil=>intro x hx;exact nomatch hx
  | @cons p q ps qs hq t ih=>
   intro x hx;rcases List.mem_cons.mp hx with e | hx
   ·subst e;exact mf ok (by rw[←hq.1];exact hq.2.1)
   ·exact ih x hx
 exact all r x hx
theorem J4 {kvs:List (List Key×V)} (ok:HOk P w H h) (e:H a=some (.dT kvs)):kvs.length≤sizeLine∧(a==sysModules)=false∧
  ∃xs,KT H kvs xs∧h.DictOfH (tupleKind (bj P w)) a xs:=ym ok (.inl e)
end
def jz (H:Hp) (a:Addr) (y:V) (r:Option V):Prop:=
 (∃kvs k,Rd H a (.dK kvs)∧y=kV k∧r=dh kvs k)∨∃kvs k b,Rd H a (.dT kvs)∧y=.ref b∧H b=some (.tup (k.map kV))∧r=dh kvs k
def vw (H:Hp) (a:Addr) (y v:V) (H':Hp):Prop:=
 (∃kvs k,H a=some (.dK kvs)∧y=kV k∧kvs.length < sizeLine∧H'=upd H a (.dK (putK kvs k v)))∨
 ∃kvs k b,H a=some (.dT kvs)∧y=.ref b∧H b=some (.tup (k.map kV))∧kvs.length < sizeLine∧H'=upd H a (.dT (putK kvs k v))
theorem jz.t {H:Hp} {a b:Addr} {kvs:List (List Key×V)} {k:List Key} (e:H a=some (.dT kvs)) (eb:H b=some (.tup (k.map kV))):jz H a (.ref b) (dh kvs k):=.inr ⟨kvs,k,b,.inl e,rfl,eb,rfl⟩
theorem vw.t {H:Hp} {a b:Addr} {kvs:List (List Key×V)} {k:List Key} {v:V} (e:H a=some (.dT kvs)) (eb:H b=some (.tup (k.map kV))) (hl:kvs.length < sizeLine):
  vw H a (.ref b) v (upd H a (.dT (putK kvs k v))):=.inr ⟨kvs,k,b,e,rfl,eb,hl,rfl⟩
section
variable {X:Cx} {pins:List (Addr×Obj)} {σ:St} {H:Hp} {s:Shared} {a:Addr} {y v:V} {u r:Value} {o:Option V} {A:Around} {E:Value→Shared→Prop}
theorem Inv.big (I:Inv X pins σ H s):sysModules < s.heap.objs.size:=by
 have h:mainGlobals < s.heap.objs.size:=(I.mod.glob.keeps I.bk).lt;exact Nat.lt_trans (by decide) h
theorem Hk {Q:Value→Shared→Prop} (hu:A.units+1 < cLine) (I:Inv X pins σ H s) (g:jz H a y (some v)) (ry:RelV y u) (h:∀w' s',Inv X pins σ H s'→RelV v w'→Q w' s'):
  wpAny (model X.prog X.w) A (getItem (.ref a) u) Q E s:=by
 rcases g with ⟨kvs,k,e,ey,l⟩ | ⟨kvs,k,b,e,ey,eb,l⟩
 ·subst ey;obtain ⟨z,hd,vs,rel,dd⟩:=xt I.hok e;obtain ⟨w',hw,rw'⟩:=m5.some_of (v:=v) (o:=valueAt vs k) (by rw[l];exact rel.val k);exact wpAny_getItem_of (rg ry) dd.mapOf hw (h w' _ (I.tok _) rw')
 ·subst ey;cases (show u=Value.ref b from ry)
  obtain ⟨z,hd,xs,rel,dd⟩:=ym I.hok e;obtain ⟨w',hw,rw'⟩:=m5.some_of (v:=v) (o:=(atKey xs k).map (·.2)) (by rw[l];exact rel.val k);obtain ⟨p,hp,hp2⟩:=Option.map_eq_some_iff.mp hw;refine wpAny_getItem_heap (tupleKind_room_in1 hu) (mf I.hok eb) dd hp ?_;rw[hp2];exact h w' _ (I.tok _) rw'
theorem d_in {Q:Value→Shared→Prop} (hu:A.units+1 < cLine) (I:Inv X pins σ H s) (g:jz H a y o) (ry:RelV y u) (h:∀s',Inv X pins σ H s'→Q (.bool o.isSome) s'):
  wpAny (model X.prog X.w) A (compareOp .In u (.ref a)) Q E s:=by
 rcases g with ⟨kvs,k,e,ey,l⟩ | ⟨kvs,k,b,e,ey,eb,l⟩
 ·subst ey;obtain ⟨z,hd,vs,rel,dd⟩:=xt I.hok e;refine wpAny_in_of (rg ry) hd dd.mapOf ?_;rw[←(rel.val k).i7,←l];exact h _ (I.tok _)
 ·subst ey;cases (show u=Value.ref b from ry)
  obtain ⟨z,hd,xs,rel,dd⟩:=ym I.hok e;refine wpAny_in_heap (tupleKind_room_in1 hu) (mf I.hok eb) hd dd ?_;have q:=(rel.val k).i7;rw[adx] at q;rw[←q,←l];exact h _ (I.tok _)
theorem O1 {Q:Value→Shared→Prop} (hu:A.units+1 < cLine) (I:Inv X pins σ H s) (g:jz H a y o) (ry:RelV y u) (h:∀s',Inv X pins σ H s'→Q (.bool (!o.isSome)) s'):
  wpAny (model X.prog X.w) A (compareOp .NotIn u (.ref a)) Q E s:=by
 rcases g with ⟨kvs,k,e,ey,l⟩ | ⟨kvs,k,b,e,ey,eb,l⟩
 ·subst ey;obtain ⟨z,hd,vs,rel,dd⟩:=xt I.hok e;refine wpAny_notIn_of (rg ry) hd dd.mapOf ?_;rw[←(rel.val k).i7,←l];exact h _ (I.tok _)
 ·subst ey;cases (show u=Value.ref b from ry)
  obtain ⟨z,hd,xs,rel,dd⟩:=ym I.hok e;refine wpAny_notIn_heap (tupleKind_room_in1 hu) (mf I.hok eb) hd dd ?_;have q:=(rel.val k).i7;rw[adx] at q;rw[←q,←l];exact h _ (I.tok _)
theorem Ae {h':Heap} {t':Nat} {ob:HO} (I:Inv X pins σ H s) (mu:Mut (H a)) (hs:Heap.SameBut a s.heap h') (he:∃q,h'.get? a=some q) (new:br X.prog X.w (upd H a ob) h' a ob):
  Inv X pins σ (upd H a ob) { s with heap:=h',toks:=t' }:=
 I.write (x:=a) (e:=a) mu (.inl rfl) (λb q hb z=>(hs.2 b hb).trans z) he new
theorem Jn {P:Program} {w:World} {H':Hp} {h':Heap} {kvs:List (Key×V)} {vs:List (Key×Value)} (z:kvs.length≤sizeLine) (hd:(a==sysModules)=false) (rel:KV kvs vs) (dd:h'.DictOf (bj P w) a vs):
  br P w H' h' a (.dK kvs):=⟨z,hd,vs,rel,dd⟩
theorem G7 {H':Hp} {Q:Unit→Shared→Prop} (hu:A.units+1 < cLine) (I:Inv X pins σ H s) (g:vw H a y v H') (ry:RelV y u) (rv:RelV v r) (h:∀s',Inv X pins σ H' s'→Q () s'):
  wpAny (model X.prog X.w) A (setItem (.ref a) u r) Q E s:=by
 rcases g with ⟨kvs,k,e,ey,l,eH⟩ | ⟨kvs,k,b,e,ey,eb,l,eH⟩
 ·subst ey eH;obtain ⟨z,hd,vs,rel,dd⟩:=dk_of I.hok e;have hz:vs.length≤sizeLine:=by rw[←rel.length];exact z
  have hl:(putK kvs k v).length≤sizeLine:=by have:=gj kvs k v;omega
  refine wpAny_setItem_pairs (hsz:=hz) (rg ry) dd λh' dd' hs=>h _ ?_;have he:∃q,h'.get? a=some q:=let ⟨q,_,_,hq,_⟩:=dd';⟨q,hq⟩
  exact Ae I (by rw[e];exact True.intro) hs he (Jn hl hd (rel.put k rv) dd')
 ·subst ey eH;cases (show u=Value.ref b from ry)
  obtain ⟨z,hd,xs,rel,dd⟩:=J4 I.hok e;have hz:xs.length≤sizeLine:=by rw[←Paired.length rel];exact z
  have hl:(putK kvs k v).length≤sizeLine:=by have:=gj kvs k v;omega
  refine wpAny_setItem_heap (hsz:=hz) (tupleKind_room_in1 hu) (mf I.hok eb) dd λh' dd' hs=>h _ ?_;obtain ⟨q,es,ep,hq,h2,h3,h4,_,h5⟩:=dd';refine Ae I (by rw[e];exact True.intro) hs ⟨q,hq⟩ ⟨hl,hd,_,(rel.put k eb rv).keeps λc ys ec=>?_,q,es,ep,hq,h2,h3,h4,h5⟩;rw[af (df ec e (λz=>nomatch z))];exact ec
end
section
variable {X:Cx} {pins:List (Addr×Obj)} {σ:St} {H:Hp} {s:Shared} {a:Addr} {kvs:List (Key×V)} {k:Key} {u:Value} {A:Around} {E:Value→Shared→Prop}
end
def NoSl (i:Expr):Prop:=∀ov iv,subscripted i false ov iv=operate [ov,iv] (getItem ov iv)
theorem Nk {prog:Program} {w:World} {A:Around} {E:Value→Shared→Prop} {s:Shared} {env:Env} {value slice:Expr} {pos:Pos} {T id:String} {Q:Value→Shared→Prop}
  (hl:typeLookup (.type T) "__getitem__"=pure (some (.builtin id))) (hs:NoSl slice)
  (h:wpAny (model prog w) A (eval value env) (λo s₁=>wpAny (model prog w) A (eval slice env) (λi s₂=>s₂.TypeIs o T∧wpAny (model prog w) A (getItem o i) Q E s₂) E s₁) E s):
  wpAny (model prog w) A (eval (.Subscript value slice pos) env) Q E s:=by
 refine Subscript_ (wpAny_mono h (λo s₁ h₁=>wpAny_mono h₁ (λi s₂ h₂=>?_) λ_ _ x=>x) λ_ _ x=>x);obtain ⟨hT,h₂⟩:=h₂;unfold subscriptTail;refine wpAny_bind ?_;rw[getitemInPython_of_ne hT.not_modules];refine wpAny_bind (wpAny_specialOf hT hl ?_);have fin:wpAny (model prog w) A (subscripted slice false o i) (λr s₃=>wpAny (model prog w) A (letTemporaryGo value o r >>=λ_=>pure r) Q E s₃) E s₂:=by
  rw[hs o i];exact wpAny_operating (wpAny_mono h₂ (λr s₃ h₃=>wpAny_bind (wpAny_letTemporaryGo (wpAny_pure h₃))) λ_ _ x=>x)
 first
  | exact wpAny_pure (wpAny_bind fin)
  | exact wpAny_bind (wpAny_pure (wpAny_bind fin))
  | exact wpAny_bind fin
theorem Ax {X:Cx} {pins:List (Addr×Obj)} {σ:St} {H:Hp} {s:Shared} {a:Addr} {y:V} {o:Option V} (I:Inv X pins σ H s) (g:jz H a y o):s.TypeIs (.ref a) "dict":=by
 rcases g with ⟨kvs,k,e,_,_⟩ | ⟨kvs,k,b,e,_,_,_⟩
 ·obtain ⟨_,_,vs,_,dd⟩:=xt I.hok e;exact dd.typeIs
 ·obtain ⟨_,_,xs,_,dd⟩:=ym I.hok e;exact dd.typeIs
def tDGet (td ty:TE):TE:=λσ H Q=>td σ H λx H1=>ty σ H1 λy H2=>∃a v,x=.ref a∧jz H2 a y (some v)∧Q v H2
def tDIn (ty td:TE):TE:=λσ H Q=>ty σ H λy H1=>td σ H1 λx H2=>∃a o,x=.ref a∧jz H2 a y o∧Q (.bl o.isSome) H2
def Gb (ty td:TE):TE:=λσ H Q=>ty σ H λy H1=>td σ H1 λx H2=>∃a o,x=.ref a∧jz H2 a y o∧Q (.bl (!o.isSome)) H2
def sDPut (td ty tv:TE):TS:=λD σ H=>tv σ H λv H1=>td σ H1 λx H2=>ty σ H2 λy H3=>∃a H4,x=.ref a∧vw H3 a y v H4∧D.nx σ H4
section
variable {X:Cx} {o i e value:Expr} {pos pos' tpos:Pos} {td ty tv:TE}
theorem Nf (hu:X.A.units+1 < cLine) (ho:PE X o td) (hi:PE X i ty) (hs:NoSl i):PE X (.Subscript o i pos) (tDGet td ty):=by
 intro pins s σ H Q I h;refine Nk PySem.F.slot_dict_getitem.lookup hs (thn (ho pins s σ H _ I h) λu s1 ⟨x,H1,I1,rx,q1⟩=>thn (hi pins s1 σ H1 _ I1 q1) λiv s2 ⟨y,H2,I2,ry,a,v,ex,g,q2⟩=>?_);subst ex;obtain rfl:u=Value.ref a:=rx;exact ⟨Ax I2 g,Hk hu I2 g ry λw' s3 I3 rw'=>⟨v,H2,I3,rw',q2⟩⟩
theorem pc_din (hu:X.A.units+1 < cLine) (hi:PE X i ty) (ho:PE X o td):PC X .In i o (tDIn ty td):=by
 intro pins s σ H Q I h;refine thn (hi pins s σ H _ I h) λiv s1 ⟨y,H1,I1,ry,q1⟩=>thn (ho pins s1 σ H1 _ I1 q1) λu s2 ⟨x,H2,I2,rx,a,ov,ex,g,q2⟩=>?_;subst ex;obtain rfl:u=Value.ref a:=rx;exact d_in hu I2 g ry λs3 I3=>⟨.bl ov.isSome,H2,I3,rfl,q2⟩
theorem Ih (hu:X.A.units+1 < cLine) (hi:PE X i ty) (ho:PE X o td):PC X .NotIn i o (Gb ty td):=by
 intro pins s σ H Q I h;refine thn (hi pins s σ H _ I h) λiv s1 ⟨y,H1,I1,ry,q1⟩=>thn (ho pins s1 σ H1 _ I1 q1) λu s2 ⟨x,H2,I2,rx,a,ov,ex,g,q2⟩=>?_;subst ex;obtain rfl:u=Value.ref a:=rx;exact O1 hu I2 g ry λs3 I3=>⟨.bl (!ov.isSome),H2,I3,rfl,q2⟩
theorem G2 (hu:X.A.units+1 < cLine) (ho:PE X o td) (hi:PE X i ty) (hv:PE X value tv) (hs:swapsWith value (some (.Subscript o i pos')) pos.line X.env=pure false):
  PS X (.Assign [.Subscript o i pos'] value pos) (sDPut td ty tv):=by
 intro pins s σ H D I h;refine wpAny_Assign_Subscript (thn (hv pins s σ H _ I h) λr s1 ⟨v,H1,I1,rv,q1⟩=>thn (ho pins s1 σ H1 _ I1 q1) λu s2 ⟨x,H2,I2,rx,q2⟩=>thn (hi pins s2 σ H2 _ I2 q2) λiv s3 ⟨y,H3,I3,ry,a,H4,ex,g,q3⟩=>?_) hs;subst ex;obtain rfl:u=Value.ref a:=rx;exact G7 hu I3 g ry rv λs4 I4=>⟨σ,H4,I4,q3⟩
end
theorem Ju {P:Program} {w:World} {H:Hp} (h:Heap) (hb:sysModules < h.objs.size):br P w H (h.push { cls:=.type "dict",data:=.dict #[] }) h.objs.size (.dK []):=
 ⟨aa8 _,beq_eq_false_iff_ne.mpr (Ne.symm (aaf hb)),[],.nil,Heap.DictOf.new h⟩
theorem M0 {P:Program} {w:World} {H:Hp} (h:Heap) (hb:sysModules < h.objs.size):br P w H (h.push { cls:=.type "dict",data:=.dict #[] }) h.objs.size (.dT []):=
 ⟨aa8 _,beq_eq_false_iff_ne.mpr (Ne.symm (aaf hb)),[],.nil,_,#[],0,Heap.get?_push_size _ rfl,⟨rfl,rfl,rfl⟩,rfl,rfl,acv⟩
def tDNewK:TE:=λ_ H Q=>∀p,H p=none→Q (.ref p) (upd H p (.dK []))
def Lp:TE:=λ_ H Q=>∀p,H p=none→Q (.ref p) (upd H p (.dT []))
section
variable {X:Cx} {pos:Pos}
theorem Bj:PE X (.Dict [] [] pos) Lp:=λpins s σ H Q I h=>
 wpAny_Dict_empty ⟨.ref s.heap.objs.size,_,I.laid (a:=s.heap.objs.size) (o:=.dT []) (t':=s.toks) (λ_ _ q=>Heap.get?_push_of_some _ q) (aa6 _) (M0 s.heap I.big),rfl,h _ (I.hok.fresh (aa6 _))⟩
end
def yz:List (TE×TE)→St→Hp→(List (V×V)→Hp→Prop)→Prop
 | [],_,H,Q=>Q [] H
 | (tk,tv)::r,σ,H,Q=>tk σ H λx H1=>tv σ H1 λy H2=>yz r σ H2 λps H3=>Q ((x,y)::ps) H3
abbrev VV:List (V×V)→List (Value×Value)→Prop:=Paired λp q=>RelV p.1 q.1∧RelV p.2 q.2
def PPs (X:Cx) (pos:Pos) (keys:List (Option Expr)) (values:List Expr) (trs:List (TE×TE)):Prop:=
 ∀(pins:List (Addr×Obj)) (s:Shared) (σ:St) (H:Hp) (Q:List (V×V)→Hp→Prop),Inv X pins σ H s→yz trs σ H Q→
  wpAny (model X.prog X.w) X.A (evalPairs (pairTrees keys values X.env pos)) (λvs s'=>∃ps H',Inv X pins σ H' s'∧VV ps vs∧Q ps H') X.xe s
theorem Qt {X:Cx} {pos:Pos}:PPs X pos [] [] []:=λpins s σ H Q I h=>pairTrees_nil_walk ⟨[],H,I,.nil,h⟩
theorem Jw {X:Cx} {pos:Pos} {k v:Expr} {ks:List (Option Expr)} {vs:List Expr} {tk tv:TE} {trs:List (TE×TE)} (hk:PE X k tk) (hv:PE X v tv) (hr:PPs X pos ks vs trs):
  PPs X pos (some k::ks) (v::vs) ((tk,tv)::trs):=λpins s σ H Q I h=>
 pairTrees_cons_walk (thn (hk pins s σ H _ I h) λu s1 ⟨x,H1,I1,rx,q1⟩=>thn (hv pins s1 σ H1 _ I1 q1) λw2 s2 ⟨y,H2,I2,ry,q2⟩=>
  thn (hr pins s2 σ H2 _ I2 q2) λws s3 ⟨ps,H3,I3,rel,q3⟩=>⟨(x,y)::ps,H3,I3,.cons ⟨rx,ry⟩ rel,q3⟩)
noncomputable def qp (kvs more:List (Key×V)):List (Key×V):=more.foldl (λacc kv=>putK acc kv.1 kv.2) kvs
theorem KV.merge:∀{more:List (Key×V)} {rs:List (Key×Value)} {kvs:List (Key×V)} {vs:List (Key×Value)},KV more rs→KV kvs vs→KV (qp kvs more) (merged vs rs):=by
 intro more rs kvs vs r;unfold KV at r;induction r generalizing kvs vs with
 | nil=>intro q;exact q
 | @cons p q ps qs h t ih=>
  intro r0;have e:KV (putK kvs p.1 p.2) (stored vs q.1 q.2):=by
   have:=r0.put p.1 h.2;rw[←h.1];exact this
  exact ih e
theorem me:∀(more kvs:List (Key×V)),(qp kvs more).length≤kvs.length+more.length
 | [],kvs=>by show kvs.length≤kvs.length+0;omega
 | p::r,kvs=>by
  have h1:=me r (putK kvs p.1 p.2);have h2:=gj kvs p.1 p.2;show (qp (putK kvs p.1 p.2) r).length≤_
  rw[aal];omega
theorem uz {P:Program} {w:World}:∀{kvs:List (Key×V)} {ws:List (Value×Value)},VV (kvs.map λkv=>(kV kv.1,kv.2)) ws→∃rs,Carries (bj P w) ws rs∧KV kvs rs
 | [],_,r=>by rw[ae3] at r;cases r;exact ⟨[],True.intro,.nil⟩
 | p::kvs,_,r=>by
  rw[ab0] at r;cases r with
  | @cons a b as bs h t=>
   obtain ⟨rs,c,q⟩:=uz (P:=P) (w:=w) t;obtain ⟨b1,b2⟩:=b;exact ⟨(p.1,b2)::rs,⟨rg h.1,rfl,c⟩,.cons ⟨rfl,h.2⟩ q⟩
def tDisp (trs:List (TE×TE)):TE:=λσ H Q=>∀p,H p=none→yz trs σ (upd H p (.dK [])) λps H2=>H2 p=some (.dK [])∧∃kvs:List (Key×V),ps=kvs.map (λkv=>(kV kv.1,kv.2))∧kvs.length≤15∧Q (.ref p) (upd H2 p (.dK (qp [] kvs)))
theorem P0 {X:Cx} {pos:Pos} {keys:List (Option Expr)} {values:List Expr} {trs:List (TE×TE)} (h:PPs X pos keys values trs) (hall:keys.all (·.isSome)=true) (hl:keys.length=values.length) (h0:keys≠[])
  (h15:keys.length≤15):PE X (.Dict keys values pos) (tDisp trs):=by
 intro pins s σ H Q I q;have hn:=I.hok.fresh (aa6 s.heap.objs.size);have I1:=I.laid (a:=s.heap.objs.size) (o:=.dK []) (h':=s.heap.push { cls:=.type "dict",data:=.dict #[] }) (t':=s.toks) (λ_ _ q=>Heap.get?_push_of_some _ q) (aa6 _) (Ju s.heap I.big);refine wpAny_Dict_walk (knd:=bj X.prog X.w) hall hl h0 h15 (thn (h pins _ σ _ _ I1 (q _ hn)) λws s2 ⟨ps,H2,I2,rel,e,kvs,ep,lk,q2⟩=>?_);subst ep;obtain ⟨rs,c,rk⟩:=uz (P:=X.prog) (w:=X.w) rel;obtain ⟨z,hd,vs0,r0,dd⟩:=dk_of I2.hok e;cases r0
 refine ⟨rs,c,dd,λh' dd' hs=>⟨.ref s.heap.objs.size,_,?_,rfl,q2⟩⟩;have hz:(qp [] kvs).length≤sizeLine:=by
  have h1:=me kvs [];rw[acn] at h1;rw[sizeLine_eq];omega
 have he:∃q,h'.get? s.heap.objs.size=some q:=let ⟨q,_,_,hq,_⟩:=dd';⟨q,hq⟩
 exact Ae I2 (by rw[e];exact True.intro) hs he (Jn hz hd (rk.merge .nil) dd')
structure M2 (X:Cx) (o:Expr) (m:Str) (apos:Pos) (e f:Expr) (cpos:Pos):Prop where
 base:attributeBase o m X.env (eval o X.env)=eval o X.env
 few:((backTo cpos (starEach [e,f] X.env)).all (λx=>!x.1)&&(backToKw cpos (keywordEach [] X.env)).all (λx=>x.1.isSome)
  &&decide (([e,f]:List Expr).length+([]:List Keyword).length+(if ([]:List Keyword).isEmpty then 0 else 1) < 30))=true
 line:(apos.endLine==cpos.line)=true
 trees:backTo cpos (starEach [e,f] X.env)=[(false,eval e X.env),(false,eval f X.env)]
section
variable {X:Cx} {pins:List (Addr×Obj)} {σ:St} {H:Hp} {s:Shared} {a:Addr} {y d:V} {u r:Value} {o:Option V} {A:Around} {E:Value→Shared→Prop}
end
section
variable {X:Cx} {o e f:Expr} {apos cpos:Pos} {td ty tx:TE}
end
section
variable {X:Cx} {pins:List (Addr×Obj)} {σ:St} {H:Hp} {s:Shared} {a:Addr} {kvs:List (Key×V)} {A:Around} {E:Value→Shared→Prop}
end
section
variable {X:Cx} {pins:List (Addr×Obj)} {σ:St} {H:Hp} {s:Shared} {a:Addr} {y:V} {u:Value} {A:Around} {E:Value→Shared→Prop}
end
end L2
namespace L2
open PySem PySem.Spec PyProof.Rows
section
variable {X:Cx}
end
section
variable {κ:Type} [DecidableEq κ]
theorem Pf {kvs:List (κ×V)} {k:κ} {v:V} (h:dh kvs k=some v):k∈kvs.map (·.1):=by
 have q:(kvs.any λkv=>decide (kv.1=k))=true:=by
  rw[fo,h];all_goals rfl
 obtain ⟨p,hp,e⟩:=List.any_eq_true.mp q;exact List.mem_map.mpr ⟨p,hp,of_decide_eq_true e⟩
end
end L2
namespace L2
open PySem PySem.Spec PyProof.Rows
def vn (i:Nat):TE:=λσ H Q=>match σ[i]? with | some (some v)=>Q v H | _=>False
theorem pvD {X:Cx} (i:Nat) {x:Str} {pos:Pos} (hN:X.N[i]?=some x) (hv:Vis X.env.scope x) (hd:(x==("__debug__":Str))=false) (hcd:(x==("__classdict__":Str))=false):PE X (.Name x pos) (vn i):=λpins s σ H Q I h=>pv i hN hv hd hcd pins s σ H Q I (by
 unfold vn at h;split at h
 ·exact ⟨_,‹_›,h⟩
 ·exact h.elim)
theorem pl {X:Cx} (i:Nat) {x:Str} {pos:Pos} (hN:X.N[i]?=some x) (hv:X.env.scope.names.lookup x=some .local) (hd:(x==("__debug__":Str)||x==("__classdict__":Str))=false):PE X (.Name x pos) (vn i):=pvD i hN (.inl hv) (Bool.or_eq_false_iff.mp hd).1 (Bool.or_eq_false_iff.mp hd).2
theorem pk {X:Cx} (i:Nat) {x:Str} {pos:Pos} (hN:X.N[i]?=some x) (hv:X.env.scope.names.lookup x=some .cell) (hd:(x==("__debug__":Str)||x==("__classdict__":Str))=false):PE X (.Name x pos) (vn i):=pvD i hN (.inr (.inl hv)) (Bool.or_eq_false_iff.mp hd).1 (Bool.or_eq_false_iff.mp hd).2
theorem ja {i:Nat} {σ:L2.St} {H:Hp} {Q:VK}:vn i σ H Q=∃v,σ[i]?=some (some v)∧Q v H:=by
 unfold vn;refine propext ⟨λh=>?_,λ⟨v,e,h⟩=>?_⟩
 ·split at h
  ·exact ⟨_,‹_›,h⟩
  ·exact h.elim
 ·rw[e];exact h
theorem Hy {α:Type} {a:α} {x y:List α}:(a::x=a::y)=(x=y):=propext ⟨λh=>(abp h).2,λh=>by rw[h]⟩
theorem Pj {α:Type} {a b:α}:([a]=[b])=(a=b):=propext ⟨λh=>(abp h).1,λh=>by rw[h]⟩
theorem Nv {α:Type} {a b c d:α}:([a,c]=[b,d])=(a=b∧c=d):=propext ⟨λh=>⟨(abp h).1,(abp (abp h).2).1⟩,λ⟨h,k⟩=>by rw[h,k]⟩
theorem Pa {α:Type} {a b c d e f:α}:([a,c,e]=[b,d,f])=(a=b∧c=d∧e=f):=propext ⟨λh=>⟨(abp h).1,(abp (abp h).2).1,(abp (abp (abp h).2).2).1⟩,λ⟨h,k,l⟩=>by rw[h,k,l]⟩
theorem int_ex {a:Int} {p:Int→Prop}:(∃x,V.int a=V.int x∧p x)=p a:=propext ⟨λ⟨x,e,h⟩=>by cases e;exact h,λh=>⟨a,rfl,h⟩⟩
theorem ref_ex {a:Addr} {p:Addr→Prop}:(∃x,V.ref a=V.ref x∧p x)=p a:=propext ⟨λ⟨x,e,h⟩=>by cases e;exact h,λh=>⟨a,rfl,h⟩⟩
theorem bl_ex {a:Bool} {p:Bool→Prop}:(∃x,V.bl a=V.bl x∧p x)=p a:=propext ⟨λ⟨x,e,h⟩=>by cases e;exact h,λh=>⟨a,rfl,h⟩⟩
theorem Nq {a b:Int} {p:Int→Int→Prop}:(∃x y,V.int a=V.int x∧V.int b=V.int y∧p x y)=p a b:=propext ⟨λ⟨x,y,e,e2,h⟩=>by cases e;cases e2;exact h,λh=>⟨a,b,rfl,rfl,h⟩⟩
theorem ifY {c:Prop} [Decidable c] {A B:Prop} (hc:c) (h:A):if c then A else B:=by rw[if_pos hc];exact h
theorem ifN {c:Prop} [Decidable c] {A B:Prop} (hc:¬c) (h:B):if c then A else B:=by rw[if_neg hc];exact h
theorem us0 {α:Type} {P:List α→Prop} {us:List α} (hl:us.length=0) (h:P []):P us:=by
 rw[List.length_eq_zero_iff.mp hl];exact h
theorem usS {α:Type} {P:List α→Prop} {us:List α} {n:Nat} (hl:us.length=n+1) (h:∀a us,us.length=n→P (a::us)):P us:=by
 cases us with
 | nil=>exact absurd hl.symm (Nat.succ_ne_zero n)
 | cons a l=>exact h a l (Nat.succ.inj hl)
theorem us1 {α:Type} {P:List α→Prop} {us:List α} (hl:us.length=1) (h:∀a,P [a]):P us:=usS hl λa us hl=>us0 (P:=λus=>P (a::us)) hl (h a)
theorem us2 {α:Type} {P:List α→Prop} {us:List α} (hl:us.length=2) (h:∀a b,P [a,b]):P us:=usS hl λa us hl=>us1 (P:=λus=>P (a::us)) hl (h a)
theorem us3 {α:Type} {P:List α→Prop} {us:List α} (hl:us.length=3) (h:∀a b c,P [a,b,c]):P us:=usS hl λa us hl=>us2 (P:=λus=>P (a::us)) hl (h a)
theorem us4 {α:Type} {P:List α→Prop} {us:List α} (hl:us.length=4) (h:∀a b c d,P [a,b,c,d]):P us:=usS hl λa us hl=>us3 (P:=λus=>P (a::us)) hl (h a)
theorem us5 {α:Type} {P:List α→Prop} {us:List α} (hl:us.length=5) (h:∀a b c d e,P [a,b,c,d,e]):P us:=usS hl λa us hl=>us4 (P:=λus=>P (a::us)) hl (h a)
def Ea (g:Int→Int→V):R2:=λx y H Q=>match x,y with | .int i,.int j=>Q (g i j) H | _,_=>False
def rID (C:Int→Int→Prop) (g:Int→Int→V):R2:=λx y H Q=>match x,y with | .int i,.int j=>C i j∧Q (g i j) H | _,_=>False
def rUD (g:Int→V):V→Hp→VK→Prop:=λx H Q=>match x with | .int i=>Q (g i) H | _=>False
def tBD (t:TE):TT:=λσ H Q=>t σ H λx H1=>match x with | .bl c=>Q c H1 | _=>False
def Ef (t:TE):TO:=λσ H Q=>t σ H λx H1=>match x with | .int i=>Q (some i) H1 | _=>False
theorem jv:@Ea=@rI0:=by
 funext g x y H Q
 refine propext ⟨λh=>?_,λ⟨i,j,e,f,h⟩=>by subst e;subst f;exact h⟩;unfold Ea at h;split at h
 ·exact ⟨_,_,rfl,rfl,h⟩
 ·exact h.elim
theorem y6:@rID=@rI:=by
 funext C g x y H Q
 refine propext ⟨λh=>?_,λ⟨i,j,e,f,h⟩=>by subst e;subst f;exact h⟩;unfold rID at h;split at h
 ·exact ⟨_,_,rfl,rfl,h⟩
 ·exact h.elim
theorem rUD_eq:@rUD=@rU:=by
 funext g x H Q
 refine propext ⟨λh=>?_,λ⟨i,e,h⟩=>by subst e;exact h⟩;unfold rUD at h;split at h
 ·exact ⟨_,rfl,h⟩
 ·exact h.elim
theorem blD {x:V} {Q:Bool→Prop}:(match x with | .bl c=>Q c | _=>False)=∃c,x=.bl c∧Q c:=by
 refine propext ⟨λh=>?_,λ⟨i,e,h⟩=>by subst e;exact h⟩;split at h
 ·exact ⟨_,rfl,h⟩
 ·exact h.elim
theorem j6:@tBD=@tB:=by
 funext t σ H Q
 exact congrArg (t σ H) (funext λx=>funext λH1=>blD)
theorem Hz:@Ef=@K0:=by
 funext t σ H Q
 refine congrArg (t σ H) (funext λx=>funext λH1=>propext ⟨λh=>?_,λ⟨i,e,h⟩=>by subst e;exact h⟩);split at h
 ·exact ⟨_,rfl,h⟩
 ·exact h.elim
variable {X:Cx}
theorem Nh:OpR X (binaryOp .Add) (Ea λi j=>.int (i+j)):=jv ▸ op_add
theorem Qi:OpR X (binaryOp .Sub) (Ea λi j=>.int (i - j)):=jv ▸ op_sub
theorem ni:OpR X (compareOp .Lt) (Ea λi j=>.bl (decide (i < j))):=jv ▸ op_lt
theorem jd:OpR X (compareOp .Gt) (Ea λi j=>.bl (decide (j < i))):=jv ▸ op_gt
theorem zc:OpR X (binaryOp .Mult) (rID CMul λi j=>.int (i*j)):=y6 ▸ op_mul
theorem Ko:OpR X (binaryOp .FloorDiv) (rID pj λi j=>.int (i / j)):=y6 ▸ Om
theorem O0:OpR X (binaryOp .Mod) (rID (λ_ j=>0 < j) λi j=>.int (i % j)):=y6 ▸ op_mod
theorem iu:OpR X (binaryOp .Pow) (rID CPow λi j=>.int (i ^ j.toNat)):=y6 ▸ op_pow
theorem jj:UnR X (unaryOp .USub) (rUD λi=>.int (-i)):=rUD_eq ▸ un_neg
theorem Pk {e:Expr} {t:TE} (h:PE X e t) (he:∀whole,isTrue e X.env whole=(do let v ←whole;standAt e.pos;holding [v] (truthy v))):PT X e (tBD t):=j6 ▸ pt_val h he
theorem P9 {a b:Expr} {pos:Pos} {op:CmpOp} {t:TE} (h:PC X op a b t) (h1:behindInMarks op b=false):PT X (.Compare a [op] [b] pos) (tBD t):=j6 ▸ pt_cmp h h1
theorem Bw {a b:Expr} {ta tb:TE} {pos:Pos} {op:CmpOp} {r:R2} (ho:OpR X (compareOp op) r) (ha:PE X a ta) (hb:PE X b tb) (hm:behindInMarks op b=false):PT X (.Compare a [op] [b] pos) (tBD (tOp r ta tb)):=j6 ▸ Ng ho ha hb hm
theorem My {e:Expr} {te:TE} (h:PE X e te):PO X (some e) (Ef te):=Hz ▸ Pg h
def Mq (K:PySem.W.Frag):List V→Hp→VK→Prop:=λxs H Q=>match xs with | [.ref p]=>∃ys,(SqL K H p ys∨SqT K H p ys)∧Q (.int ys.length) H | _=>False
def Me (K:PySem.W.Frag):List V→Hp→VK→Prop:=λxs H Q=>match xs with | [.ref p]=>∃ys,(SqL K H p ys∧∀l,H l=none→Q (.ref l) (upd H l (.tup ys)))∨(SqT K H p ys∧Q (.ref p) H) | _=>False
def Mc:List V→Hp→VK→Prop:=λxs H Q=>match xs with | [.int i]=>Q (.int i) H | [.bl k]=>Q (.int (if k then 1 else 0)) H | _=>False
theorem xi:gw X (.builtin "len") (Mq X.K):=by
 refine Eq.mp (congrArg _ ?_) Ab;funext xs H Q
 refine propext ⟨λ⟨p,ys,e,h⟩=>by subst e;exact ⟨ys,h⟩,λh=>?_⟩;unfold Mq at h;split at h
 ·exact h.elim λys h=>⟨_,ys,rfl,h⟩
 ·exact h.elim
theorem wo:gw X (.type "tuple") (Me X.K):=by
 refine Eq.mp (congrArg _ ?_) xj;funext xs H Q
 refine propext ⟨λ⟨p,ys,e,h⟩=>by subst e;exact ⟨ys,h⟩,λh=>?_⟩;unfold Me at h;split at h
 ·exact h.elim λys h=>⟨_,ys,rfl,h⟩
 ·exact h.elim
theorem gx:gw X (.type "int") Mc:=by
 refine Eq.mp (congrArg _ ?_) Jc;funext xs H Q
 refine propext ⟨λh=>?_,λh=>?_⟩
 ·rcases h with ⟨i,e,h⟩ | ⟨k,e,h⟩ <;> subst e <;> exact h
 unfold Mc at h;split at h
 ·exact .inl ⟨_,rfl,h⟩
 ·exact .inr ⟨_,rfl,h⟩
 ·exact h.elim
end L2
namespace Pc
section
variable {κ:Type} [DecidableEq κ]
noncomputable def cost (g:κ→Option Int):Int→List κ→Option Int
 | c,[]=>some c
 | c,k::r=>match g k with
  | none=>none
  | some v=>cost g (c+v) r
structure Ft (κ:Type) where
 key:κ
 own:Int
 hs:List κ
theorem gu {g:κ→Option Int} {c:Int} {k:κ} {r:List κ} {v:Int} (h:g k=some v):cost g c (k::r)=cost g (c+v) r:=by
 show (match g k with | none=>none | some v=>cost g (c+v) r)=_
 rw[h]
theorem i6 {g:κ→Option Int} {c:Int} {k:κ} {r:List κ} (h:g k=none):cost g c (k::r)=none:=by
 show (match g k with | none=>none | some v=>cost g (c+v) r)=_
 rw[h]
theorem lr {g:κ→Option Int} {c x:Int} {k:κ} {r:List κ} (h:cost g c (k::r)=some x):∃v,g k=some v∧cost g (c+v) r=some x:=by
 cases e:g k with
 | none=>rw[i6 e] at h;cases h
 | some v=>rw[gu e] at h;exact ⟨v,rfl,h⟩
theorem sr {g g':κ→Option Int}:∀{hs:List κ} {c c' x:Int},(∀k∈hs,∀v,g k=some v→∃v',g' k=some v'∧v'≤v)→c'≤c→cost g c hs=some x→∃x',cost g' c' hs=some x'∧x'≤x
 | [],c,c',x,_,hc,h=>⟨c',rfl,by cases h;exact hc⟩
 | k::r,c,c',x,hk,hc,h=>by
  obtain ⟨v,hv,h⟩:=lr h;obtain ⟨v',hv',le⟩:=hk k aan v hv;obtain ⟨x',hx',le'⟩:=sr (c':=c'+v') (λk' m=>hk k' (aaj _ m)) (by omega) h;exact ⟨x',by rw[gu hv'];exact hx',le'⟩
theorem vj {g g':κ→Option Int}:∀{hs:List κ} {c:Int},(∀k∈hs,g k=g' k)→cost g c hs=cost g' c hs
 | [],c,_=>rfl
 | k::r,c,h=>by
  have e:=h k aan;cases q:g k with
  | none=>rw[i6 q,i6 (e ▸ q)]
  | some v=>rw[gu q,gu (e ▸ q)];exact vj λk' m=>h k' (aaj _ m)
theorem sq {g:κ→Option Int} (pos:∀k v,g k=some v→1≤v):∀{hs:List κ} {c x:Int},cost g c hs=some x→c≤x
 | [],c,x,h=>by cases h;exact ac1 _
 | k::r,c,x,h=>by
  obtain ⟨v,hv,h⟩:=lr h;have:=sq pos h;have:=pos k v hv;omega
theorem G6 {g:κ→Option Int} (pos:∀k v,g k=some v→1≤v):∀{hs:List κ} {c x:Int},1≤c→cost g c hs=some x→∀k∈hs,∃v,g k=some v∧v < x
 | [],c,x,_,_,k,hk=>nomatch hk
 | k::r,c,x,hc,h,k',hk=>by
  obtain ⟨v,hv,h2⟩:=lr h;have p:=pos k v hv;have p2:=sq pos h2;rcases List.mem_cons.mp hk with e | hk
  ·exact ⟨v,by rw[e];exact hv,by omega⟩
  ·exact G6 pos (by omega) h2 k' hk
theorem uo {g:κ→Option Int} {M:Int} (h0:0≤M) (hM:∀k v,g k=some v→v≤M):∀{hs:List κ} {c x:Int},cost g c hs=some x→x≤c+hs.length*M
 | [],c,x,h=>by cases h;simp
 | k::r,c,x,h=>by
  obtain ⟨v,hv,h⟩:=lr h;have:=uo h0 hM h;have:=hM k v hv;rw[aal,Int.natCast_add,Int.add_mul];omega
def jh (F:List (Ft κ)) (g:κ→Option Int):Prop:=∀f∈F,∀c,cost g f.own f.hs=some c→∃v,g f.key=some v∧v≤c
def Due (F:List (Ft κ)) (g:κ→Option Int):Prop:=∀k v,g k=some v→∃f∈F,f.key=k∧∃c,cost g f.own f.hs=some c∧c≤v
structure Tbl (F:List (Ft κ)) (g:κ→Option Int):Prop where
 st:jh F g
 du:Due F g
 pos:∀k v,g k=some v→1≤v
theorem Tbl.exact {F:List (Ft κ)} {g:κ→Option Int} (h:Tbl F g) {k:κ} {v:Int} (hv:g k=some v):∃f∈F,f.key=k∧cost g f.own f.hs=some v:=by
 obtain ⟨f,hf,rfl,c,hc,le⟩:=h.du k v hv;obtain ⟨v',hv',le'⟩:=h.st f hf c hc;obtain rfl:v=v':=aa3 (hv.symm.trans hv');exact ⟨f,hf,rfl,by rw[hc];congr 1;omega⟩
theorem Tbl.le {F:List (Ft κ)} {g g':κ→Option Int} (h:Tbl F g) (h':Tbl F g') (own:∀f∈F,1≤f.own):∀(n:Nat) (k:κ) (v:Int),v.toNat≤n→g k=some v→∃v',g' k=some v'∧v'≤v
 | 0,k,v,hn,hv=>by
  have:=h.pos k v hv;omega
 | n+1,k,v,hn,hv=>by
  obtain ⟨f,hf,rfl,hc⟩:=h.exact hv;have lt:=G6 h.pos (own f hf) hc;have p:=h.pos _ v hv;obtain ⟨x',hx',le⟩:=sr (g':=g') (c':=f.own) (λk hk w hw=>by
   obtain ⟨w',hw',l⟩:=lt k hk;obtain rfl:w=w':=aa3 (hw.symm.trans hw');exact Tbl.le h h' own n k w (by omega) hw) (ac1 _) hc
  obtain ⟨v',hv',le'⟩:=h'.st f hf x' hx';exact ⟨v',hv',by omega⟩
theorem Tbl.eq {F:List (Ft κ)} {g g':κ→Option Int} (h:Tbl F g) (h':Tbl F g') (own:∀f∈F,1≤f.own):g=g':=by
 funext k
 cases e:g k with
 | some v=>
  obtain ⟨v',hv',le⟩:=Tbl.le h h' own _ k v (aa6 _) e;obtain ⟨v2,hv2,le2⟩:=Tbl.le h' h own _ k v' (aa6 _) hv';obtain rfl:v=v2:=aa3 (e.symm.trans hv2);rw[hv'];congr 1
  omega
 | none=>
  cases e':g' k with
  | none=>rfl
  | some v=>
   obtain ⟨v',hv',_⟩:=Tbl.le h' h own _ k v (aa6 _) e';rw[e] at hv';cases hv'
noncomputable def gb (g:κ→Option Int) (k:κ) (v:Int):κ→Option Int:=λx=>if x=k then some v else g x
theorem cf {g:κ→Option Int} {k:κ} {v:Int}:gb g k v k=some v:=if_pos rfl
theorem dw {g:κ→Option Int} {k x:κ} {v:Int} (h:x≠k):gb g k v x=g x:=if_neg h
def Imp (g:κ→Option Int) (k:κ) (c:Int):Prop:=g k=none∨∃v,g k=some v∧c < v
theorem Imp.le {g:κ→Option Int} {k:κ} {c:Int} (h:Imp g k c) {x:κ} {v:Int} (hv:g x=some v):∃v',gb g k c x=some v'∧v'≤v:=by
 by_cases e:x=k
 ·subst e;refine ⟨c,cf,?_⟩;rcases h with h | ⟨w,h,l⟩
  ·rw[h] at hv;cases hv
  ·rw[h] at hv;cases hv;omega
 ·exact ⟨v,by rw[dw e];exact hv,ac1 _⟩
theorem Pq {F:List (Ft κ)} {g:κ→Option Int} {f:Ft κ} {c:Int} (D:Due F g) (hf:f∈F) (hc:cost g f.own f.hs=some c) (im:Imp g f.key c):Due F (gb g f.key c):=λk v hv=>by
 have up:∀{f':Ft κ} {c':Int},cost g f'.own f'.hs=some c'→∃x,cost (gb g f.key c) f'.own f'.hs=some x∧x≤c':=λh=>sr (λk _ v hv=>im.le hv) (ac1 _) h;by_cases e:k=f.key
 ·subst e;rw[cf] at hv;cases hv
  obtain ⟨x,hx,le⟩:=up hc;exact ⟨f,hf,rfl,x,hx,le⟩
 ·rw[dw e] at hv;obtain ⟨f',hf',e',c',hc',le⟩:=D k v hv;obtain ⟨x,hx,le'⟩:=up hc';exact ⟨f',hf',e',x,hx,by omega⟩
noncomputable def cnt (F:List (Ft κ)) (g:κ→Option Int):Nat:=(F.filter λf=>(g f.key).isSome).length
theorem Dm (F:List (Ft κ)) (g:κ→Option Int):cnt F g≤F.length:=abf _ _
theorem j9 {g g':κ→Option Int}:∀(F:List (Ft κ)),(∀f∈F,(g f.key).isSome→(g' f.key).isSome)→cnt F g≤cnt F g'
 | [],_=>aa6 _
 | f::F,h=>by
  have ih:=j9 F λf' m=>h f' (aaj _ m);have h0:=h f aan;unfold cnt at ih ⊢;rw[aau,aau];cases e:(g f.key).isSome with
  | false=>
   rw[if_neg (by simp)];split
   ·rw[aal];omega
   ·exact ih
  | true=>
   rw[h0 e];simp only[if_true,aal];omega
theorem t7 {g:κ→Option Int} {k:κ} {c:Int} (hn:g k=none):∀(F:List (Ft κ)),(∃f∈F,f.key=k)→cnt F g+1≤cnt F (gb g k c)
 | [],h=>by obtain ⟨f,hf,_⟩:=h;cases hf
 | f::F,h=>by
  have mono:=j9 (g:=g) (g':=gb g k c) F λf' _ e=>by
   by_cases q:f'.key=k
   ·rw[q,cf];rfl
   ·rw[dw q];exact e
  unfold cnt at mono ⊢;rw[aau,aau];by_cases q:f.key=k
  ·rw[q,hn,cf];simp only[aco,aca,if_true,aaz,if_false,aal];omega
  ·rw[dw q];have ih:=t7 (c:=c) hn F (by
    obtain ⟨f',hf',e⟩:=h;rcases List.mem_cons.mp hf' with rfl | hf'
    ·exact absurd e q
    ·exact ⟨f',hf',e⟩)
   unfold cnt at ih;cases (g f.key).isSome with
   | true=>simp only[if_true,aal];omega
   | false=>simp only[aaz,if_false];omega
noncomputable def top (D P h:Nat):Nat→Nat
 | 0=>D
 | c+1=>top D P h c+P+h*top D P h c
theorem j5 (D P h:Nat):∀{a b:Nat},a≤b→top D P h a≤top D P h b:=λ{a b} hab=>by
 induction hab with
 | refl=>exact aa6 _
 | @step m _ ih=>
  have:top D P h m≤top D P h (m+1):=by
   show _≤top D P h m+P+h*top D P h m
   rw[Nat.add_assoc];exact ab2 _ _
  exact aay ih this
theorem nu {α:Type} (f:α→Nat):∀l:List α,∃B,∀x∈l,f x≤B
 | []=>⟨0,λ_ h=>nomatch h⟩
 | a::l=>by
  obtain ⟨B,h⟩:=nu f l;refine ⟨f a+B,λx hx=>?_⟩;rcases List.mem_cons.mp hx with rfl | hx
  ·exact ab2 _ _
  ·exact aay (h x hx) (Nat.le_add_left _ _)
noncomputable def room (B:Nat) (F:List (Ft κ)) (g:κ→Option Int):Nat:=(F.map λf=>match g f.key with | some v=>v.toNat | none=>B+1).sum
theorem Br {B:Nat} {g:κ→Option Int} {k:κ} {c:Int} (im:Imp g k c) (h0:0≤c) (hB:c.toNat≤B):∀(F:List (Ft κ)),room B F (gb g k c)≤room B F g∧((∃f∈F,f.key=k)→room B F (gb g k c) < room B F g)
 | []=>⟨aa6 _,λh=>by obtain ⟨f,hf,_⟩:=h;cases hf⟩
 | f::F=>by
  obtain ⟨i1,i2⟩:=Br (B:=B) im h0 hB F;unfold room at i1 i2 ⊢;rw[ab0,ab0,List.sum_cons,List.sum_cons];by_cases q:f.key=k
  ·rw[q,cf];rcases im with e | ⟨v,e,l⟩
   ·rw[e];show c.toNat+_≤B+1+_∧(_→c.toNat+_ < B+1+_)
    exact ⟨by omega,λ_=>by omega⟩
   ·rw[e];show c.toNat+_≤v.toNat+_∧(_→c.toNat+_ < v.toNat+_)
    exact ⟨by omega,λ_=>by omega⟩
  ·rw[dw q];refine ⟨by omega,λh=>?_⟩;have:=i2 (by
    obtain ⟨f',hf',e⟩:=h;rcases List.mem_cons.mp hf' with rfl | hf'
    ·exact absurd e q
    ·exact ⟨f',hf',e⟩)
   omega
theorem ends {F:List (Ft κ)} {g0:κ→Option Int} (pos0:∀k v,g0 k=some v→1≤v) (own:∀f∈F,1≤f.own) (hB:∃D:Nat,∀k v,g0 k=some v→v≤(D:Int)):
  ∃(μ:(κ→Option Int)→Nat) (Ok:(κ→Option Int)→Prop),Ok g0∧(∀g,Ok g→∀k v,g k=some v→1≤v)∧∀g f c,Ok g→f∈F→cost g f.own f.hs=some c→Imp g f.key c→Ok (gb g f.key c)∧μ (gb g f.key c) < μ g:=by
 obtain ⟨D,hD⟩:=hB;obtain ⟨P,hP⟩:=nu (λf:Ft κ=>f.own.toNat) F;obtain ⟨h,hh⟩:=nu (λf:Ft κ=>f.hs.length) F;refine ⟨room (top D P h F.length) F,λg=>(∀k v,g k=some v→1≤v∧v≤(top D P h (cnt F g):Int)),λk v hv=>⟨pos0 k v hv,?_⟩,λg ok k v hv=>(ok k v hv).1,λg f c ok hf hc im=>?_⟩
 ·have a1:=hD k v hv;have a2:=j5 D P h (aa8 (cnt F g0));have a3:top D P h 0=D:=rfl;omega
 ·have pos:∀k v,g k=some v→1≤v:=λk v hv=>(ok k v hv).1;have c1:=sq pos hc;have o1:=own f hf;have hmono:cnt F g≤cnt F (gb g f.key c):=j9 F λf' _ e=>by
   by_cases q:f'.key=f.key
   ·rw[q,cf];rfl
   ·rw[dw q];exact e
  have hcb:c≤(top D P h (cnt F (gb g f.key c)):Int):=by
   rcases im with e | ⟨v,e,l⟩
   ·have a1:=uo (M:=(top D P h (cnt F g):Int)) (by omega) (λk v hv=>(ok k v hv).2) hc;have a2:f.own.toNat≤P:=hP f hf;have a3:f.hs.length≤h:=hh f hf;have a4:=t7 (c:=c) e F ⟨f,hf,rfl⟩;have a5:=j5 D P h a4;have a6:top D P h (cnt F g+1)=top D P h (cnt F g)+P+h*top D P h (cnt F g):=rfl;have a7:f.hs.length*top D P h (cnt F g)≤h*top D P h (cnt F g):=Nat.mul_le_mul_right _ a3;have a8:((f.hs.length*top D P h (cnt F g):Nat):Int)=(f.hs.length:Int)*(top D P h (cnt F g):Int):=by rw[Int.natCast_mul]
    omega
   ·have:=(ok _ v e).2;have a5:=j5 D P h hmono;omega
  have tB:=j5 D P h (Dm F (gb g f.key c));refine ⟨λk v hv=>?_,(Br im (by omega) (by omega) F).2 ⟨f,hf,rfl⟩⟩;by_cases q:k=f.key
  ·subst q;rw[cf] at hv;cases hv
   exact ⟨by omega,hcb⟩
  ·rw[dw q] at hv;obtain ⟨b1,b2⟩:=ok k v hv;have a5:=j5 D P h hmono;exact ⟨b1,by omega⟩
end
end Pc
namespace L2
open PySem PySem.Spec PyProof.Rows
theorem lookup_mem {α:Type} {x:Str} {c:α}:∀{l:List (Str×α)},l.lookup x=some c→(x,c)∈l
 | [],h=>by cases h
 | (y,d)::r,h=>by
  rw[ae4] at h;cases e:x==y with
  | true=>
   rw[e] at h;have e':x=y:=eq_of_beq e;cases h
   subst e';exact aan
  | false=>
   rw[e] at h;exact aaj _ (lookup_mem h)
noncomputable def xg (ix:List Nat) (σ:St):St:=ix.map λj=>(σ[j]?).getD none
def SubP (cs:List (Str×Addr)):List (Str×Addr)→Prop
 | []=>True
 | p::r=>cs.lookup p.1=some p.2∧SubP cs r
theorem SubP.of {cs:List (Str×Addr)}:∀{cl:List (Str×Addr)},SubP cs cl→∀p∈cl,cs.lookup p.1=some p.2
 | [],_,_,h=>by cases h
 | p::r,⟨h1,h2⟩,q,hq=>by
  rcases List.mem_cons.mp hq with e | e
  ·rw[e];exact h1
  ·exact SubP.of h2 q e
def Aq (X:Cx) (scope:Scope):List Str→List Nat→Prop
 | [],[]=>True
 | x::fr,j::ix=>(X.N[j]?=some x∧X.env.kindOf x=some .cell∧(relabel scope X.env).names.lookup x=some .cell)∧Aq X scope fr ix
 | _,_=>False
theorem Aq.len {X:Cx} {scope:Scope}:∀{fr:List Str} {ix:List Nat},Aq X scope fr ix→fr.length=ix.length
 | [],[],_=>rfl
 | x::fr,j::ix,h=>by rw[aal,aal,Aq.len h.2]
 | [],_::_,h=>h.elim
 | _::_,[],h=>h.elim
theorem Aq.get {X:Cx} {scope:Scope}:∀{fr:List Str} {ix:List Nat},Aq X scope fr ix→∀(k j:Nat),ix[k]?=some j→∃x,fr[k]?=some x∧X.N[j]?=some x∧X.env.kindOf x=some .cell∧(relabel scope X.env).names.lookup x=some .cell
 | [],[],_,k,j,e=>by simp at e
 | x::fr,i::ix,h,0,j,e=>by
  have e':i=j:=by simpa using e
  subst e';exact ⟨x,rfl,h.1⟩
 | x::fr,i::ix,h,k+1,j,e=>by
  obtain ⟨y,hy,r⟩:=Aq.get h.2 k j (by simpa using e);exact ⟨y,by simpa using hy,r⟩
 | [],_::_,h,_,_,_=>h.elim
 | _::_,[],h,_,_,_=>h.elim
structure j0 (X:Cx) (scope:Scope) (own fr:List Str) (ix:List Nat) (cl:List (Str×Addr)):Prop where
 clos:closureFor scope X.env=pure cl
 kind:scope.kind=.function
 nocell:(scope.names.all λy=>decide (y.2≠.cell))=true
 names:(scope.names.all λy=>decide (y.2≠.local)||decide (scope.names.lookup y.1=some .local))=true
 sub:SubP X.env.cells cl
 has:((relabel scope X.env).names.all λy=>!(decide (y.2=.cell)||decide (y.2=.free))||(cl.lookup y.1).isSome)=true
 out':Aq X scope fr ix
section
variable {X:Cx} {scope:Scope} {own fr:List Str} {ix:List Nat} {cl:List (Str×Addr)}
theorem j0.len (C:j0 X scope own fr ix cl):fr.length=ix.length:=C.out'.len
theorem j0.out (C:j0 X scope own fr ix cl):∀(k j:Nat),ix[k]?=some j→∃x,fr[k]?=some x∧X.N[j]?=some x∧Vis X.env.scope x∧X.env.kindOf x≠some .local∧(relabel scope X.env).names.lookup x≠some .local:=λk j e=>by
 obtain ⟨x,h1,h2,h3,h4⟩:=C.out'.get k j e;exact ⟨x,h1,h2,.inr (.inl h3),(by rw[h3];intro z;cases z),(by rw[h4];intro z;cases z)⟩
theorem j0.Pw (C:j0 X scope own fr ix cl):∀x∈scope.names,x.2≠.cell:=λx hx=>of_decide_eq_true (List.all_eq_true.mp C.nocell x hx)
theorem j0.Lj (C:j0 X scope own fr ix cl):∀x∈scope.names,x.2=.local→scope.names.lookup x.1=some .local:=λx hx e=>by
 have h:=List.all_eq_true.mp C.names x hx;rw[aea] at h;rcases h with h | h
 ·exact absurd e (of_decide_eq_true h)
 ·exact of_decide_eq_true h
theorem j0.sub' (C:j0 X scope own fr ix cl):∀x c,cl.lookup x=some c→X.env.cells.lookup x=some c:=λx c h=>C.sub.of _ (lookup_mem h)
theorem j0.has' (C:j0 X scope own fr ix cl):∀x,((relabel scope X.env).names.lookup x=some .cell∨(relabel scope X.env).names.lookup x=some .free)→∃c,cl.lookup x=some c:=λx hx=>by
 have key:∀k,(relabel scope X.env).names.lookup x=some k→(k=.cell∨k=.free)→∃c,cl.lookup x=some c:=λk e hk=>by
  have h:=List.all_eq_true.mp C.has (x,k) (lookup_mem e);rw[aea] at h;rcases h with h | h
  ·rcases hk with rfl | rfl
   ·simp at h
   ·simp at h
  ·exact Option.isSome_iff_exists.mp h
 rcases hx with h | h
 ·exact key _ h (.inl rfl)
 ·exact key _ h (.inr rfl)
end
noncomputable def cxC (X:Cx) (scope:Scope) (cl:List (Str×Addr)) (ns:List Str) (fp:List Addr) (s:Shared) (H:Hp):Cx where
 prog:=X.prog
 w:=X.w
 K:=X.K
 mg:=X.mg
 base:=X.base
 A:=X.A
 N:=ns
 s₀:=s
 H₀:=H
 env:=compEnvC scope cl s.heap.objs.size X.env
 outer:=X.stack
 stack:=X.stack
 ex:=fp
 fn:=λ_=>false
 calm:=X.calm
 pn:=[]
 xe:=λ_ _=>False
section
variable {X:Cx} {scope:Scope} {own fr:List Str} {ix:List Nat} {cl:List (Str×Addr)} {pins:List (Addr×Obj)} {σ:St} {H:Hp} {s:Shared} {fp:List Addr}
theorem cxC_ok (C:j0 X scope own fr ix cl) (I:Inv X pins σ H s) (f:∀b∈fp,qr X pins H b) (lt:∀b∈fp,b < s.heap.objs.size):(cxC X scope cl (own++fr) fp s H).Ok where
 mod:=I.ok.mod
 kind:=C.kind
 glob:=I.ok.glob
 blt:=I.ok.blt
 above:=aa6 _
 inj:=λx y c h1 h2=>I.ok.inj x y c (C.sub' x c h1) (C.sub' y c h2)
 has:=λx hx=>C.has' x hx
 cab:=λx c h _=>Bool.noConfusion h
 hd:=I.ok.hd
 frames:=I.ok.frames
 stk:=.inl rfl
 exf:=λb hb=>⟨aaf (lt b hb),λx c e=>(f b hb).2.2.2.2.1 x c (C.sub' x c e)⟩
 bs:=λb o e=>I.bs b o e
 bsz:=aay I.ok.bsz I.sz
 noex:=λb o e hb=>by
  rcases (f b hb).2.2.2.1 with z | z
  ·exact I.ok.noex b o e z
  ·exact absurd (aam (Heap.lt_size e) (aay I.ok.bsz z)) (abj _)
 exfs:=λb hb z=>by
  rcases List.mem_cons.mp (I.Eg b z) with q | q
  ·exact (f b hb).2.1 q
  ·exact (f b hb).2.2.1 q
 se:=I.stack
 frf:=I.Fw
theorem Kj (C:j0 X scope own fr ix cl) (I:Inv X pins σ H s) (f:∀b∈fp,qr X pins H b) (lt:∀b∈fp,b < s.heap.objs.size) {h₁:Heap} {t:Nat} {m:Str→Option Value}
  (hns:h₁.Ns s.heap.objs.size m) (k:∀b o,s.heap.get? b=some o→h₁.get? b=some o):
  Inv (cxC X scope cl (own++fr) fp s H) [] (aap own.length none++xg ix σ) H { s with heap:=h₁,toks:=t } where
 ok:=cxC_ok C I f lt
 os:=rfl
 bare:=I.bare
 base:=Un.kept k
 loc:=⟨m,hns,λi x v e1 e2 e3=>by
  have e1:(own++fr)[i]?=some x:=e1;by_cases hi:i < own.length
  ·rw[aae (by simpa using hi),ae8] at e2;rw[if_pos hi] at e2;cases e2
  ·have hi':own.length≤i:=af5 hi;rw[aac (by simpa using hi')] at e2;rw[aac hi'] at e1;rw[abi] at e2;unfold xg at e2;rw[aa7] at e2;cases q:ix[i - own.length]? with
   | none=>rw[q] at e2;cases e2
   | some j=>
    rw[q] at e2;have e2':(σ[j]?).getD none=some v:=aa3 e2;obtain ⟨x',hx',hN,hv,hk,hl'⟩:=C.out _ j q;rw[e1] at hx';cases hx'
    have e4:σ[j]?=some (some v):=by
     cases z:σ[j]? with
     | none=>rw[z] at e2';cases e2'
     | some w=>rw[z] at e2';exact congrArg some e2'
    obtain ⟨mX,hnX,hl⟩:=I.loc;obtain ⟨u,r,l⟩:=hl j x v hN e4 hv;rcases l with ⟨kl,_⟩ | ⟨kk,c,ec,z⟩
    ·exact absurd kl hk
    ·have kY:(relabel scope X.env).names.lookup x=some .cell∨(relabel scope X.env).names.lookup x=some .free:=by
      rcases e3 with e3 | e3 | e3
      ·exact absurd e3 hl'
      ·exact .inl e3
      ·exact .inr e3
     obtain ⟨c',hc'⟩:=C.has' x kY;have hcc:=C.sub' x c' hc';rw[ec] at hcc;cases hcc
     obtain ⟨o,ho,hd⟩:=z;exact ⟨u,r,.inr ⟨kY,c,hc',⟨o,k c o ho,hd⟩⟩⟩⟩
 cell:=λx c e=>by
  obtain ⟨v,o,ho,hd⟩:=I.cell x c (C.sub' x c e);exact ⟨v,o,k c o ho,hd⟩
 free:=I.hok.fresh (aa6 _)
 freeC:=λx c e=>I.freeC x c (C.sub' x c e)
 pin:=λp hp=>by cases hp
 hok:=I.hok.kept k
 len:=by
  show (aap own.length none++xg ix σ).length=(own++fr).length
  rw[aa2,aa2,abi,C.len];unfold xg;rw[aa1]
theorem Lh (I:Inv X pins σ H s) (f:∀b∈fp,qr X pins H b) {ns:List Str} {τ:St} {H':Hp} {s':Shared} {pins':List (Addr×Obj)} (J:Inv (cxC X scope cl ns fp s H) pins' τ H' s'):Inv X pins σ H' s':=
 I.call' (ch:=fp) J.os J.base J.hok J.bare λb hb=>⟨(f b hb).2.2.2.1,(f b hb).2.1,(f b hb).2.2.2.2.1,(f b hb).2.2.2.2.2⟩
theorem Cy {σ':St} (I:Inv X pins σ H s) {H':Hp} {s':Shared} {h':Heap} (J:Inv X pins σ' H' s') (free:H' s.heap.objs.size=none) (sb:Heap.SameBut s.heap.objs.size s'.heap h'):Inv X pins σ' H' { s' with heap:=h' }:=
 J.turned (it:=s.heap.objs.size) (t':=s'.toks) (λb o hb e=>(sb.2 b hb).trans e) free (abq I.lt) (.inr I.sz)
  (λx c e z=>by
   obtain ⟨v,q⟩:=I.cell x c e;exact absurd (z ▸ q.lt) (abj _))
  (λp hp z=>absurd (z ▸ Heap.lt_size (I.pin p hp).1) (abj _))
end
section
variable {prog:Program} {w:World} {A:Around} {R:Result→Shared→Prop} {s:Shared}
theorem Ao {elt target iter:Expr} {ifs:List Expr} {scope:Scope} {pos:Pos} {it acc:Value} {env:Env} (I:Nat→Shared→Prop)
  (turn:∀n s,I n s→wpAny (model prog w) A (pyNext it) (λr s₁=>match r with
   | none=>R (.ok .next) s₁
   | some v=>wpAny (model prog w) A (letOwnedTupleGo target it v) (λ_ s₁'=>wpAny (model prog w) A (assign target env v) (λ_ s₂=>
     wpAny (model prog w) A (forIn ifs true λc r=>if r=true then do let ok ←isTrue c env (eval c env);pure (ForInStep.yield ok) else pure (ForInStep.yield r)) (λok s₃=>
      if ok=true then wpAny (model prog w) A (eval elt env) (λx s₄=>
       wpAny (model prog w) A (call (.builtin "list.append") [acc,x]) (λ_ s₅=>∃m,m < n∧I m s₅) (notedBy (model prog w) A env λe s'=>R (.error e) s') s₄) (notedBy (model prog w) A env λe s'=>R (.error e) s') s₃
      else ∃m,m < n∧I m s₃) (notedBy (model prog w) A env λe s'=>R (.error e) s') s₂) (notedBy (model prog w) A env λe s'=>R (.error e) s') s₁') (notedBy (model prog w) A env λe s'=>R (.error e) s') s₁)
    (notedBy (model prog w) A env λe s'=>R (.error e) s') s)
  (n:Nat) (h:I n s):
  codeAny (model prog w) A (.compLoop (.ListComp elt [⟨target,iter,ifs,0⟩] scope pos) 0 it acc env) R s:=by
 refine codeAny_loop rfl I (λn s hI=>?_) n h;show wpAny _ A ((compTurn (.ListComp elt [⟨target,iter,ifs,0⟩] scope pos) 0 it acc env).onRaise (λx=>do noteFrame x env;theTreesLotGoes x)) _ _ s
 refine wpAny_noted ?_;rw[compTurn_list];refine wpAny_bind (wpAny_standAt (wpAny_bind (wpAny_mono (turn n s hI) (λr s₁ h₁=>?_) λ_ _ h'=>h')));cases r with
 | none=>exact wpAny_pure h₁
 | some v=>
  refine wpAny_bind (wpAny_mono h₁ (λ_ s₁' h₁'=>?_) λ_ _ h'=>h');refine wpAny_bind (wpAny_mono h₁' (λ_ s₂ h₂=>wpAny_bind (wpAny_mono h₂ (λok s₃ h₃=>?_) λ_ _ h'=>h')) λ_ _ h'=>h');cases ok with
  | false=>exact wpAny_pure ⟨rfl,h₃⟩
  | true=>
   exact wpAny_bind (wpAny_bind (wpAny_mono h₃ (λx s₄ h₄=>wpAny_bind (wpAny_mono h₄ (λ_ s₅ h₅=>wpAny_pure (wpAny_pure ⟨rfl,h₅⟩)) λ_ _ h'=>h')) λ_ _ h'=>h'))
end
def PIfs (X:Cx) (ifs:List Expr) (t:TT):Prop:=
 ∀(pins:List (Addr×Obj)) (s:Shared) (σ:St) (H:Hp) (Q:Bool→Hp→Prop),Inv X pins σ H s→t σ H Q→
  wpAny (model X.prog X.w) X.A (forIn ifs true λc r=>if r=true then do let ok ←isTrue c X.env (eval c X.env);pure (ForInStep.yield ok) else pure (ForInStep.yield r)) (TP X pins σ Q) X.xe s
def tNoIf:TT:=λ_ H Q=>Q true H
theorem pif0 {X:Cx}:PIfs X [] tNoIf:=λpins s σ H Q I h=>wpAny_tests_nil ⟨H,I,h⟩
theorem pif1 {X:Cx} {c:Expr} {t:TT} (h:PT X c t):PIfs X [c] t:=λpins s σ H Q I q=>wpAny_tests_one (h pins s σ H Q I q)
def LC (n:Nat) (fr:St) (g:TG) (tc:TT) (te:TE) (J:It) (D:Addr) (H1:Hp) (Q:Hp→Prop):Prop:=
 ∃W:Nat→Nat→Hp→Prop,(∃m,W 0 m (upd H1 D (.lst [])))∧∀i m H,W i m H→
  (J.stop i H∧Q H)∨(J.go i H∧∀(τ:St) x H',τ.length=n→J.yld i H x H'→g x (τ++fr) H' λσ2 H2=>(∃τ':St,τ'.length=n∧σ2=τ'++fr)∧tc σ2 H2 λb H3=>
   if b=true then te σ2 H3 λy H4=>∃ys,H4 D=some (.lst ys)∧ys.length < sizeLine∧∃m',m' < m∧W (i+1) m' (upd H4 D (.lst (ys++[y]))) else ∃m',m' < m∧W (i+1) m' H3)
def tLC (n:Nat) (ix:List Nat) (wi:TI) (g:TG) (tc:TT) (te:TE):TE:=λσ H Q=>wi σ H λJ H1=>∀D,H1 D=none→LC n (xg ix σ) g tc te J D H1 λH'=>Q (.ref D) H'
section
variable {X:Cx} {scope:Scope} {own fr:List Str} {ix:List Nat} {cl:List (Str×Addr)} {elt iter tg:Expr} {ifs:List Expr} {pos:Pos} {wi:TI} {g:TG} {tc:TT} {te:TE}
theorem wa {E:Value→Shared→Prop} {RR:Value→Addr→Result→Shared→Prop} (C:j0 X scope own fr ix cl) (hc:X.calm=true)
  (hg:∀fp s H,PG (cxC X scope cl (own++fr) fp s H) tg g) (ht:∀fp s H,PIfs (cxC X scope cl (own++fr) fp s H) ifs tc) (he:∀fp s H,PE (cxC X scope cl (own++fr) fp s H) elt te)
  {pins:List (Addr×Obj)} {σ:St} {H2:Hp} {s2:Shared} {it:Addr} {fp:List Addr} {tn:Nat→Heap→Prop} {J:It} {Q:Hp→Prop} (I2:Inv X pins σ H2 s2) (T:Turn X.prog X.w X.K tg J fp it tn) (st2:tn 0 s2.heap) (f2:∀b∈fp,qr X pins H2 b)
  (q:LC own.length (xg ix σ) g tc te J s2.heap.objs.size H2 Q)
  (hRR:∀(s3 s':Shared) (H3 H':Hp) (τ:St),Inv X pins σ H3 s3→Inv X pins σ H' s'→H' s3.heap.objs.size=none→(∃m,s'.heap.Ns s3.heap.objs.size m)→Q H'→RR (.ref s2.heap.objs.size) s3.heap.objs.size (.ok .next) s'):
  wpAny (model X.prog X.w) X.A (newList []) (λacc s₃=>wpAny (model X.prog X.w) X.A (newFunctionEnv scope X.env.globals cl [] X.env.qual none .none (some X.env)) (λcenv s₄=>
   codeAny (model X.prog X.w) X.A (.compStart (.ListComp elt [⟨tg,iter,ifs,0⟩] scope pos) 0 (.ref it) acc { cenv with scope:=relabel scope X.env }) (RR acc cenv.locals) s₄) E s₃) E s2:=by
 refine wpAny_newObj_type ?_;have I3:Inv X pins σ (upd H2 s2.heap.objs.size (.lst [])) { s2 with heap:=s2.heap.push { cls:=.type "list",dict:=none,data:=.seq ([]:List Value).toArray } }:=I2.lnew (t':=s2.toks) (its:=[]) .nil (aa8 _);have lt2:∀b∈fp,b < s2.heap.objs.size:=λb hb=>by
  obtain ⟨o,e,_⟩:=T.obj 0 _ st2 b hb;exact Heap.lt_size e
 have fneD:∀b∈fp,b≠s2.heap.objs.size:=λb hb=>aaf (lt2 b hb);generalize hs3:({ s2 with heap:=s2.heap.push { cls:=.type "list",dict:=none,data:=.seq ([]:List Value).toArray } }:Shared)=s3 at I3 ⊢;have hsz:s3.heap.objs.size=s2.heap.objs.size+1:=by rw[←hs3];exact Heap.size_push ..
 have kp23:∀b o,s2.heap.get? b=some o→s3.heap.get? b=some o:=λb o e=>by rw[←hs3];exact Heap.get?_push_of_some _ e
 have f3:∀b∈fp,qr X pins (upd H2 s2.heap.objs.size (.lst [])) b:=λb hb=>by
  obtain ⟨f0,fr⟩:=f2 b hb;exact ⟨by rw[af (fneD b hb)];exact f0,fr⟩
 have lt3:∀b∈fp,b < s3.heap.objs.size:=λb hb=>by rw[hsz];exact ady (lt2 b hb)
 refine wpAny_newFunctionEnv C.Pw (by intro y hy;simp at hy) (λh₁ hns₁ hsb₁=>?_) C.kind;have k34:∀b o,s3.heap.get? b=some o→h₁.get? b=some o:=λb o e=>
  (hsb₁.2 b (aaf (Heap.lt_size e))).trans (Heap.get?_push_of_some _ e)
 have I4:=Kj C I3 f3 lt3 (t:=s3.toks+([]:List (Str×Value)).length) hns₁ k34;have st4:tn 0 h₁:=T.keep 0 _ _ st2 λb _ o e=>k34 b o (kp23 b o e);obtain ⟨W,⟨m0,w0⟩,turn⟩:=q;have loop:∀s4:Shared,s4={ s3 with heap:=h₁,toks:=s3.toks+([]:List (Str×Value)).length }→
   codeAny (model X.prog X.w) X.A (.compLoop (.ListComp elt [⟨tg,iter,ifs,0⟩] scope pos) 0 (.ref it) (.ref s2.heap.objs.size) (compEnvC scope cl s3.heap.objs.size X.env)) (RR (.ref s2.heap.objs.size) s3.heap.objs.size) s4:=by
  rintro s4 rfl;have stat:∀{H':Hp},(∀b∈fp,H' b=none)→∀b∈fp,qr (cxC X scope cl (own++fr) fp s3 (upd H2 s2.heap.objs.size (.lst []))) [] H' b:=λ{H'} hn b hb=>
   ⟨hn b hb,aaf (lt3 b hb),I4.ok.exfs b hb,.inl hb,(I4.ok.exf b hb).2,λp hp=>by cases hp⟩
  refine Ao (λn s'=>∃i τ H',τ.length=own.length∧Inv (cxC X scope cl (own++fr) fp s3 (upd H2 s2.heap.objs.size (.lst []))) [] (τ++xg ix σ) H' s'∧tn i s'.heap∧(∀b∈fp,H' b=none)∧W i n H') ?_ m0
   ⟨0,aap own.length none,_,abi,I4,st4,λb hb=>(f3 b hb).1,w0⟩
  rintro n s5 ⟨i,τ,H5,hτ,I5,st5,fr5,w5⟩;rcases turn i n H5 w5 with ⟨stop,qn⟩ | ⟨go,step⟩
  ·refine wpAny_mono (T.done (cxC X scope cl (own++fr) fp s3 (upd H2 s2.heap.objs.size (.lst []))) rfl rfl rfl hc i [] s5 _ H5 (λ_ _=>False) I5 (stat fr5) st5 stop) (λr s6 ⟨hr,I6⟩=>?_) λ_ _ z=>z.elim;subst hr;obtain ⟨mm,hmm,_⟩:=I6.loc;exact hRR s3 s6 _ H5 τ I3 (Lh I3 f3 I6) I6.free ⟨mm,hmm⟩ qn
  ·refine wpAny_mono (T.item (cxC X scope cl (own++fr) fp s3 (upd H2 s2.heap.objs.size (.lst []))) rfl rfl rfl hc i [] s5 _ H5 (λ_ _=>False) I5 (stat fr5) st5 go) (λr s6 ⟨u,hr,h6⟩=>?_) λ_ _ z=>z.elim;subst hr;refine wpAny_mono h6 (λ_ s7 ⟨x,H7,I7,r7,y7,st7,fr7⟩=>?_) λ_ _ z=>z.elim;have I7':=I7.pinned (stat fr7) (T.obj _ _ st7);refine wpAny_mono (hg fp s3 _ _ s7 _ H7 x u _ I7' r7 (step τ x H7 hτ y7)) (λ_ s8 ⟨σ8,H8,I8,⟨τ',hτ',e8⟩,q8⟩=>?_) λ_ _ z=>z.elim;have fin:∀{H9:Hp} {s9:Shared},Inv (cxC X scope cl (own++fr) fp s3 (upd H2 s2.heap.objs.size (.lst []))) ([]++xb fp s7.heap) σ8 H9 s9→(∃m',m' < n∧W (i+1) m' H9)→
     ∃m,m < n∧∃i τ H',τ.length=own.length∧Inv (cxC X scope cl (own++fr) fp s3 (upd H2 s2.heap.objs.size (.lst []))) [] (τ++xg ix σ) H' s9∧tn i s9.heap∧(∀b∈fp,H' b=none)∧W i m H':=λ{H9 s9} I9 hw=>by
    obtain ⟨m',hm,w9⟩:=hw;refine ⟨m',hm,i+1,τ',H9,hτ',e8 ▸ I9.ph,T.keep _ _ _ st7 λb hb o e=>(I9.pin (b,o) (ab8 _ (ab8 _ (jr hb e)))).1,λb hb=>?_,w9⟩;obtain ⟨o,e,d⟩:=T.obj _ _ st7 b hb;exact (I9.pin (b,o) (ab8 _ (ab8 _ (jr hb e)))).2.1
   refine wpAny_mono (ht fp s3 _ _ s8 σ8 H8 _ I8 q8) (λok s9 ⟨H9,I9,q9⟩=>?_) λ_ _ z=>z.elim;cases ok with
   | false=>exact fin I9 q9
   | true=>
    refine wpAny_mono (he fp s3 _ _ s9 σ8 H9 _ I9 q9) (λy s10 ⟨v10,H10,I10,r10,ys,hD,hz,q10⟩=>?_) λ_ _ z=>z.elim;refine wpAny_mono (x8 (X:=cxC X scope cl (own++fr) fp s3 (upd H2 s2.heap.objs.size (.lst []))) _ s10 σ8 H10 (.ref s2.heap.objs.size) [v10] _ [y] (λ_ H'=>∃m',m' < n∧W (i+1) m' H') I10 rfl (.cons r10 .nil) ⟨_,ys,v10,rfl,rfl,hD,hz,q10⟩) (λ_ s11 ⟨_,H11,I11,_,q11⟩=>?_) λ_ _ z=>z.elim;exact fin I11 q11
 exact codeAny_compStart_list (loop _ rfl) (T.self _ 0 _ _ _ st4 (loop _ rfl))
theorem pe_lc (C:j0 X scope own fr ix cl) (hc:X.calm=true) (hi:PI X tg iter wi) (hg:∀fp s H,PG (cxC X scope cl (own++fr) fp s H) tg g)
  (ht:∀fp s H,PIfs (cxC X scope cl (own++fr) fp s H) ifs tc) (he:∀fp s H,PE (cxC X scope cl (own++fr) fp s H) elt te)
  (hs:∀x,foldedSetIterable iter X.env x=pure x:=by intro _;rfl):PE X (.ListComp elt [⟨tg,iter,ifs,0⟩] scope pos) (tLC own.length ix wi g tc te):=by
 intro pins s σ H Q I h;rw[eval_ListComp];refine wpAny_comprehension_free (use:=none) rfl hs C.clos C.kind C.Lj (thn (hi pins s σ H _ I h) λv s1 h1=>thn h1 λitv s2 h2=>?_);obtain ⟨it,fp,tn,J,H2,e,I2,T,st2,f2,q⟩:=h2;subst e;refine wa (RR:=λacc D=>compPost (model X.prog X.w) X.A X.xe none (EP X pins σ Q) acc D) C hc hg ht he I2 T st2 f2 (q _ (I2.hok.fresh (aa6 _))) λs3 s' H3 H' τ I3 I' hn hm q'=>?_;obtain ⟨m,hm⟩:=hm;exact ⟨m,hm,λh' sb=>⟨.ref s2.heap.objs.size,H',Cy I3 I' hn sb,rfl,q'⟩⟩
def Ki (i n:Nat) (ix:List Nat) (wi:TI) (g:TG) (tc:TT) (te:TE):TS:=λD σ H=>wi σ H λJ H1=>∀l,H1 l=none→LC n (xg ix σ) g tc te J l H1 λH'=>D.nx (σ.set i (some (.ref l))) H'
theorem Ar {i:Nat} {x:Str} {px spos:Pos} (hN:X.N.Nodup) (hx:X.N[i]?=some x) (hl:Loc X.env.scope x) (C:j0 X scope own fr ix cl) (hc:X.calm=true) (hi:PI X tg iter wi)
  (hg:∀fp s H,PG (cxC X scope cl (own++fr) fp s H) tg g) (ht:∀fp s H,PIfs (cxC X scope cl (own++fr) fp s H) ifs tc) (he:∀fp s H,PE (cxC X scope cl (own++fr) fp s H) elt te)
  (hsw:swapsWith (.ListComp elt [⟨tg,iter,ifs,0⟩] scope pos) (some (.Name x px)) spos.line X.env=pure true:=by rfl)
  (hs:∀x,foldedSetIterable iter X.env x=pure x:=by intro _;rfl) (hf:X.fn x=true∨X.env.scope.names.lookup x=some .local:=by first | exact .inl rfl | exact .inr rfl | assumption):
  PS X (.Assign [.Name x px] (.ListComp elt [⟨tg,iter,ifs,0⟩] scope pos) spos) (Ki i own.length ix wi g tc te):=by
 intro pins s σ H D I h;rw[exec_Assign_Name_used _ _ _ _ hsw];refine wpAny_bind (wpAny_standAt (wpAny_bind ?_));show wpAny _ X.A (do let _ ←comprehension (.ListComp elt [⟨tg,iter,ifs,0⟩] scope pos) scope X.env _ (newList []) false (eval iter X.env) (some (assign (.Name x px) X.env))) _ _ s
 refine wpAny_bind (wpAny_mono (wpAny_comprehension_free (use:=some (assign (.Name x px) X.env)) (Q:=λ_ s'=>SP X pins D .next s') rfl hs C.clos C.kind C.Lj
  (thn (hi pins s σ H _ I h) λv s1 h1=>thn h1 λitv s2 h2=>?_)) (λ_ s' hq=>wpAny_pure (wpAny_pure hq)) λ_ _ e=>e)
 obtain ⟨it,fp,tn,J,H2,e,I2,T,st2,f2,q⟩:=h2;subst e;refine wa (RR:=λacc C=>compPost (model X.prog X.w) X.A X.xe (some (assign (.Name x px) X.env)) (λ_ s'=>SP X pins D .next s') acc C) C hc hg ht he I2 T st2 f2 (q _ (I2.hok.fresh (aa6 _))) λs3 s' H3 H' τ I3 I' hn hm q'=>?_;obtain ⟨m,hm⟩:=hm;show wpAny _ X.A (assign (.Name x px) X.env (.ref s2.heap.objs.size)) _ _ _
 refine wpAny_assign_Name (yj I' hN hx hl (v:=.ref s2.heap.objs.size) rfl (λs'' I'' hsb=>?_) hf);obtain ⟨a,sba,ha⟩:=hsb;have hne:s3.heap.objs.size≠a:=by
  rcases ha with rfl | ha
  ·exact abq I3.lt
  ·obtain ⟨v,qv⟩:=I3.cell x a ha;exact abq qv.lt
 exact ⟨m,hm.sameBut sba hne,λh' sb=>⟨_,H',Cy I3 I'' hn sb,q'⟩⟩
end
end L2
namespace L2
open PySem PySem.Spec PyProof.Rows
noncomputable def Its (z:Str):It:=⟨λi _=>i < z.cps.size,λi H x H'=>H'=H∧∃c,z.cps[i]?=some c∧x=.str ⟨#[c]⟩,λi _=>i=z.cps.size⟩
def iStr (tl:TE):TI:=λσ H R=>tl σ H λx H1=>∃z,x=.str z∧R (Its z) H1
section
variable {X:Cx} {tg:Expr}
end
section
variable {X:Cx}
end
noncomputable def cutS (z:Str) (lo hi:Option Int):Str:=⟨((z.cps.toList.drop (HT.sIx z.length 0 lo)).take (HT.sIx z.length z.length hi - HT.sIx z.length 0 lo)).toArray⟩
section
variable {X:Cx}
def rSlS:V→Option Int→Option Int→Hp→VK→Prop:=λx lo hi H Q=>∃z,x=.str z∧z.length≤sizeLine∧Q (.str (cutS z lo hi)) H
noncomputable def n6 (z:Str) (n:Nat):Str:=⟨(aap n z.cps.toList).flatten.toArray⟩
theorem yl (x:List Nat):∀(n:Nat) (acc:Array Nat),(aap n x.toArray).foldl (·++·) acc=acc++(aap n x).flatten.toArray
 | 0,acc=>by simp
 | n+1,acc=>by
  rw[abb,afe,yl x n,abb,ac9];apply Array.toList_inj.mp
  simp
theorem Ql (z:Str) (n:Int) (h:0≤n):Txt.mul z n=n6 z n.toNat:=by
 unfold Txt.mul n6;by_cases h1:n < 1
 ·rw[if_pos h1];have e:n.toNat=0:=by omega
  rw[e];rfl
 ·rw[if_neg h1];by_cases h2:(n==1||z.length==0)=true
  ·rw[if_pos h2];rw[aea] at h2;rcases h2 with h2 | h2
   ·have e:n=1:=eq_of_beq h2;subst e;show z=⟨(aap 1 z.cps.toList).flatten.toArray⟩
    simp
   ·have e:z.length=0:=eq_of_beq h2;have e0:z.cps=#[]:=Array.eq_empty_of_size_eq_zero e;cases z with
    | mk c=>cases e0;simp
  ·rw[if_neg h2];have e:=yl z.cps.toList n.toNat #[];have e3:z.cps.toList.toArray=z.cps:=by simp
   rw[e3] at e;rw[e];simp
theorem mj:OpR X (binaryOp .Mult) (λx y H Q=>∃z n,x=.str z∧y=.int n∧0≤n∧n≤1000∧z.length≤1000∧Q (.str (n6 z n.toNat)) H):=by
 intro pins s σ H x y v u Q I rx ry h;obtain ⟨z,n,rfl,rfl,h0,h1,h2,q⟩:=h;obtain ⟨t,rfl⟩:=rx;obtain ⟨t',rfl⟩:=ry;have hb:z.length*n.toNat≤1000*1000:=Nat.mul_le_mul h2 (by omega);refine SB.mul ⟨by rw[Bool.or_eq_false_iff];exact ⟨decide_eq_false (by omega),decide_eq_false (by omega)⟩,λhn1 _=>?_,λ_ _=>?_⟩ λt' k=>⟨.str _,H,I.tok _,⟨_,rfl⟩,by rw[Ql z n h0];exact q⟩
 ·have hp:0 < n:=by omega
  have h3:(z.length:Int)*n≤1000*n:=Int.mul_le_mul_of_nonneg_right (by omega) h0;have h4:(z.length:Int)≤(2 ^ 63 - 1) / n:=Int.le_ediv_of_mul_le hp (by omega);omega
 ·unfold Builtin.Str.tooLong;exact decide_eq_false (by have:=sizeLine_eq;omega)
theorem Cw:gw X (.builtin "isinstance") (λxs H Q=>∃x n t b,xs=[x,.ty n]∧ql X.K H x t∧PySem.W.kitOne X.K t (.type n)=some b∧Q (.bl b) H):=by
 intro pins s σ H xs us Q I r h;obtain ⟨x,n,t,b,rfl,ty,e,q⟩:=h;obtain ⟨u,u2,rfl,r1,r2⟩:=vals2 r;cases (show u2=Value.type n from r2)
 exact Hg I r1 ty e λtk=>⟨.bl b,H,I.tok tk,rfl,q⟩
end
end L2
namespace L2
open PySem PySem.Spec PyProof.Rows
theorem aa {H:Hp} {p:Addr} (h:H p=none) (o:HO):ak H (upd H p o):=λb u q=>by rw[af (ag q h)];exact q
theorem ak.upd {H H':Hp} {p:Addr} (e:ak H H') (h:H p=none) (o:HO):ak H (L2.upd H' p o):=λb u q=>by rw[af (ag q h)];exact e b u q
theorem ak.tup {K:PySem.W.Frag} {H H':Hp} {a:Addr} {xs:List V} (e:ak H H') (h:SqT K H a xs):SqT K H' a xs:=by
 rcases h with (h | ⟨o,h⟩) | h
 ·exact .inl (.inl (e _ _ h))
 ·exact .inl (.inr ⟨o,e _ _ h⟩)
 ·exact .inr h
def Has (P:Program) (w:World) (K:PySem.W.Frag) (mg:Str→Option Value) (base:Heap) (k:Nat) (x:Str) (ps:List Str) (sp:Sp):Prop:=
 ∃(f:Addr) (fd:FuncData),qc P w K mg base CX0 k f fd ps sp∧Binds K fd ps []∧PySem.W.keepIn K (.ref f)=true∧mg x=some (.ref f)
theorem Has.up {P:Program} {w:World} {K:PySem.W.Frag} {mg:Str→Option Value} {base:Heap} {j k:Nat} {x:Str} {ps:List Str} {sp:Sp} (h:Has P w K mg base j x ps sp) (l:j≤k):Has P w K mg base k x ps sp:=by
 obtain ⟨f,fd,F,r⟩:=h;exact ⟨f,fd,F.mono l,r⟩
def Def (K:PySem.W.Frag) (mg:Str→Option Value) (x:Str) (st:Stmt) (ps:List Str):Prop:=
 ∃(f:Addr) (fd:FuncData),Fun K x x st f fd∧Binds K fd ps []∧mg x=some (.ref f)
theorem Def.has {P:Program} {w:World} {K:PySem.W.Frag} {mg:Str→Option Value} {base:Heap} {k:Nat} {x:Str} {st:Stmt} {N ps:List Str} {sp:Sp} (D:Def K mg x st ps) (S:az N ps (ah st)) (len:∀vs H Q E,sp vs H Q E→vs.length=ps.length)
  (hbody:∀(f:Addr) (cdv:Value) (A:Around) (outer:List Env) (s:Shared) (H:Hp) (vs:List V) (Q:VK) (E:XK),iy k (A.deeper (envOfC x (ah st) s.heap.objs.size f cdv))→sp vs H Q E→
   ∃t,PSs (sd CX0 P w K mg base N x (ah st) f cdv A outer s H E).nox (aw st) t∧t { nx:=λ_ H'=>Q .non H',rt:=Q } (start N vs) H):Has P w K mg base (k+1) x ps sp:=by
 obtain ⟨f,fd,F,b,m⟩:=D;exact ⟨f,fd,F.ok S len λcdv A outer s H vs Q E hr h=>hbody f cdv A outer s H vs Q E hr h,b,F.kp,m⟩
section
variable {X:Cx} {k:Nat} {ps:List Str} {sp:Sp} {x:Str} {p pos:Pos} {e:Expr} {es:List Expr} {t:TA}
theorem pe_has (h:Has X.prog X.w X.K X.mg X.base k x ps sp) (hr:iy k X.A) (ha:PA X (e::es) t) (hg:Gl X x:=by rfl) (hdb:(x==("__debug__":Str))=false:=by decide+kernel)
  (he:starEach (e::es) X.env=(false,eval e X.env)::starEach es X.env:=by rfl) (hpl:(backTo pos (starEach es X.env)).any (·.1)=false:=by rfl):
  PE X (.Call (.Name x p) (e::es) [] pos) (M4 sp [] E0 t):=by
 obtain ⟨f,fd,F,b,kp,m⟩:=h;exact Ox F hr hg m kp b .nil pass0 ha hdb he hpl
end
theorem De {J:It} {fr:St} {tc:TT} {te:TE} {D:Addr} {H1:Hp} {Q:Hp→Prop} (n:Nat) (item:Nat→V) (P:Nat→List V→Prop) (hn:n < sizeLine) (hD:H1 D=none)
  (hgo:∀i H,i < n→ak H1 H→J.go i H) (hyld:∀i H x H',i < n→ak H1 H→J.yld i H x H'→H'=H∧x=item i) (hstop:∀H,ak H1 H→J.stop n H)
  (h0:P 0 [])
  (step:∀i ys H (G:Hp→Prop) (K':V→Hp→Prop),i < n→P i ys→ys.length≤i→ak H1 H→(∀H3,ak H H3→P (i+1) ys→G H3)→(∀y H4,ak H H4→P (i+1) (ys++[y])→K' y H4)→tc ([some (item i)]++fr) H λb H3=>if b=true then te ([some (item i)]++fr) H3 K' else G H3)
  (done:∀ys H,P n ys→ys.length≤n→ak H1 H→H D=some (.lst ys)→Q H):LC 1 fr (cj 0) tc te J D H1 Q:=by
 refine ⟨λi m H=>m=n - i∧i≤n∧∃ys,H D=some (.lst ys)∧P i ys∧ys.length≤i∧ak H1 H,⟨n,by simp,aa8 _,[],ae,h0,aa6 _,aa hD _⟩,?_⟩;rintro i m H ⟨rfl,hi,ys,hys,hP,hl,hS⟩;by_cases hlt:i < n
 ·refine .inr ⟨hgo i H hlt hS,λτ x H' hτ hy=>?_⟩;obtain ⟨e1,e2⟩:=hyld i H x H' hlt hS hy;subst e1 e2;obtain ⟨a,rfl⟩:∃a,τ=[a]:=List.length_eq_one_iff.mp hτ;refine ⟨⟨[some (item i)],rfl,rfl⟩,step i ys H' (λH3=>∃m',m' < n - i∧m'=n - (i+1)∧i+1≤n∧∃ys,H3 D=some (.lst ys)∧P (i+1) ys∧ys.length≤i+1∧ak H1 H3)
   (λy H4=>∃zs,H4 D=some (.lst zs)∧zs.length < sizeLine∧∃m',m' < n - i∧m'=n - (i+1)∧i+1≤n∧∃ys,upd H4 D (.lst (zs++[y])) D=some (.lst ys)∧P (i+1) ys∧ys.length≤i+1∧ak H1 (upd H4 D (.lst (zs++[y])))) hlt hP hl hS (λH3 q1 q2=>?_) (λy H4 q1 q2=>?_)⟩
  ·exact ⟨n - (i+1),by omega,rfl,hlt,ys,q1 _ _ hys,q2,acu hl,hS.trans q1⟩
  ·refine ⟨ys,q1 _ _ hys,by omega,n - (i+1),by omega,rfl,hlt,ys++[y],ae,q2,?_,(hS.trans q1).upd hD _⟩;rw[aa2,aa9];omega
 ·have e:i=n:=by omega
  subst e;exact .inl ⟨hstop H hS,done ys H hP hl hS hys⟩
theorem Qo {K:PySem.W.Frag} {a:Addr} {xs:List V} {fr:St} {tc:TT} {te:TE} {D:Addr} {H1:Hp} {Q:Hp→Prop} (P:Nat→List V→Prop) (hS:SqL K H1 a xs) (hn:xs.length < sizeLine) (hD:H1 D=none) (h0:P 0 [])
  (step:∀i x ys H (G:Hp→Prop) (K':V→Hp→Prop),xs[i]?=some x→P i ys→ys.length≤i→ak H1 H→(∀H3,ak H H3→P (i+1) ys→G H3)→(∀y H4,ak H H4→P (i+1) (ys++[y])→K' y H4)→tc ([some x]++fr) H λb H3=>if b=true then te ([some x]++fr) H3 K' else G H3)
  (done:∀ys H,P xs.length ys→ys.length≤xs.length→ak H1 H→H D=some (.lst ys)→Q H):LC 1 fr (cj 0) tc te (Itl K a) D H1 Q:=by
 have at':∀i,i < xs.length→xs[i]?=some (xs.getD i .non):=λi hi=>by
  rw[aa4,aa0 hi];rfl
 exact De xs.length (λi=>xs.getD i .non) P hn hD (λi H hi hs=>⟨xs,_,hs.seq hS,at' i hi⟩)
  (λi H x H' hi hs hy=>⟨hy.1,aa3 ((hy.2 xs (hs.seq hS)).symm.trans (at' i hi))⟩) (λH hs=>⟨xs,hs.seq hS,aa6 _⟩) h0
  (λi ys H G K' hi hp hl hs hG hK=>step i _ ys H G K' (at' i hi) hp hl hs hG hK) done
theorem Dd {K:PySem.W.Frag} {a:Addr} {xs:List V} {fr:St} {tc:TT} {te:TE} {D:Addr} {H1:Hp} {Q:Hp→Prop} (P:Nat→List V→Prop) (hS:SqT K H1 a xs) (hn:xs.length < sizeLine) (hD:H1 D=none) (h0:P 0 [])
  (step:∀i x ys H (G:Hp→Prop) (K':V→Hp→Prop),xs[i]?=some x→P i ys→ys.length≤i→ak H1 H→(∀H3,ak H H3→P (i+1) ys→G H3)→(∀y H4,ak H H4→P (i+1) (ys++[y])→K' y H4)→tc ([some x]++fr) H λb H3=>if b=true then te ([some x]++fr) H3 K' else G H3)
  (done:∀ys H,P xs.length ys→ys.length≤xs.length→ak H1 H→H D=some (.lst ys)→Q H):LC 1 fr (cj 0) tc te (Itt K a) D H1 Q:=by
 have at':∀i,i < xs.length→xs[i]?=some (xs.getD i .non):=λi hi=>by
  rw[aa4,aa0 hi];rfl
 exact De xs.length (λi=>xs.getD i .non) P hn hD (λi H hi hs=>⟨xs,_,hs.tup hS,at' i hi⟩)
  (λi H x H' hi hs hy=>⟨hy.1,aa3 ((hy.2 xs (hs.tup hS)).symm.trans (at' i hi))⟩) (λH hs=>⟨xs,hs.tup hS,aa6 _⟩) h0
  (λi ys H G K' hi hp hl hs hG hK=>step i _ ys H G K' (at' i hi) hp hl hs hG hK) done
theorem Jm {lo:Int} {n:Nat} {fr:St} {tc:TT} {te:TE} {D:Addr} {H1:Hp} {Q:Hp→Prop} (P:Nat→List V→Prop) (hn:n < sizeLine) (hD:H1 D=none) (h0:P 0 [])
  (step:∀(i:Nat) ys H (G:Hp→Prop) (K':V→Hp→Prop),i < n→P i ys→ys.length≤i→ak H1 H→(∀H3,ak H H3→P (i+1) ys→G H3)→(∀y H4,ak H H4→P (i+1) (ys++[y])→K' y H4)→tc ([some (.int (lo+i))]++fr) H λb H3=>if b=true then te ([some (.int (lo+i))]++fr) H3 K' else G H3)
  (done:∀ys H,P n ys→ys.length≤n→ak H1 H→H D=some (.lst ys)→Q H):LC 1 fr (cj 0) tc te (Itr lo n) D H1 Q:=
 De n (λi=>.int (lo+i)) P hn hD (λi H hi _=>hi) (λi H x H' hi hs hy=>hy) (λH hs=>aa6 _) h0 step done
end L2
namespace L2
open PySem PySem.Spec PyProof.Rows
section
variable {X:Cx} {x:Str} {pos:Pos}
theorem Qa {a:Addr} (hm:X.mg x=some (.ref a)) (hg:Gl X x:=by rfl) (hd:(x==("__debug__":Str))=false:=by decide+kernel):PE X (.Name x pos) (tC (.ref a)):=Nt hg hm rfl hd
theorem pe_gty {T:String} (hm:X.mg x=none) (hv:bootBuiltins x=some (.type T)) (hg:Gl X x:=by rfl) (hn:x≠"__name__":=by decide+kernel) (hd:(x==("__debug__":Str))=false:=by decide+kernel):PE X (.Name x pos) (tC (.ty T)):=Pb hg hm hv rfl hn hd
end
theorem cw:bootBuiltins "len"=some (.builtin "len"):=by decide+kernel
theorem dr:bootBuiltins "isinstance"=some (.builtin "isinstance"):=by decide+kernel
theorem b_bool:bootBuiltins "bool"=some (.type "bool"):=by decide+kernel
theorem um:bootBuiltins "int"=some (.type "int"):=by decide+kernel
theorem Gd:bootBuiltins "str"=some (.type "str"):=by decide+kernel
theorem Dt:bootBuiltins "list"=some (.type "list"):=by decide+kernel
theorem fc:bootBuiltins "tuple"=some (.type "tuple"):=by decide+kernel
theorem b_dict:bootBuiltins "dict"=some (.type "dict"):=by decide+kernel
theorem oz:bootBuiltins "sorted"=some (.builtin "sorted"):=by decide+kernel
end L2
namespace L2
open PySem PySem.Spec PyProof.Rows
theorem str_eq {a b:Str}:a=b↔a.cps.toList=b.cps.toList:=by
 constructor
 ·intro e;rw[e]
 ·intro e;cases a;cases b
  exact congrArg Str.mk (Array.toList_inj.mp e)
theorem cxOf_K {CX:CXT} {P:Program} {w:World} {K:PySem.W.Frag} {mg:Str→Option Value} {base:Heap} {N:List Str} {qual:Str} {scope:Scope} {f:Addr} {cd:Value} {A:Around} {outer:List Env} {s:Shared} {H:Hp} {E:XK}:(sd CX P w K mg base N qual scope f cd A outer s H E).K=K:=rfl
theorem nox_K {X:Cx}:X.nox.K=X.K:=rfl
end L2
namespace L2
open PySem PySem.Spec PyProof.Rows
inductive zg:List Expr→List V→Prop where
 | nil:zg [] []
 | str {x:Str} {j:Nat} {pos:Pos} {es:List Expr} {vs:List V} (h:zg es vs):zg (.Constant (.str x) j pos::es) (.str x::vs)
 | int {i:Int} {j:Nat} {pos:Pos} {es:List Expr} {vs:List V} (h:zg es vs):zg (.Constant (.int i) j pos::es) (.int i::vs)
def tVals (vs:List V):TA:=λ_ H Q=>Q vs H
theorem Kl {X:Cx} {es:List Expr} {vs:List V} (h:zg es vs):PA X es (tVals vs):=by
 induction h with
 | nil=>exact Lq
 | str _ ih=>exact Ak K2 ih
 | int _ ih=>exact Ak L3 ih
end L2
namespace L2
open PySem PySem.Spec PyProof.Rows
def Ez (g:TG) (tb:TS) (D:Ends) (J:It) (σ:St) (H1:Hp):Prop:=∃W:Nat→Nat→St→Hp→Prop,(∃m,W 0 m σ H1)∧∀i m σ H,W i m σ H→
 (J.stop i H∧D.nx σ H)∨(J.go i H∧∃N:St→Hp→Prop,(∀σ' H',N σ' H'→∃m',m' < m∧W (i+1) m' σ' H')∧∀x H',J.yld i H x H'→g x σ H' λσ2 H2=>tb { D with nx:=N,ct:=N,bk:=D.nx } σ2 H2)
theorem O8 (wi:TI) (g:TG) (tb:TS) (D:Ends) (σ:St) (H:Hp):tFor wi g tb D σ H=wi σ H λJ H1=>Ez g tb D J σ H1:=rfl
section
variable {K:PySem.W.Frag} {a:Addr} {xs:List V} {g:TG} {tb:TS} {D:Ends} {σ:St} {H:Hp}
theorem dg (Pv:Nat→St→Hp→Prop) (h0:Pv 0 σ H) (hl:∀i σ H,i≤xs.length→Pv i σ H→SqL K H a xs)
  (hs:∀i x σ H,xs[i]?=some x→Pv i σ H→g x σ H λσ2 H2=>tb { D with nx:=Pv (i+1),ct:=Pv (i+1),bk:=D.nx } σ2 H2) (hd:∀σ H,Pv xs.length σ H→D.nx σ H):Ez g tb D (Itl K a) σ H:=Km Pv h0 hl hs hd
theorem qd (Pv:Nat→St→Hp→Prop) (h0:Pv 0 σ H) (hl:∀i σ H,i≤xs.length→Pv i σ H→SqT K H a xs)
  (hs:∀i x σ H,xs[i]?=some x→Pv i σ H→g x σ H λσ2 H2=>tb { D with nx:=Pv (i+1),ct:=Pv (i+1),bk:=D.nx } σ2 H2) (hd:∀σ H,Pv xs.length σ H→D.nx σ H):Ez g tb D (Itt K a) σ H:=O6 Pv h0 hl hs hd
theorem fh {lo:Int} {n:Nat} (Pv:Nat→St→Hp→Prop) (h0:Pv 0 σ H)
  (hs:∀i σ H,i < n→Pv i σ H→g (.int (lo+i)) σ H λσ2 H2=>tb { D with nx:=Pv (i+1),ct:=Pv (i+1),bk:=D.nx } σ2 H2) (hd:∀σ H,Pv n σ H→D.nx σ H):Ez g tb D (Itr lo n) σ H:=Iz Pv h0 hs hd
end
end L2
namespace L2
open PySem PySem.Spec PyProof.Rows Builtin Builtin.Str
def ModD (w:World) (K:PySem.W.Frag) (a:Addr) (kvs:List (Key×V)):Prop:=
 (a==sysModules)=false∧∀(P:Program) (h:Heap),K.In h→∃vs,KV kvs vs∧h.DictOf (bj P w) a vs
abbrev Gf:=Int×Str×Tok×Int×Tok
noncomputable def siE (e:Gf):DictEntry:=⟨e.1,.str e.2.1 e.2.2.1,.int e.2.2.2.1 e.2.2.2.2⟩
theorem Bt (P:Program) (w:World):∀es:List Gf,Pairs (bj P w) (es.map siE) (es.map λe=>((Sum.inr e.2.1:Key),Value.int e.2.2.2.1 e.2.2.2.2))
 | []=>.nil
 | e::r=>.cons (kc P w e.2.1 e.2.2.1) rfl (Bt P w r)
theorem si_kv:∀es:List Gf,KV (es.map λe=>((Sum.inr e.2.1:Key),V.int e.2.2.2.1)) (es.map λe=>((Sum.inr e.2.1:Key),Value.int e.2.2.2.1 e.2.2.2.2))
 | []=>.nil
 | e::r=>.cons ⟨rfl,⟨_,rfl⟩⟩ (si_kv r)
theorem Pt {w:World} {K:PySem.W.Frag} {a:Addr} {ep:Nat} (es:List Gf) (hl:K.lookup a=some ⟨.type "dict",none,.dict (es.map siE).toArray ep,#[]⟩) (ha:(a==sysModules)=false)
  (hh:∀e∈es,e.1=hashStr w e.2.1) (nd:(es.map λe=>(Sum.inr e.2.1:Key)).Nodup):ModD w K a (es.map λe=>(Sum.inr e.2.1,V.int e.2.2.2.1)):=by
 refine ⟨ha,λP h hk=>⟨_,si_kv es,_,_,ep,hk a _ hl,⟨rfl,rfl,rfl⟩,rfl,λe he=>?_,by simpa using Bt P w es,?_⟩⟩
 ·have he':e∈es.map siE:=List.mem_toArray.mp he;obtain ⟨r,hr,rfl⟩:=List.mem_map.mp he';exact ⟨Sum.inr r.2.1,kc P w r.2.1 r.2.2.1,hh r hr⟩
 ·rw[ac5];exact nd
section
variable {X:Cx} {a:Addr} {kvs:List (Key×V)}
def J0 (kvs:List (Key×V)) (ty tx:TE):TE:=λσ H Q=>ty σ H λy H2=>tx σ H2 λz H3=>∃k,y=kV k∧Q ((dh kvs k).getD z) H3
theorem Js {o e f:Expr} {apos cpos:Pos} {ty tx:TE} (ho:PE X o (tC (.ref a))) (md:ModD X.w X.K a kvs) (he:PE X e ty) (hf:PE X f tx) (m:M2 X o "get" apos e f cpos):PE X (.Call (.Attribute o "get" apos) [e,f] [] cpos) (J0 kvs ty tx):=by
 intro pins s σ H Q I h;refine wpAny_Call_method m.base m.few m.line PySem.F.plainAttrs_dict PySem.F.slot_dict_get PySem.F.type_dict_get (thn (ho pins s σ H (λx H1=>x=.ref a∧H1=H) I ⟨rfl,rfl⟩) λu s1 ⟨x,H1,I1,rx,ex,eH⟩=>?_);subst ex eH;obtain rfl:u=Value.ref a:=rx;obtain ⟨vs,rel,dd⟩:=md.2 X.prog _ I1.kIn;refine ⟨dd.typeIs,λb q=>?_,?_⟩
 ·cases q
  obtain ⟨ob,_,_,h1,h2,_⟩:=dd;exact ⟨ob,h1,h2.2.1⟩
 rw[m.trees];refine Calls.callWith_builtin rfl (Calls.evalArgs_plain (Calls.spliced_cons (thn (he pins s1 σ H1 _ I1 h) λiv s2 ⟨y,H2,I2,ry,q2⟩=>
  Calls.spliced_cons (thn (hf pins s2 σ H2 _ I2 q2) λfv s3 ⟨z,H3,I3,rz,k,ek,q3⟩=>Calls.spliced_nil ?_))))
 subst ek;obtain ⟨vs',rel',dd'⟩:=md.2 X.prog _ I3.kIn;refine call_meetsIn PySem.F.slot_dict_get dd'.typeIs PySem.F.entry_dict_get (PySem.F.args_dict_get_3 _ _ _) (meets_dict_get_default (bj X.prog X.w) a (rg ry) md.1 fv) ⟨_,dd'.mapOf,⟨_,H3,I3.tok _,?_,q3⟩⟩;exact (rel'.val k).getD rz
noncomputable def Gk:V→Str
 | .str z=>z
 | .int i=>(toString i:String)
 | _=>Str.empty
def wordV:V→Prop
 | .str _=>True
 | .int i=>i.natAbs.log2 < 1920
 | _=>False
theorem zt:gw X (.type "str") (λxs H Q=>∃x,xs=[x]∧wordV x∧Q (.str (Gk x)) H):=by
 intro pins s σ H xs us Q I r h;obtain ⟨x,rfl,hw,q⟩:=h;obtain ⟨u,rfl,rx⟩:=vals1 r;cases x with
 | str z=>obtain ⟨t,rfl⟩:=rx;exact PySem.P.str_of_str ⟨.str z,H,I,⟨t,rfl⟩,q⟩
 | int i=>obtain ⟨t,rfl⟩:=rx;exact PySem.P.str_of_int hw ⟨.str _,H,I.tok _,⟨_,rfl⟩,q⟩
 | _=>exact hw.elim
end
end L2
namespace L2
open PySem PySem.Spec PyProof.Rows
section
variable {X:Cx} (K:PySem.W.Frag) (hK:X.K=K)
include hK
theorem Au:IxR X (rIxL K):=by subst hK;exact Ff
theorem Nx:IxR X (rIxT K):=by subst hK;exact Kf
theorem nr:OpR X (compareOp .In) (rIn K false):=by subst hK;exact yq
end
end L2
namespace L2
open PySem PySem.Spec PyProof.Rows
def tMid (t u:TS):TS:=λD σ H=>∃M:St→Hp→Prop,t { D with nx:=M } σ H∧∀σ' H',M σ' H'→u D σ' H'
theorem fb {t u:TS} {D:Ends} {σ:St} {H:Hp} (M:St→Hp→Prop) (h1:t { D with nx:=M } σ H) (h2:∀σ' H',M σ' H'→u D σ' H'):tMid t u D σ H:=⟨M,h1,h2⟩
section
variable {X:Cx} {st:Stmt} {rest:List Stmt} {t u:TS}
theorem Pz (h1:PS X st t) (h2:PSs X rest u):PSs X (st::rest) (tMid t u):=by
 intro pins s σ H D I h;obtain ⟨M,h,hM⟩:=h;refine wpAny_execs_cons (thn (h1 pins s σ H { D with nx:=M } I h) λf s1 q=>?_);cases f with
 | next=>
  obtain ⟨σ',H',I',q⟩:=q;exact h2 pins s1 σ' H' D I' (hM σ' H' q)
 | ret v=>exact q
 | brk=>exact q
 | cont=>exact q
end
theorem Nc {K:PySem.W.Frag} {z:Str} {H:Hp}:tyV K "str" (.str z) H=True:=eq_true rfl
theorem av {K:PySem.W.Frag} {a:Addr} {xs:List V} {H:Hp} (h:H a=some (.lst xs)):tyV K "list" (.ref a) H:=.inl ⟨rfl,xs,SqL.of h⟩
theorem au {K:PySem.W.Frag} {H:Hp} {t:Addr} {xs:List V} {i:Int} {v:V} {Q:VK} (h:H t=some (.tup xs)) (hv:atI xs i=some v) (q:Q v H):rIxT K (.ref t) (.int i) H Q:=⟨t,xs,i,v,rfl,rfl,SqT.of h,hv,q⟩
theorem ao {K:PySem.W.Frag} {H:Hp} {t:Addr} {xs:List V} {i:Int} {v:V} {Q:VK} (h:H t=some (.lst xs)) (hv:atI xs i=some v) (q:Q v H):rIxL K (.ref t) (.int i) H Q:=⟨t,xs,i,v,rfl,rfl,SqL.of h,hv,q⟩
theorem Of {H:Hp} {a b:Addr} {xs ys:List V} {Q:VK} (h1:H a=some (.lst xs)) (h2:H b=some (.lst ys)) (hz:xs.length+ys.length≤sizeLine) (q:∀p,H p=none→Q (.ref p) (upd H p (.lst (xs++ys)))):rCat (.ref a) (.ref b) H Q:=⟨a,b,xs,ys,rfl,rfl,h1,h2,hz,q⟩
theorem O2 {H:Hp} {a:Addr} {x:V} {k:Int} {Q:VK} (h1:H a=some (.lst [x])) (h0:0≤k) (hk:k≤1000000) (q:∀p,H p=none→Q (.ref p) (upd H p (.lst (aap k.toNat x)))):rRep (.ref a) (.int k) H Q:=by
 have sz:=sizeLine_eq;refine ⟨a,k,[x],rfl,rfl,h1,by omega,by omega,by show 1*k.toNat≤sizeLine;omega,λp hp=>?_⟩;have e:(aap k.toNat [x]).flatten=aap k.toNat x:=by
  induction k.toNat with
  | zero=>rfl
  | succ n ih=>rw[abb,ac9,ih];rfl
 rw[e];exact q p hp
theorem bb {K:PySem.W.Frag} {H:Hp} {l:Addr} {xs:List V} {y:V} {Q:VK} (h:H l=some (.lst xs)) (hz:xs.length < sizeLine) (q:Q .non (upd H l (.lst (xs++[y])))):tyV K "list" (.ref l) H∧qa (.ref l) [y] H Q:=
 ⟨av h,l,xs,y,rfl,rfl,h,hz,q⟩
end L2
namespace HT
open PySem PySem.Spec PyProof.Rows L2
section
variable {prog:Program} {w:World} {A:Around} {E:Value→Shared→Prop} {s:Shared}
theorem Mx {t b:Addr} {vs ws:List Value} {Q:Value→Shared→Prop} (ht:IsTup s.heap t vs.toArray) (hb:IsTup s.heap b ws.toArray) (hv:vs=[]) (h1:Q (.ref b) s):wpAny (model prog w) A (binaryOp .Add (.ref t) (.ref b)) Q E s:=by
 obtain ⟨⟨cls,dd,data,sl⟩,ho,hc,n,hd⟩:=id ht;obtain ⟨⟨cls2,dd2,data2,sl2⟩,ho2,hc2,n2,hd2⟩:=id hb;simp only at hc hd hc2 hd2;subst hc hd hc2 hd2;exact concat_meets ⟨_,ho,rfl⟩ ⟨_,ho2,rfl⟩ noFill_tuple_add seq_tuple_add PySem.F.slot_tuple_add PySem.F.entry_tuple_add (PySem.F.args_tuple_add_2 _ _)
  (tuple_addW0 t b vs.toArray ws.toArray n n2 dd dd2 sl sl2 (by simp[hv])) ⟨ho,ho2,h1⟩
theorem ma {t sl:Addr} {items:Array Value} {vl vu:Value} {lo hi:Option Int} {Q:Value→Shared→Prop} (ht:IsTup s.heap t items) (hs:s.heap.IsSliceOf sl vl vu .none) (pl:IsPart vl lo) (pu:IsPart vu hi)
  (hw:sIx items.size 0 lo=0∧sIx items.size items.size hi=items.size) (h:Q (.ref t) s) (hsz:items.size≤sizeLine):wpAny (model prog w) A (getItem (.ref t) (.ref sl)) Q E s:=by
 obtain ⟨os,hos,hcs,hds⟩:=id hs;have hTs:s.TypeIs (.ref sl) "slice":=⟨os,hos,hcs⟩;unfold getItem;try with_reducible refine wpAny_holding ?_
 first | refine wpAny_bind (wpAny_pure ?_) | skip
 refine wpAny_bind (wpAny_sequenceKey ht.typeIs (by decide) ?_);refine wpAny_bind (wpAny_callSpecial?_slot (name:=Str.ofString "__getitem__") ht.typeIs PyProof.Rows.slot_tuple_getitem
  (wpAny_call_entry PyProof.Rows.slot_tuple_getitem ht.typeIs entry_tuple_getitem ?_ (args_tuple_getitem _ _)))
 show wpAny _ _ (Builtin.Tuple.tupleItemsOf (.ref t) >>=_) _ _ s
 refine wpAny_bind (tupleItemsOf_ ht ?_);refine wpAny_bind (wpAny_typeOf hTs ?_);rw[if_pos (by decide)];refine wpAny_bind (i8 hs pl pu ?_);have hyes:((((sIx items.size 0 lo:Nat):Int)==0&&(1:Int)==1&&(sIx items.size items.size hi - sIx items.size 0 lo)==items.size)=true):=by
  rw[hw.1,hw.2];simp
 show wpAny _ _ (if (((sIx items.size 0 lo:Nat):Int)==0&&(1:Int)==1&&(sIx items.size items.size hi - sIx items.size 0 lo)==items.size)=true then _ else _) _ _ s
 rw[if_pos hyes];refine wpAny_bind ?_;show wpAny _ _ (typeOf (.ref t) >>=λv=>pure (v==.type "tuple")) _ _ s
 refine wpAny_bind (wpAny_typeOf ht.typeIs (wpAny_pure ?_));rw[if_pos (by decide)];refine wpAny_bind (wpAny_rule ?_);first
  | exact wpAny_bind (wpAny_pure (wpAny_pure ⟨_,rfl,wpAny_pure h⟩))
  | exact wpAny_pure ⟨_,rfl,wpAny_pure h⟩
  | exact wpAny_bind (wpAny_pure ⟨_,rfl,wpAny_pure h⟩)
end
end HT
namespace L2
open PySem PySem.Spec PyProof.Rows
section
variable {X:Cx}
def rCatU:R2:=λx y H Q=>∃a b xs ys,x=.ref a∧y=.ref b∧H a=some (.tup xs)∧H b=some (.tup ys)∧xs.length+ys.length≤sizeLine∧∀p H',ak H H'→H' p=some (.tup (xs++ys))→Q (.ref p) H'
theorem ua:OpR X (binaryOp .Add) rCatU:=by
 intro pins s σ H x y v u Q I rx ry h;obtain ⟨a,b,xs,ys,rfl,rfl,ha,hb,hz,q⟩:=h;by_cases hx:xs=[]
 ·subst hx;cases rx
  cases ry
  obtain ⟨its,r1,p1,_⟩:=I.tuple (SqT.of ha);obtain ⟨its2,r2,p2,_⟩:=I.tuple (SqT.of hb);exact HT.Mx p1 p2 (r1.ug.mpr rfl) ⟨.ref b,H,I,rfl,q b H (ak.refl H) hb⟩
 ·refine Qm pins s σ H _ _ v u Q I rx ry ⟨a,b,xs,ys,rfl,rfl,SqT.of ha,SqT.of hb,hx,hz,λe=>?_,λ_ p hp=>q p _ (λc o h=>by rw[af (ag h hp)];exact h) ae⟩;subst e;exact q a H (ak.refl H) (by rw[ab1];exact ha)
theorem oq {H:Hp} {a b:Addr} {xs ys:List V} {Q:VK} (ha:H a=some (.tup xs)) (hb:H b=some (.tup ys)) (hz:xs.length+ys.length≤sizeLine) (q:∀p H',ak H H'→H' p=some (.tup (xs++ys))→Q (.ref p) H'):rCatU (.ref a) (.ref b) H Q:=⟨a,b,xs,ys,rfl,rfl,ha,hb,hz,q⟩
def rSlU:V→Option Int→Option Int→Hp→VK→Prop:=λx lo hi H Q=>∃a xs,x=.ref a∧H a=some (.tup xs)∧∀p H',ak H H'→H' p=some (.tup (cn xs lo hi))→Q (.ref p) H'
theorem Ji {xs:List V} {lo hi:Option Int} (h:HT.sIx xs.length 0 lo=0∧HT.sIx xs.length xs.length hi=xs.length):cn xs lo hi=xs:=by
 unfold cn;rw[h.1,h.2,List.drop_zero,acw,abx]
theorem ik:SlR X rSlU:=by
 intro pins s σ H x v vl vu lo hi sl Q I rx hs pl pu h;obtain ⟨a,xs,rfl,ha,q⟩:=h;by_cases hw:HT.sIx xs.length 0 lo=0∧HT.sIx xs.length xs.length hi=xs.length
 ·cases rx
  obtain ⟨its,r,ht,hz⟩:=I.tuple (SqT.of ha);have hlen:its.toArray.size=xs.length:=by rw[aa5];exact r.length.symm
  exact ⟨"tuple",_,PyProof.Rows.slot_tuple_getitem.lookup,ht.typeIs,HT.ma ht hs pl pu (by rw[hlen];exact hw) ⟨.ref a,H,I,rfl,q a H (ak.refl H) (by rw[Ji hw];exact ha)⟩ (by rw[hlen];exact hz)⟩
 ·exact sl_tup pins s σ H _ v vl vu lo hi sl Q I rx hs pl pu ⟨a,xs,rfl,SqT.of ha,hw,λp hp=>q p _ (λc o h=>by rw[af (ag h hp)];exact h) ae⟩
theorem Oz {H:Hp} {a:Addr} {xs:List V} {lo hi:Option Int} {Q:VK} (ha:H a=some (.tup xs)) (q:∀p H',ak H H'→H' p=some (.tup (cn xs lo hi))→Q (.ref p) H'):rSlU (.ref a) lo hi H Q:=⟨a,xs,rfl,ha,q⟩
theorem Ad (k:Key):ij (kV k)=true:=by cases k <;> rfl
theorem eqV_kV (a b:Key):eqV (kV a) (kV b)=decide (a=b):=by
 cases a <;> cases b <;> simp[eqV,kV] <;> exact Bool.beq_eq_decide_eq _ _
theorem Bl {as bs:List Key} (hl:as.length=bs.length):((aat as.length).all λj=>decide (as[j]?=bs[j]?))=decide (as=bs):=by
 rw[ack,af7,decide_eq_true_eq];constructor
 ·intro h;apply acd
  intro j;by_cases hj:j < as.length
  ·exact of_decide_eq_true (h j (List.mem_range.mpr hj))
  ·rw[List.getElem?_eq_none_iff.mpr (by omega),List.getElem?_eq_none_iff.mpr (by omega)]
 ·intro h j _;rw[h];exact decide_eq_true rfl
theorem qi {A:Around} {s:Shared} {as bs:List Key} {us ws:List Value} (r1:Vals (as.map kV) us) (r2:Vals (bs.map kV) ws) (j:Nat) (h1:j < us.toArray.size) (h2:j < ws.toArray.size):
  SeqAt.EqAt A s us.toArray[j] ws.toArray[j] (decide (as[j]?=bs[j]?)):=by
 have l1:=r1.length;have l2:=r2.length;rw[aa1] at l1 l2;have j1:j < as.length:=by rw[l1];simpa using h1
 have j2:j < bs.length:=by rw[l2];simpa using h2
 obtain ⟨u,hu,ru⟩:=r1.get (i:=j) (x:=kV as[j]) (by rw[aa7,aa0 j1];rfl);obtain ⟨w,hw,rw'⟩:=r2.get (i:=j) (x:=kV bs[j]) (by rw[aa7,aa0 j2];rfl);have e1:us.toArray[j]=u:=by
  have:us[j]'(by simpa using h1)=u:=by rw[aa0 (by simpa using h1)] at hu;exact aa3 hu
  simpa using this
 have e2:ws.toArray[j]=w:=by
  have:ws[j]'(by simpa using h2)=w:=by rw[aa0 (by simpa using h2)] at hw;exact aa3 hw
  simpa using this
 rw[e1,e2,aa0 j1,aa0 j2];have e3:decide (some as[j]=some bs[j])=eqV (kV as[j]) (kV bs[j]):=by
  rw[eqV_kV];apply decide_eq_decide.mpr
  exact ⟨λh=>aa3 h,λh=>by rw[h]⟩
 rw[e3];exact Ku ru rw' (Ad _) (Ad _)
def rEqK (K:PySem.W.Frag) (neg:Bool):R2:=λx y H Q=>∃a b as bs,x=.ref a∧y=.ref b∧((SqT K H a (adi kV as)∧SqT K H b (adi kV bs))∨(SqL K H a (adi kV as)∧SqL K H b (adi kV bs)))∧Q (.bl (if neg then !decide (as=bs) else decide (as=bs))) H
theorem op_neK (hu:X.A.units < cLine):OpR X (compareOp .NotEq) (rEqK X.K true):=by
 intro pins s σ H x y v u Q I rx ry h;obtain ⟨a,b,as,bs,rfl,rfl,hd,q⟩:=h;cases rx
 cases ry
 rcases hd with ⟨ha,hb⟩ | ⟨ha,hb⟩
 ·obtain ⟨its,r1,p1,_⟩:=I.tuple ha;obtain ⟨its2,r2,p2,_⟩:=I.tuple hb;have l1:=r1.length;have l2:=r2.length;rw[aa1] at l1 l2;refine SeqAt.RcNeAt.tuples (show s.heap.IsTuple a its.toArray from p1) (show s.heap.IsTuple b its2.toArray from p2) hu (λj h1 h2=>qi r1 r2 j h1 h2) _ _ _ _ ?_;refine bh I q ?_;show (!decide (as=bs))=_
  rw[aa5,aa5,←l1,←l2];by_cases hl:as.length=bs.length
  ·rw[←hl,ae5,Bl hl];simp
  ·have:¬as=bs:=λe=>hl (by rw[e]);simp[this,hl]
 ·obtain ⟨its,r1,p1,_⟩:=I.list ha;obtain ⟨its2,r2,p2,_⟩:=I.list hb;have l1:=r1.length;have l2:=r2.length;rw[aa1] at l1 l2;by_cases hl:as.length=bs.length
  ·refine SeqAt.RcNeAt.lists p1.isList p2.isList (by rw[aa5,aa5,←l1,←l2,hl]) hu (λj h1 h2=>qi r1 r2 j h1 h2) _ _ _ _ ?_;refine bh I q ?_;show (!decide (as=bs))=_
   rw[aa5,←l1,Bl hl]
  ·refine SeqAt.RcNeAt.lists_lengths p1.isList p2.isList (by rw[aa5,aa5,←l1,←l2];simpa using hl) hu _ _ _ _ ?_;refine bh I q ?_;show (!decide (as=bs))=_
   rw[decide_eq_false λe=>hl (by rw[e])];rfl
end
section
variable {X:Cx} {k:Nat} {ps:List Str} {sp:Sp} {x:Str} {p pos:Pos} {e:Expr} {es:List Expr} {t:TA}
def FnV (P:Program) (w:World) (K:PySem.W.Frag) (mg:Str→Option Value) (base:Heap) (k:Nat) (ps:List Str) (sp:Sp) (v:V):Prop:=
 ∃(f:Addr) (fd:FuncData),v=.ref f∧qc P w K mg base CX0 k f fd ps sp∧Binds K fd ps []∧PySem.W.keepIn K (.ref f)=true
def tCallV (P:Program) (w:World) (K:PySem.W.Frag) (mg:Str→Option Value) (base:Heap) (k:Nat) (ps:List Str) (i:Nat) (t:TA):TE:=λσ H Q=>∃v sp,σ[i]?=some (some v)∧FnV P w K mg base k ps sp v∧t σ H λvs H1=>sp vs H1 Q E0
end
end L2
namespace L2
open PySem PySem.Spec PyProof.Rows
noncomputable def Itv (K:PySem.W.Frag) (a:Addr) (n:Nat):It:=
 ⟨λi H=>i < n∧∃xs,SqL K H a xs∧xs.length=n,λi H x H'=>H'=H∧∀xs,SqL K H a xs→xs[n - 1 - i]?=some x,λi H=>i=n⟩
theorem Ma {P:Program} {w:World} {K:PySem.W.Frag} {tg:Expr} (a it:Addr) (n:Nat):Turn P w K tg (Itv K a n) [it] it (λi h=>i≤n∧h.IsRevIter it a ((n:Int) - 1 - (i:Int))) where
 mem:=by simp
 obj:=λi h st b hb=>by
  have e:b=it:=by simpa using hb
  subst e;obtain ⟨_,o,e,c,d⟩:=st;exact ⟨o,e,λv z=>by rw[d] at z;cases z⟩
 keep:=λi h h' st k=>⟨st.1,st.2.at λo e=>k it (by simp) o e⟩
 item:=by
  intro X hP hw hK hc i pins s σ H E I hf st hg;subst hP hw hK;obtain ⟨hi,xs,hq,hn⟩:=hg;have hx:xs[n - 1 - i]?=some (xs[n - 1 - i]'(by omega)):=aa0 (by omega);obtain ⟨its,rv,p,hz⟩:=I.list hq;obtain ⟨u,hu,ru⟩:=rv.get hx;obtain ⟨f0,f1,f2,f3,f4,f5⟩:=hf it (by simp);have e:(n:Int) - 1 - (i:Int)=((n - 1 - i:Nat):Int):=by omega
  have st2:=st.2;rw[e] at st2;refine wpAny_pyNext_rev_item st2 p.isList (x:=u) (by simpa using hu) λh' st' sb=>?_;have e2:((n - 1 - i:Nat):Int) - 1=(n:Int) - 1 - ((i+1:Nat):Int):=by omega
  rw[e2] at st';have I1:Inv X pins σ H { s with heap:=h' }:=I.turned (t':=s.toks) (λb o hb e=>(sb.2 b hb).trans e) f0 f1 f3 f4 f5;obtain ⟨o,e,c,d⟩:=id st';exact ⟨u,rfl,xv (s:={ s with heap:=h' }) e c d (by decide) ⟨_,H,I1,ru,⟨rfl,λys hy=>by rw[I.vh hy hq];exact hx⟩,⟨hi,st'⟩,λb hb=>(hf b hb).1⟩⟩
 done:=by
  intro X hP hw hK hc i pins s σ H E I hf st hg;subst hP hw hK;obtain ⟨f0,f1,f2,f3,f4,f5⟩:=hf it (by simp);have hg:i=n:=hg;subst hg;have e:(i:Int) - 1 - (i:Int)=-1:=by omega
  have st2:=st.2;rw[e] at st2;exact wpAny_pyNext_rev_end (I.ok.hd hc) st2 λh' eb=>⟨rfl,I.turned (t':=s.toks) (λb o hb e=>eb b o hb e) f0 f1 f3 f4 f5⟩
 self:=λ_ _ _ _ _ st h=>wpAny_pyIter_revIter st.2 h
def iRev (K:PySem.W.Frag) (ta:TA):TI:=λσ H R=>ta σ H λvs H1=>∃a xs,vs=[.ref a]∧SqL K H1 a xs∧R (Itv K a xs.length) H1
theorem Dx:bootBuiltins "reversed"=some (.type "reversed"):=by decide+kernel
section
variable {X:Cx} {tg:Expr}
theorem pi_rev {a:Expr} {ta:TA} {p pos:Pos} (hg:Gl X "reversed") (hm:X.mg "reversed"=none) (ha:PA X [a] ta) (hs:starEach [a] X.env=[(false,eval a X.env)]:=by rfl):PI X tg (.Call (.Name "reversed" p) [a] [] pos) (iRev X.K ta):=by
 intro pins s σ H R I h;refine Call_ (jq I hg hm Dx (PyProof.Rows.callWith_type1 (thn (ha pos pins s σ H _ I h) λus s1 ⟨vs,H1,I1,r1,q1⟩=>?_) hs rfl));obtain ⟨l,xs,e,hq,q⟩:=q1;subst e;cases r1 with
 | cons r rr=>
  cases rr
  cases (show _=Value.ref l from r)
  obtain ⟨its,rv,pl,hz⟩:=I1.list hq;refine call_reversed_list pl.isList ?_;have hlen:((its.toArray.size:Nat):Int) - 1=(xs.length:Int) - 1 - ((0:Nat):Int):=by
   rw[aa5,←rv.length];omega
  have st:Heap.IsRevIter (s1.heap.push (revObj l ((its.toArray.size:Int) - 1))) s1.heap.objs.size l ((xs.length:Int) - 1 - ((0:Nat):Int)):=by
   rw[←hlen];exact ⟨_,Heap.get?_push_size _ rfl,rfl,rfl⟩
  refine wpAny_pyIter_revIter st ?_;refine ⟨s1.heap.objs.size,[s1.heap.objs.size],_,_,H1,rfl,I1.kept (t':=s1.toks) λb o e=>Heap.get?_push_of_some _ e,Ma l _ xs.length,⟨aa8 _,st⟩,λb hb=>?_,q⟩;have e:b=s1.heap.objs.size:=by simpa using hb
  subst e;exact I1.xc (aa6 _) (I1.hok.fresh (aa6 _))
end
theorem M6 {K:PySem.W.Frag} {a:Addr} {xs:List V} {g:TG} {tb:TS} {D:Ends} {σ:St} {H:Hp} (Pv:Nat→St→Hp→Prop) (h0:Pv 0 σ H) (hl:∀i σ H,i≤xs.length→Pv i σ H→SqL K H a xs)
  (hs:∀i x σ H,i < xs.length→xs[xs.length - 1 - i]?=some x→Pv i σ H→g x σ H λσ2 H2=>tb { D with nx:=Pv (i+1),ct:=Pv (i+1),bk:=D.nx } σ2 H2) (hd:∀σ H,Pv xs.length σ H→D.nx σ H):Ez g tb D (Itv K a xs.length) σ H:=by
 refine ⟨λi m σ H=>m=xs.length - i∧i≤xs.length∧Pv i σ H,⟨xs.length,by simp,aa8 _,h0⟩,?_⟩;rintro i m σ H ⟨rfl,hi,p⟩;have q:=hl i σ H hi p;by_cases hlt:i < xs.length
 ·refine .inr ⟨⟨hlt,xs,q,rfl⟩,Pv (i+1),λσ' H' p'=>⟨xs.length - (i+1),by omega,rfl,hlt,p'⟩,λx H' y=>?_⟩;obtain ⟨e,y⟩:=y;subst e;exact hs i x σ _ hlt (y xs q) p
 ·have e:i=xs.length:=by omega
  subst e;exact .inl ⟨rfl,hd σ H p⟩
end L2
namespace L2
open PySem PySem.Spec PyProof.Rows
section
variable {CX:CXT} {P:Program} {w:World} {K:PySem.W.Frag} {mg:Str→Option Value} {base:Heap} {N:List Str} {qual:Str} {scope:Scope} {f:Addr} {cd:Value} {A:Around} {outer:List Env} {s:Shared} {H:Hp} {E:XK}
theorem cxOf_P:(sd CX P w K mg base N qual scope f cd A outer s H E).prog=P:=rfl
theorem cxOf_w:(sd CX P w K mg base N qual scope f cd A outer s H E).w=w:=rfl
theorem Oj:(sd CX P w K mg base N qual scope f cd A outer s H E).mg=mg:=rfl
theorem cxOf_b:(sd CX P w K mg base N qual scope f cd A outer s H E).base=base:=rfl
end
theorem Ac {K:PySem.W.Frag} {H:Hp} {l:Addr} {xs:List V} {y:V} {Q:VK} (h:H l=some (.lst (xs++[y]))) (q:Q y (upd H l (.lst xs))):tyV K "list" (.ref l) H∧rPop (.ref l) [] H Q:=
 ⟨av h,l,xs++[y],y,rfl,rfl,h,by rw[aa2,aa9,adu,aac (aa6 _),acx];rfl,by rw[aek];exact q⟩
end L2
namespace L2.Srt
open PySem PySem.W PyProof.Rows
section
variable {cmp:Nat→Nat→(Bool→Shared→Prop)→Shared→Prop} {N:Nat} {r:Nat→Int} {s:Shared}
def Cmp (cmp:Nat→Nat→(Bool→Shared→Prop)→Shared→Prop) (N:Nat) (r:Nat→Int) (s:Shared):Prop:=∀i j C,i < N→j < N→C (decide (r i < r j)) s→cmp i j C s
noncomputable def R (r:Nat→Int) (p:Array Nat) (i:Nat):Int:=r (p.getD i 0)
end
end L2.Srt
namespace L2.Srt
open PySem PySem.W PyProof.Rows
noncomputable def de (h:Heap) (a:Addr) (vs:List Value):Heap:=((h.update a (Obj.mapSeq λ_=>#[])).push (seqObj "tuple" vs.toArray 0)).push (seqObj "list" #[] 0)
section
variable {prog:Program} {w:World} {A:Around} {E:Value→Shared→Prop} {s:Shared} {r:Nat→Int}
theorem Bd {l:Addr} {vs:List Value} {Q:List Value→Shared→Prop} (hl:s.heap.IsTuple l vs.toArray)
  (h:Q vs { s with heap:=(s.heap.push (seqObj "list" #[] 0)).update s.heap.objs.size (Obj.mapSeq (·++vs.toArray)) }) (hsz:vs.length≤sizeLine):
  wpAny (model prog w) A (collect (.ref l)) Q E s:=by
 obtain ⟨o,ho,hc,n,hd⟩:=id hl;unfold collect;refine wpAny_bind (wpAny_runValue (codeAny_builtin entry_proto_collect' ?_));show wpAny _ _ (do again (.builtin "list.__iadd__" ⟨[←newList [],.ref l],[]⟩)) _ _ s
 refine wpAny_bind (wpAny_newList (wpAny_pure ⟨Code.quiet_builtin _ (by decide+kernel),codeAny_builtin entry_list_iadd' ?_⟩));show wpAny _ _ (Builtin.List.listExtendWith (.ref s.heap.objs.size) (.ref l) (.ref s.heap.objs.size)) _ _ { s with heap:=s.heap.push (seqObj "list" #[] 0) }
 unfold Builtin.List.listExtendWith;have ho':(s.heap.push (seqObj "list" #[] 0)).get? l=some o:=Heap.get?_push_of_some _ ho;refine wpAny_bind (wpAny_typeOf (T:="tuple") ⟨o,ho',hc⟩ ?_);have ht:(Value.type "tuple"==Value.type "tuple")=true:=by rfl
 rw[if_pos (by rw[ht];simp)];refine wpAny_bind (listItems_at ho' hd ?_);refine wpAny_bind (listItems_at (xs:=#[]) (n:=0) (Heap.get?_push_size _ rfl) rfl ?_);rw[if_neg (by simp)];refine wpAny_bind (listUpdate_at (xs:=#[]) (n:=0) (Heap.get?_push_size _ rfl) rfl ?_ (aa8 _) (by show (#[]++vs.toArray).size≤sizeLine+1;simp only[Array.size_append,aa5,acn];omega));refine wpAny_pure ?_;show wpAny (model prog w) A (do
   let o ←load s.heap.objs.size
   match o.data with
   | .seq xs _=>pure xs.toList
   | _=>unsupported "internal:collect") Q E { s with heap:=(s.heap.push (seqObj "list" #[] 0)).update s.heap.objs.size (Obj.mapSeq (·++vs.toArray)) }
 refine wpAny_bind (wpAny_load (get?_update_seq (Heap.get?_push_size _ rfl) _) ?_);show wpAny _ _ (pure ((#[]:Array Value)++vs.toArray).toList) Q E _
 rw[show ((#[]:Array Value)++vs.toArray).toList=vs by simp];exact wpAny_pure h
noncomputable def eh (h:Heap) (vs:List Value):Heap:=((h.push (seqObj "list" #[] 0)).update h.objs.size (Obj.mapSeq (·++vs.toArray))).push (seqObj "list" vs.toArray 0)
end
end L2.Srt
namespace L2
open PySem PySem.Spec PyProof.Rows Srt
def En (P:Program) (w:World) (A:Around) (H:Hp) (ys:List V) (rk:Nat→Int):Prop:=
 ∀(s:Shared) (vs:List Value),HOk P w H s.heap→Vals ys vs→2≤vs.length→wpAny (model P w) A (keyKind' vs.toArray) (λκ s'=>s'=s∧Cmp (PySem.W.kas_ask P w A κ vs) vs.length rk s) (λ_ _=>False) s
theorem Nr {h:Heap} {vs:List Value} {b:Addr} {o:Obj} (hb:h.get? b=some o):(de (eh h vs) (h.objs.size+1) vs).get? b=some o:=by
 have hlt:b < h.objs.size:=Heap.lt_size hb;have hsz:(eh h vs).objs.size=h.objs.size+2:=by unfold eh;rw[size_push',Heap.size_update,size_push']
 unfold de;rw[Heap.get?_push_ne _ _ _ (by rw[size_push',Heap.size_update,hsz];exact aaf (aam hlt (by omega))),Heap.get?_push_ne _ _ _ (by rw[Heap.size_update,hsz];exact aaf (aam hlt (by omega))),Heap.get?_update_ne _ _ _ _ (aaf (aam hlt (by omega)))];unfold eh;rw[Heap.get?_push_ne _ _ _ (by rw[Heap.size_update,size_push'];exact aaf (aam hlt (by omega))),Heap.get?_update_ne _ _ _ _ (aaf hlt),Heap.get?_push_ne _ _ _ (aaf hlt)];exact hb
theorem qm {ys:List V} {vs:List Value} (r:Vals ys vs):∀(is:List Nat),(∀i∈is,i < ys.length)→Vals (is.map λi=>ys.getD i .non) (is.map λi=>vs.getD i Value.none)
 | [],_=>.nil
 | i::is,h=>by
  have hi:=h i aan;obtain ⟨u,hu,ru⟩:=r.get (aa0 hi);refine .cons ?_ (qm r is λj hj=>h j (aaj _ hj));have e1:ys.getD i .non=ys[i]:=by rw[aa4,aa0 hi];rfl
  have e2:vs.getD i Value.none=u:=by rw[aa4,hu];rfl
  show RelV (ys.getD i .non) (vs.getD i Value.none)
  rw[e1,e2];exact ru
section
variable {X:Cx}
end
end L2
namespace PySem.SeqAt
open PySem PySem.Spec PySem.Calls
def LtAt (A:Around) (s:Shared) (x y:Value) (b:Bool):Prop:=∀(prog:Program) (w:World) (E:Value→Shared→Prop) (Q:Value→Shared→Prop),Q (.bool b) s→wpAny (model prog w) A (richCompare .Lt x y) Q E s
section
variable {A:Around} {s:Shared}
theorem LtAt.str {x y:Str} {t u:Tok}:LtAt A s (.str x t) (.str y u) (decide (x.cps.toList < y.cps.toList)):=λprog w E Q h=>by
 refine wpAny_richCompare_same (T:="str") (id:="str.__lt__") (op:=.Lt) (typeIs_str s x t) (typeIs_str s y u) PyProof.Rows.slot_str_lt (PyProof.Rows.call_str_lt ?_);exact ⟨(λx=>nomatch x),h⟩
end
end PySem.SeqAt
namespace L2
open PySem PySem.Spec PyProof.Rows Srt
theorem yo {α:Type} {p q:α→Bool}:∀{l:List α},(∀x∈l,p x=true→q x=true)→(∃x∈l,q x=true∧p x=false)→l.countP p < l.countP q
 | [],_,h=>by obtain ⟨x,hx,_⟩:=h;cases hx
 | a::t,hm,h=>by
  rw[af8,af8];have mono:=aee (l:=t) (λx hx=>hm x (aaj _ hx));have ha:=hm a aan;by_cases hw:q a=true∧p a=false
  ·rw[hw.1,hw.2];simp;omega
  ·have:∃x∈t,q x=true∧p x=false:=by
    obtain ⟨x,hx,hq⟩:=h;rcases List.mem_cons.mp hx with rfl | hx
    ·exact absurd hq hw
    ·exact ⟨x,hx,hq⟩
   have ih:=yo (λx hx=>hm x (aaj _ hx)) this;cases hp:p a with
   | true=>rw[ha hp];simp;omega
   | false=>cases q a <;> simp <;> omega
noncomputable def rank (n:Nat) (lt:Nat→Nat→Bool) (i:Nat):Int:=(((aat n).countP λk=>lt k i:Nat):Int)
structure Ord (n:Nat) (lt:Nat→Nat→Bool):Prop where
 irr:∀i,i < n→lt i i=false
 tr:∀i j k,i < n→j < n→k < n→lt i j=true→lt j k=true→lt i k=true
 neg:∀i j k,i < n→j < n→k < n→lt i k=true→lt i j=true∨lt j k=true
theorem Ord.rank {n:Nat} {lt:Nat→Nat→Bool} (o:Ord n lt) {i j:Nat} (hi:i < n) (hj:j < n):decide (rank n lt i < rank n lt j)=lt i j:=by
 cases h:lt i j with
 | true=>
  apply decide_eq_true
  have:(aat n).countP (λk=>lt k i) < (aat n).countP λk=>lt k j:=yo (λk hk e=>o.tr k i j (List.mem_range.mp hk) hi hj e h) ⟨i,List.mem_range.mpr hi,h,o.irr i hi⟩;unfold L2.rank;omega
 | false=>
  apply decide_eq_false
  have:(aat n).countP (λk=>lt k j)≤(aat n).countP λk=>lt k i:=aee λk hk e=>by
   rcases o.neg k i j (List.mem_range.mp hk) hi hj e with e | e
   ·exact e
   ·rw[h] at e;cases e
  unfold L2.rank;omega
noncomputable def ltS (x y:Str):Bool:=decide (x.cps.toList < y.cps.toList)
theorem lg (x:Str):ltS x x=false:=decide_eq_false (List.lt_irrefl _)
theorem vi {x y z:Str} (h1:ltS x y=true) (h2:ltS y z=true):ltS x z=true:=decide_eq_true (List.lt_trans (of_decide_eq_true h1) (of_decide_eq_true h2))
theorem zz (x y:Str):ltS x y=true∨x=y∨ltS y x=true:=by
 by_cases h1:x.cps.toList < y.cps.toList
 ·exact .inl (decide_eq_true h1)
 by_cases h2:y.cps.toList < x.cps.toList
 ·exact .inr (.inr (decide_eq_true h2))
 exact .inr (.inl (str_eq.mpr (List.le_antisymm (List.not_lt.mp h2) (List.not_lt.mp h1))))
theorem Gv {x z:Str} (y:Str) (h:ltS x z=true):ltS x y=true∨ltS y z=true:=by
 rcases zz x y with e | e | e
 ·exact .inl e
 ·subst e;exact .inr h
 ·exact .inr (vi e h)
section
variable {P:Program} {w:World} {A:Around} {H:Hp}
theorem L7 {zs:List Str}:En P w A H (zs.map V.str) (rank zs.length λi j=>ltS (zs.getD i "") (zs.getD j "")):=by
 intro s vs hok r h2;have hlen:=r.length;rw[aa1] at hlen;have at':∀i,i < zs.length→∃t,vs.getD i Value.none=.str (zs.getD i "") t:=λi hi=>by
  obtain ⟨u,hu,t,rfl⟩:=r.get (i:=i) (x:=.str (zs.getD i "")) (by rw[aa7,aa0 hi,aa4,aa0 hi];rfl);exact ⟨t,by rw[aa4,hu];rfl⟩
 have o:Ord zs.length λi j=>ltS (zs.getD i "") (zs.getD j ""):=⟨λ_ _=>lg _,λ_ _ _ _ _ _ a b=>vi a b,λ_ j _ _ _ _ a=>Gv _ a⟩;have sa:StrsAre vs (vs.map strOf):=strsAre_map vs λv hv=>by
  obtain ⟨i,hi,e⟩:=List.mem_iff_getElem.mp hv;obtain ⟨t,et⟩:=at' i (by omega);rw[aa4,aa0 hi] at et;exact ⟨_,t,by rw[←e];exact et⟩
 obtain ⟨v₁,v₂,rest,rfl⟩:∃v₁ v₂ rest,vs=v₁::v₂::rest:=by
  match vs,h2 with
  | v₁::v₂::rest,_=>exact ⟨v₁,v₂,rest,rfl⟩
 rw[keyKind_strs sa];refine wpAny_pure ⟨rfl,λi j C hi hj hC=>?_⟩;obtain ⟨t,e1⟩:=at' i (by omega);obtain ⟨u,e2⟩:=at' j (by omega);show wpAny (model P w) A (keyLt' oneType' _ _) C _ s
 rw[e1,e2];refine PySem.W.kas_lt_str ?_;rw[o.rank (by omega) (by omega)] at hC;exact hC
end
end L2
namespace L2
open PySem PySem.Spec PyProof.Rows
def K8:V→List V→Hp→VK→Prop:=λx xs H Q=>∃a y z o,x=.ref a∧xs=[y,z]∧jz H a y o∧Q (o.getD z) H
section
variable {X:Cx}
theorem K4 (hu:X.A.units+1 < cLine):MtR X "dict.get" K8:=by
 intro pins s σ H x xs v us Q I rx r h;obtain ⟨a,y,z,o,rfl,rfl,g,q⟩:=h;cases (show v=Value.ref a from rx)
 cases r with
 | cons ry rr=>
  cases rr with
  | cons rz rr=>
   cases rr
   rename_i u1 u2
   rcases g with ⟨kvs,k,e,ey,l⟩ | ⟨kvs,k,b,e,ey,eb,l⟩
   ·subst ey;obtain ⟨_,hd,vs,rel,dd⟩:=xt I.hok e;refine call_meetsIn PySem.F.slot_dict_get dd.typeIs PySem.F.entry_dict_get (PySem.F.args_dict_get_3 _ _ _) (meets_dict_get_default (bj X.prog X.w) a (rg ry) hd u2) ⟨_,dd.mapOf,⟨_,H,I.tok _,?_,q⟩⟩;rw[l];exact m5.getD (rel.val k) rz
   ·subst ey;cases (show u1=Value.ref b from ry)
    obtain ⟨_,hd,xs,rel,dd⟩:=ym I.hok e;have rv:=rel.val k;rw[←l] at rv;refine wpAny_call_entry PySem.F.slot_dict_get dd.typeIs PySem.F.entry_dict_get ?_ (PySem.F.args_dict_get_3 _ _ _);show wpAny _ _ (dictGet a (.ref b) >>=_) _ _ s
    refine wpAny_bind (wpAny_dictGet_heap (tupleKind_room_in1 hu) (mf I.hok eb) dd ?_);have g:=m5.getD rv rz;cases hf:atKey xs k with
    | some p=>
     rw[hf] at g;exact wpAny_pure ⟨p.2,rfl,⟨_,H,I.tok _,g,q⟩⟩
    | none=>
     rw[hf] at g;show wpAny _ _ (Builtin.Dict.missed a (.ref b) >>=_) _ _ _
     exact wpAny_bind (wpAny_missed_other hd (wpAny_pure ⟨u2,rfl,⟨_,H,I.tok _,g,q⟩⟩))
theorem Ii {K:PySem.W.Frag} {a:Addr} {kvs:List (List Key×V)} {H:Hp} (h:H a=some (.dT kvs)):tyV K "dict" (.ref a) H:=.inr (.inr (.inl ⟨rfl,.inr ⟨kvs,h⟩⟩))
end
end L2
namespace L2
open PySem PySem.Spec PyProof.Rows
theorem Inv.E5 {X:Cx} {pins:List (Addr×Obj)} {σ:St} {H:Hp} {s:Shared} {h':Heap} {t':Nat} {fp:List Addr} (I:Inv X pins σ H s) (k:∀b o,b∉fp→s.heap.get? b=some o→h'.get? b=some o) (hf:∀b∈fp,qr X pins H b):Inv X pins σ H { s with heap:=h',toks:=t' }:=by
 have nfp:∀b u,H b=some u→b∉fp:=λb u e z=>by rw[(hf b z).1] at e;cases e
 refine I.step (g':=s.gens) (d':=s.drawn) (ch:=fp) (λb hb=>?_) (λb o _ _ hc e _=>k b o hc e) (λb o _ _ hc e _=>⟨o.slots,k b o hc e⟩) (λ_ _ _ _ n=>n)
  (λb o hc e=>⟨o,k b o hc e⟩) (λ_ _ e=>e) (λ_ _ _ e=>e) (λb ps e=>⟨#[],by rw[e];simp⟩) (λm hm=>?_) (λb u e=>?_) I.bare
 ·obtain ⟨f0,f1,f2,f3,f4,f5⟩:=hf b hb;exact ⟨f3,f1,f4,f5⟩
 ·exact hm.at λo e=>k _ o (λz=>(hf _ z).2.1 rfl) e
 ·exact (I.hok b u e).xn (λc v hc q=>k c v (by
   rcases hc with rfl | hc
   ·exact nfp _ u e
   ·exact nfp _ _ hc) q) (λ_ q=>q) λ_ _ q=>q
section
variable {X:Cx}
end
end L2
namespace Pc
open PySem PySem.Spec L2 PyProof.Rows
theorem b7 {α:Type} (l:List α) (k:Int) (h0:0≤k) (h1:k < (l.length:Int)):∃c,atI l k=some c∧c∈l:=by
 have hk:k.toNat < l.length:=by omega
 have e:k=((k.toNat:Nat):Int):=by omega
 have q:atI l ((k.toNat:Nat):Int)=some l[k.toNat]:=bo (aa0 hk);rw[←e] at q;exact ⟨_,q,ab3 hk⟩
end Pc
namespace Pc
noncomputable def eat:Nat→List Nat→Option Nat
 | 0,_=>some 0
 | _+1,[]=>none
 | l+1,a::r=>(eat (l+a) r).map (·+1)
noncomputable def pend:Nat→List Nat→Option Nat
 | l,[]=>some l
 | 0,_::_=>none
 | l+1,a::r=>pend (l+a) r
noncomputable def starts:Nat→List Nat→List Nat
 | _,[]=>[]
 | p,a::r=>p::(starts (p+1) r).drop a
theorem kf (r:List Nat):eat 0 r=some 0:=by cases r <;> rfl
theorem eg (l a:Nat) (r:List Nat):eat (l+1) (a::r)=(eat (l+a) r).map (·+1):=rfl
theorem o8:∀(xs ys:List Nat) (l:Nat),pend l (xs++ys)=(pend l xs).bind λm=>pend m ys
 | [],ys,l=>by cases l <;> rfl
 | a::r,ys,0=>rfl
 | a::r,ys,l+1=>by
  show pend (l+a) (r++ys)=(pend (l+a) r).bind _
  exact o8 r ys (l+a)
theorem Ci (l a:Nat) (h:0 < l):pend l [a]=some (l - 1+a):=by
 cases l with
 | zero=>omega
 | succ l=>show some (l+a)=some (l+1 - 1+a);rw[adu]
theorem xw (xs:List Nat) (a l d:Nat) (h:pend l xs=some d) (hd:0 < d):pend l (xs++[a])=some (d - 1+a):=by
 rw[o8,h];exact Ci d a hd
theorem wb:∀(r:List Nat) (l n:Nat),eat l r=some n→n≤r.length
 | r,0,n,h=>by rw[kf] at h;cases h;exact aa8 _
 | [],l+1,n,h=>by cases h
 | a::r,l+1,n,h=>by
  rw[eg] at h;obtain ⟨m,hm,rfl⟩:=Option.map_eq_some_iff.mp h;have:=wb r (l+a) m hm;rw[aal];omega
theorem q5:∀(r:List Nat) (l:Nat),pend l r=some 0→eat l r=some r.length
 | [],l,h=>by
  cases h
  rfl
 | a::r,0,h=>by cases h
 | a::r,l+1,h=>by
  rw[eg,q5 r (l+a) h];rfl
theorem yy (r:List Nat) (l:Nat) (h:pend l r=some 0) (p:Nat):∃m,pend m (r.drop p)=some 0:=by
 have e:r=r.take p++r.drop p:=(aba p r).symm;rw[e,o8] at h;cases q:pend l (r.take p) with
 | none=>rw[q] at h;cases h
 | some m=>rw[q] at h;exact ⟨m,h⟩
theorem Jt {m:Nat} {r:List Nat} (h:pend m r=some 0) (hr:r≠[]):0 < m:=by
 cases r with
 | nil=>exact absurd rfl hr
 | cons a r=>
  cases m with
  | zero=>cases h
  | succ m=>omega
theorem wq:∀(r:List Nat) (l m:Nat),pend (l+m) r=some 0→∃n,eat l r=some n∧pend m (r.drop n)=some 0
 | r,0,m,h=>⟨0,kf r,by rw[abt] at h;exact h⟩
 | [],l+1,m,h=>by
  have:l+1+m=0:=aa3 h;omega
 | a::r,l+1,m,h=>by
  have e:l+1+m=(l+m)+1:=by omega
  rw[e] at h;have h':pend (l+a+m) r=some 0:=by
   have e2:l+a+m=l+m+a:=by omega
   rw[e2];exact h
  obtain ⟨n,h1,h2⟩:=wq r (l+a) m h';exact ⟨n+1,by rw[eg,h1];rfl,h2⟩
theorem qy:∀(r:List Nat) (l n p:Nat),eat l r=some n→(starts p r).drop l=starts (p+n) (r.drop n)
 | r,0,n,p,h=>by rw[kf] at h;cases h;rfl
 | [],l+1,n,p,h=>by cases h
 | a::r,l+1,n,p,h=>by
  rw[eg] at h;obtain ⟨m,hm,rfl⟩:=Option.map_eq_some_iff.mp h;show ((starts (p+1) r).drop a).drop l=starts (p+(m+1)) (r.drop m)
  rw[acg,aes a l,qy r (l+a) m (p+1) hm];congr 1
  omega
theorem vo:∀(r:List Nat) (l p:Nat),pend l r=some 0→(starts p r).length=l
 | [],l,p,h=>by
  have:l=0:=aa3 h;rw[this];rfl
 | a::r,0,p,h=>by cases h
 | a::r,l+1,p,h=>by
  have ih:=vo r (l+a) (p+1) h;show ((starts (p+1) r).drop a).length+1=l+1
  rw[aah,ih];omega
theorem qx (r:List Nat) (p:Nat) (h:r≠[]):∃t,starts p r=p::t:=by
 cases r with
 | nil=>exact absurd rfl h
 | cons a r=>exact ⟨_,rfl⟩
theorem Hw (ar:List Nat) (p:Nat) (h:p < ar.length):starts p (ar.drop p)=p::(starts (p+1) (ar.drop (p+1))).drop (ar.getD p 0):=by
 rw[aav h];have e:ar.getD p 0=ar[p]:=by rw[aa4,aa0 h];rfl
 rw[e];rfl
end Pc
namespace Pc
end Pc
namespace Pc
open PySem PySem.Spec L2 PyProof.Rows
noncomputable abbrev parts:List (Key×V):=[(Sum.inr "add",.int 2),(Sum.inr "sub",.int 2),(Sum.inr "mul",.int 2),(Sum.inr "neg",.int 1)]
noncomputable def arS (z:Str):Nat:=if z="add" then 2 else if z="sub" then 2 else if z="mul" then 2 else if z="neg" then 1 else 0
noncomputable def arV:V→Nat
 | .str z=>arS z
 | _=>0
def isW (v:V):Prop:=∃k:Key,v=kV k
theorem Hn (k:Key):(dh parts k).getD (.int 0)=.int (arV (kV k)):=by
 cases k with
 | inl i=>rfl
 | inr z=>
  show (dh parts (Sum.inr z)).getD (.int 0)=.int (arS z)
  unfold arS;by_cases h1:z="add"
  ·subst h1;rw[bx rfl,if_pos rfl];rfl
  rw[bz (λe=>h1 (Sum.inr.inj e).symm),if_neg h1];by_cases h2:z="sub"
  ·subst h2;rw[bx rfl,if_pos rfl];rfl
  rw[bz (λe=>h2 (Sum.inr.inj e).symm),if_neg h2];by_cases h3:z="mul"
  ·subst h3;rw[bx rfl,if_pos rfl];rfl
  rw[bz (λe=>h3 (Sum.inr.inj e).symm),if_neg h3];by_cases h4:z="neg"
  ·subst h4;rw[bx rfl,if_pos rfl];rfl
  rw[bz (λe=>h4 (Sum.inr.inj e).symm),if_neg h4];rfl
theorem arS_le (z:Str):arS z≤2:=by
 unfold arS;repeat' split
 all_goals decide
theorem uw (v:V):arV v≤2:=by cases v <;> first | exact arS_le _ | exact aa8 _
theorem qw {z:Str} (h:0 < arS z):z="add"∨z="sub"∨z="mul"∨z="neg":=by
 unfold arS at h;by_cases h1:z="add"
 ·exact .inl h1
 by_cases h2:z="sub"
 ·exact .inr (.inl h2)
 by_cases h3:z="mul"
 ·exact .inr (.inr (.inl h3))
 by_cases h4:z="neg"
 ·exact .inr (.inr (.inr h4))
 rw[if_neg h1,if_neg h2,if_neg h3,if_neg h4] at h;exact absurd h (by decide)
def isTerm (ws:List V):Prop:=pend 1 (ws.map arV)=some 0
def vd:Sp:=λvs H Q _=>∃v,vs=[v]∧isW v∧Q (.int (arV v)) H
end Pc
namespace Pc
open PySem PySem.Spec L2 PyProof.Rows
def cu (H:Hp) (d b:Addr) (ns:List Int) (n:Nat):Prop:=H d=some (.lst [.ref b,.int (n:Int)])∧H b=some (.lst (adi V.int ns))
def aq (d:Addr) (H H':Hp):Prop:=∀b o,b≠d→H b=some o→H' b=some o
theorem aq.refl (d:Addr) (H:Hp):aq d H H:=λ_ _ _ h=>h
theorem aq.trans {d:Addr} {H H1 H2:Hp} (a:aq d H H1) (b:aq d H1 H2):aq d H H2:=λc o n h=>b c o n (a c o n h)
theorem aq.of {d:Addr} {H H':Hp} (a:ak H H'):aq d H H':=λb o _ h=>a b o h
theorem aq.upd {d p:Addr} {H H':Hp} (a:aq d H H') (hp:H p=none) (o:HO):aq d H (L2.upd H' p o):=λb u n h=>by rw[af (ag h hp)];exact a b u n h
theorem cu.ne {H:Hp} {d b:Addr} {ns:List Int} {n:Nat} (h:cu H d b ns n):b≠d:=df h.2 h.1 (by intro e;cases ns <;> simp at e)
theorem cu.next {H H':Hp} {d b:Addr} {ns:List Int} {n k:Nat} (h:cu H d b ns n) (s:aq d H H') (e:H' d=some (.lst [.ref b,.int (k:Int)])):cu H' d b ns k:=⟨e,s b _ h.ne h.2⟩
theorem cu.same {H H':Hp} {d b:Addr} {ns:List Int} {n:Nat} (h:cu H d b ns n) (s:ak H H'):cu H' d b ns n:=⟨s _ _ h.1,s _ _ h.2⟩
noncomputable def rh (H:Hp) (p:Addr):Nat:=match H p with | some (.lst ws)=>ws.length | _=>0
theorem n0 {H:Hp} {p:Addr} {ws:List V} (h:H p=some (.lst ws)):rh H p=ws.length:=by unfold rh;rw[h]
def gn:Sp:=λvs H Q _=>∃(d b:Addr) (ns:List Int) (n:Nat),vs=[.ref d]∧cu H d b ns n∧n≤100000∧∀(c:Int) (H':Hp),aq d H H'→H' d=some (.lst [.ref b,.int ((n+1:Nat):Int)])→Q (.int c) H'
theorem la {z:Str}:∀{xs:List V},inV (.str z) xs=true→.str z∈xs:=by
 intro xs h;unfold inV at h;obtain ⟨y,hy,e⟩:=List.any_eq_true.mp h;cases y with
 | str x=>
  have e':x=z:=by simpa [eqV] using e
  exact e' ▸ hy
 | _=>simp[eqV] at e
theorem Em (z:Str) (n:Nat):(n6 z n).cps.toList=(aap n z.cps.toList).flatten:=by unfold n6;simp
theorem Am:arS "neg"=1:=by decide+kernel
theorem aq.free {d t:Addr} {H H':Hp} {o:HO} (s:aq d H H') (hd:H' d=some o) (ht:H' t=none):H t=none:=by
 cases e:H t with
 | none=>rfl
 | some u=>
  by_cases h:t=d
  ·subst h;rw[hd] at ht;cases ht
  ·rw[s t u h e] at ht;cases ht
theorem Ln (ns:List Int) (lo hi:Option Int):∃ms:List Int,cn (ns.map V.int) lo hi=ms.map V.int∧ms.length≤ns.length:=by
 refine ⟨_,by unfold cn;rw[←acj,←aeo],?_⟩;rw[aaw,aah];omega
end Pc
namespace Pc
open PySem PySem.Spec L2 PyProof.Rows
theorem Gj:∀(r:List Nat) (l:Nat),pend l r=some 0→l≤r.length
 | [],l,h=>by
  have:l=0:=aa3 h;omega
 | a::r,0,h=>by cases h
 | a::r,l+1,h=>by
  have:=Gj r (l+a) h;rw[aal];omega
theorem zd:∀(r:List Nat) (j k:Nat),eat (j+k) r=(eat j r).bind λs=>(eat k (r.drop s)).map (s+·)
 | r,0,k=>by
  rw[kf,abt];show eat k r=(eat k r).map (0+·)
  cases eat k r with
  | none=>rfl
  | some n=>show some n=some (0+n);rw[abt]
 | [],j+1,k=>by
  rw[show j+1+k=(j+k)+1 by omega];rfl
 | a::r,j+1,k=>by
  rw[show j+1+k=(j+k)+1 by omega,eg,eg,show j+k+a=j+a+k by omega,zd r (j+a) k];cases eat (j+a) r with
  | none=>rfl
  | some s=>
   show ((eat k (r.drop s)).map (s+·)).map (·+1)=(eat k (r.drop s)).map (s+1+·)
   cases eat k (r.drop s) with
   | none=>rfl
   | some n=>show some (s+n+1)=some (s+1+n);congr 1;omega
theorem zm:∀(r:List Nat) (k n:Nat),eat (k+1) r=some n→0 < n
 | [],k,n,h=>by cases h
 | a::r,k,n,h=>by
  rw[eg] at h;obtain ⟨m,hm,rfl⟩:=Option.map_eq_some_iff.mp h;omega
theorem kh (ws:List V) (p:Nat) (h:p≤ws.length):cn ws none (some (p:Int))=ws.take p:=by
 unfold cn;rw[HT.Gy,HT.Bb,aff h];rfl
theorem As (ws:List V) (p n:Nat) (h:p+n≤ws.length):cn ws (some ((p:Int)+(n:Int))) none=ws.drop (p+n):=by
 unfold cn;rw[show (p:Int)+(n:Int)=((p+n:Nat):Int) by omega,HT.Gy,HT.Bb,aff h];apply abu
 rw[aah];omega
theorem Ds {ws:List V} (h:isTerm ws) {p:Nat} {x:V} (hx:ws[p]?=some x):∃m,pend (m+arV x) ((ws.drop (p+1)).map arV)=some 0:=by
 have hp:p < ws.length:=(List.getElem?_eq_some_iff.mp hx).1;have hd:ws.drop p=x::ws.drop (p+1):=by
  rw[aav hp];congr 1
  rw[aa0 hp] at hx;exact aa3 hx
 obtain ⟨m,hm⟩:=yy _ 1 h p;rw[←acj,hd] at hm;cases m with
 | zero=>cases hm
 | succ m'=>exact ⟨m',hm⟩
theorem Ap {x:V} (hx:isW x):(inV x [V.str "add",V.str "sub",V.str "mul"]=true)↔arV x=2:=by
 obtain ⟨k,rfl⟩:=hx;cases k with
 | inl i=>
  constructor
  ·intro h;exact absurd h (by simp[inV,eqV,kV])
  ·intro h;exact absurd h (by show ¬(0=2);decide)
 | inr z=>
  show (inV (.str z) _=true)↔arS z=2
  constructor
  ·intro h;have:=la h;simp only[aaq,aad,or_false,V.str.injEq] at this;rcases this with rfl | rfl | rfl <;> decide+kernel
  ·intro h;rcases qw (z:=z) (by omega) with rfl | rfl | rfl | rfl
   ·decide+kernel
   ·decide+kernel
   ·decide+kernel
   ·rw[Am] at h;exact absurd h (by decide)
noncomputable def intAt (σ:L2.St) (i:Nat):Nat:=match σ[i]? with | some (some (.int x))=>x.toNat | _=>0
def wd (K:PySem.W.Frag):Sp:=λvs H Q _=>∃(t:Addr) (ws:List V) (p n:Nat),vs=[.ref t,.int (p:Int)]∧SqT K H t ws∧(∀v∈ws,isW v)∧ws.length≤1000∧eat 1 ((ws.drop p).map arV)=some n∧∀H',ak H H'→Q (.int ((p:Int)+(n:Int))) H'
end Pc
namespace L2.Srt
open PySem PySem.W PyProof.Rows PySem.Spec
section
variable {prog:Program} {w:World} {A:Around} {E:Value→Shared→Prop} {s:Shared}
end
end L2.Srt
namespace L2
open PySem PySem.Spec PyProof.Rows Srt
section
variable {X:Cx}
theorem Cz {h:Heap} {vs:List Value} {out:Array Value} {b:Addr} {o:Obj} (hb:h.get? b=some o):(sortedHeap (h.push (seqObj "list" vs.toArray 0)) h.objs.size vs out).get? b=some o:=by
 have hlt:b < h.objs.size:=Heap.lt_size hb;unfold sortedHeap;have sz:(h.push (seqObj "list" vs.toArray 0)).objs.size=h.objs.size+1:=size_push' _ _;rw[Heap.get?_update_ne _ _ _ _ (aaf hlt),Heap.get?_push_ne _ _ _ (by rw[size_push',Heap.size_update,sz];exact aaf (aam hlt (by omega))),Heap.get?_push_ne _ _ _ (by rw[Heap.size_update,sz];exact aaf (aam hlt (by omega))),Heap.get?_update_ne _ _ _ _ (aaf hlt),Heap.get?_push_ne _ _ _ (aaf hlt)];exact hb
theorem Hx {h:Heap} {vs:List Value} {out:Array Value}:∃e,(sortedHeap (h.push (seqObj "list" vs.toArray 0)) h.objs.size vs out).get? h.objs.size=some (seqObj "list" out e):=by
 obtain ⟨e1,h1⟩:∃e,((h.push (seqObj "list" vs.toArray 0)).update h.objs.size (Obj.mapSeq λ_=>#[])).get? h.objs.size=some (seqObj "list" #[] e):=⟨_,get?_update_seq (Heap.get?_push_size _ rfl) _⟩;have sz:(h.push (seqObj "list" vs.toArray 0)).objs.size=h.objs.size+1:=size_push' _ _;unfold sortedHeap;refine ⟨_,get?_update_seq (xs:=#[]) (n:=e1) ?_ _⟩;rw[Heap.get?_push_ne _ _ _ (by rw[size_push',Heap.size_update,sz];exact aaf (by omega)),Heap.get?_push_ne _ _ _ (by rw[Heap.size_update,sz];exact aaf (by omega))];exact h1
end
end L2
namespace L2.RvR
open PySem PySem.Spec PySem.Calls PyProof.Rows
section
variable {prog:Program} {w:World} {A:Around} {E:Value→Shared→Prop} {s:Shared}
end
end L2.RvR
namespace L2
open PySem PySem.Spec PyProof.Rows RvR
noncomputable def Itd (n:Nat):It:=⟨λi _=>i < n,λi H x H'=>H'=H∧x=.int ((n:Int) - 1 - (i:Int)),λi _=>n≤i⟩
theorem Je {P:Program} {w:World} {K:PySem.W.Frag} {tg:Expr} (it:Addr) (n:Nat):Turn P w K tg (Itd n) [it] it (λi h=>IsRangeIter h it ((n:Int) - 1+(i:Nat)*(-1)) ((n:Int) - (i:Nat)) (-1)) where
 mem:=by simp
 obj:=λi h st b hb=>by
  have e:b=it:=by simpa using hb
  subst e;exact ⟨_,st,λv z=>nomatch (show Data.fields _=Data.cell v from z)⟩
 keep:=λi h h' st k=>k it (by simp) _ st
 item:=by
  intro X hP hw hK hc i pins s σ H E I hf st hg;subst hP hw hK;obtain ⟨f0,f1,f2,f3,f4,f5⟩:=hf it (by simp);refine (Walks.range (prog:=X.prog) (w:=X.w) (I.ok.hd hc) it ((n:Int) - 1) (-1) n).item i s _ _ hg st λv h' tk hv st' kk=>?_;obtain ⟨t,rfl⟩:=hv;have I1:Inv X pins σ H { s with heap:=h',toks:=tk }:=I.turned (λb o hb e=>kk b o (by simpa using hb) e) f0 f1 f3 f4 f5;refine ⟨_,rfl,xv (s:={ s with heap:=h',toks:=tk }) (n:="range_iterator") st' rfl rfl (by decide) ⟨.int ((n:Int) - 1 - (i:Int)),H,I1,⟨t,?_⟩,⟨rfl,rfl⟩,st',λb hb=>(hf b hb).1⟩⟩;congr 1
  omega
 done:=by
  intro X hP hw hK hc i pins s σ H E I hf st hg;subst hP hw hK;obtain ⟨f0,f1,f2,f3,f4,f5⟩:=hf it (by simp);have hg:n≤i:=hg;exact wpAny_pyNext_range_end (I.ok.hd hc) st (by omega) λh' eb=>⟨rfl,I.turned (t':=s.toks) (λb o hb e=>eb b o hb e) f0 f1 f3 f4 f5⟩
 self:=λ_ _ _ _ _ st h=>wpAny_pyIter_rangeiter st h
section
variable {X:Cx} {tg:Expr}
end
end L2
namespace L2
open PySem PySem.Spec PyProof.Rows
end L2
namespace Pc
open PySem PySem.Spec L2 PyProof.Rows
noncomputable abbrev plV (q:Nat):V:=V.int ((q:Nat):Int)
end Pc
namespace Pc
open PySem PySem.Spec L2 PyProof.Rows
noncomputable def ig:V:=.str (Str.ofString "any")
noncomputable def gq:V:=.str (Str.ofString "var")
noncomputable def lN:Str:=Str.ofString "n"
noncomputable def lV:Str:=Str.ofString "v"
noncomputable def lH:Str:=Str.ofString "h"
noncomputable def lO:Str:=Str.ofString ""
noncomputable def cm (kinds:List Str) (v:V):Str:=if v=ig then lN else if v=gq then lV else if inV v (kinds.map V.str)=true then lH else lO
noncomputable def isStr:V→Bool
 | .str _=>true
 | _=>false
noncomputable def lies (l:Str) (v x:V):Bool:=if l=lH then true else if l=lN then !isStr x else if l=lV then isStr x&&decide (arV x=0) else decide (v=x)
def jk (K:PySem.W.Frag):Sp:=λvs H Q _=>∃(v:V) (kt:Addr) (kinds:List Str),vs=[v,.ref kt]∧isW v∧SqT K H kt (kinds.map V.str)∧Q (.str (cm kinds v)) H
def zw:Sp:=λvs H Q _=>∃(l:Str) (v x:V),vs=[.str l,v,x]∧isW v∧isW x∧Q (.bl (lies l v x)) H
theorem isW.sc {v:V} (h:isW v) (z:Str):scal v (.str z)=true:=by
 obtain ⟨k,rfl⟩:=h;cases k <;> rfl
theorem isW.sc2 {v x:V} (h:isW v) (g:isW x):scal v x=true:=by
 obtain ⟨k,rfl⟩:=h;obtain ⟨m,rfl⟩:=g;cases k <;> cases m <;> rfl
theorem isW.flat {v:V} (h:isW v):ij v=true:=by
 obtain ⟨k,rfl⟩:=h;exact Ad k
structure Und where
 hs:List Nat
 ns:List V
 vs:List V
noncomputable def Und.put (u:Und) (l:Str) (p:Nat) (x:V):Und:=if l=lH then ⟨u.hs++[p],u.ns,u.vs⟩ else if l=lN then ⟨u.hs,u.ns++[x],u.vs⟩ else if l=lV then ⟨u.hs,u.ns,u.vs++[x]⟩ else u
noncomputable def endAt (ws:List V) (p:Nat):Nat:=p+(eat 1 ((ws.drop p).map arV)).getD 0
noncomputable def dy (kinds:List Str) (ws:List V):List V→Nat→Und→Option Und
 | [],_,u=>some u
 | v::r,p,u=>if lies (cm kinds v) v (ws.getD p .non)=true then dy kinds ws r (if cm kinds v=lH then endAt ws p else p+1) (u.put (cm kinds v) p (ws.getD p .non)) else none
def Kd (H:Hp) (t:Addr) (u:Und):Prop:=∃t1 t2 t3:Addr,H t=some (.tup [.ref t1,.ref t2,.ref t3])∧H t1=some (.tup (u.hs.map plV))∧H t2=some (.tup u.ns)∧H t3=some (.tup u.vs)
structure UndOk (u:Und):Prop where
 n:(∀v∈u.ns,isW v)∧u.ns.length≤1000
 v:(∀v∈u.vs,isW v)∧u.vs.length≤1000
 h:u.hs.length≤1000
def Dg (u:Und):Prop:=(∀v∈u.ns,isW v)∧∀v∈u.vs,isW v
theorem Dg.put {u:Und} (h:Dg u) {x:V} (hx:isW x) (l:Str) (p:Nat):Dg (u.put l p x):=by
 unfold Und.put;have ap:∀{L:List V},(∀v∈L,isW v)→∀v∈L++[x],isW v:=λ{L} hL v hv=>by
  rcases List.mem_append.mp hv with g | g
  ·exact hL v g
  ·rw[List.mem_singleton.mp g];exact hx
 by_cases c1:l=lH
 ·rw[if_pos c1];exact h
 rw[if_neg c1];by_cases c2:l=lN
 ·rw[if_pos c2];exact ⟨ap h.1,h.2⟩
 rw[if_neg c2];by_cases c3:l=lV
 ·rw[if_pos c3];exact ⟨h.1,ap h.2⟩
 rw[if_neg c3];exact h
def Kinds (kinds:List Str):Prop:=∀z∈kinds,arS z=0∧V.str z≠ig∧V.str z≠gq
def told (r:Option Und) (H':Hp) (Q:VK):Prop:=match r with
 | none=>Q .non H'
 | some u=>∀(t:Addr) (H2:Hp),ak H' H2→Kd H2 t u→UndOk u→Q (.ref t) H2
theorem yb {H':Hp} {Q:VK} (h:Q .non H'):told none H' Q:=h
def Ai (K:PySem.W.Frag):Sp:=λvs H Q _=>∃(st kt wt:Addr) (sh:List V) (kinds:List Str) (ws:List V) (p n:Nat),vs=[.ref st,.ref kt,.ref wt,.int (p:Int)]∧SqT K H st sh∧SqT K H kt (kinds.map V.str)∧SqT K H wt ws∧Kinds kinds∧(∀v∈sh,isW v)∧(∀v∈ws,isW v)∧isTerm sh∧eat 1 ((ws.drop p).map arV)=some n∧sh.length≤1000∧ws.length≤1000∧∀H',ak H H'→told (dy kinds ws sh p ⟨[],[],[]⟩) H' Q
theorem gh {kinds:List Str} {v:V} (hv:isW v):(v=ig∧cm kinds v=lN)∨(v=gq∧cm kinds v=lV)∨((∃z∈kinds,v=.str z)∧cm kinds v=lH)∨(cm kinds v=lO∧inV v (kinds.map V.str)=false):=by
 unfold cm;by_cases h1:v=ig
 ·exact .inl ⟨h1,if_pos h1⟩
 by_cases h2:v=gq
 ·exact .inr (.inl ⟨h2,by rw[if_neg h1,if_pos h2]⟩)
 cases h3:inV v (kinds.map V.str) with
 | true=>
  refine .inr (.inr (.inl ⟨?_,by rw[if_neg h1,if_neg h2,if_pos rfl]⟩));obtain ⟨k,rfl⟩:=hv;cases k with
  | inl i=>
   exfalso
   clear h1 h2;induction kinds with
   | nil=>cases h3
   | cons z r ih=>exact ih h3
  | inr z=>
   obtain ⟨y,hy,e⟩:=List.mem_map.mp (la h3);exact ⟨y,hy,e.symm⟩
 | false=>exact .inr (.inr (.inr ⟨by rw[if_neg h1,if_neg h2,if_neg (by decide)],rfl⟩))
theorem wk:arV ig=0:=by decide+kernel
theorem ui:arV gq=0:=by decide+kernel
theorem lets:lN≠lH∧lV≠lH∧lO≠lH∧lV≠lN∧lO≠lN∧lO≠lV:=by decide+kernel
theorem jb {kinds:List Str} {ws r:List V} {v x:V} {q d m:Nat} (hk:Kinds kinds) (hv:isW v) (hx:ws[q]?=some x) (hxw:isW x) (hp:pend (d+1) (arV v::r.map arV)=some 0) (he:eat (d+1) ((ws.drop q).map arV)=some m)
  (hl:lies (cm kinds v) v x=true):∃d' m',pend d' (r.map arV)=some 0∧eat d' ((ws.drop (if cm kinds v=lH then endAt ws q else q+1)).map arV)=some m':=by
 have hq:q < ws.length:=(List.getElem?_eq_some_iff.mp hx).1;have ed:ws.drop q=x::ws.drop (q+1):=by
  rw[aav hq];congr 1
  rw[aa0 hq] at hx;exact aa3 hx
 obtain ⟨e1,e2,e3,e4,e5,e6⟩:=lets;have hp:pend (d+arV v) (r.map arV)=some 0:=hp;have one:arV v=arV x→cm kinds v≠lH→∃d' m',pend d' (r.map arV)=some 0∧eat d' ((ws.drop (if cm kinds v=lH then endAt ws q else q+1)).map arV)=some m':=λh n=>by
  rw[if_neg n];rw[ed,ab0,eg] at he;obtain ⟨k,hk',_⟩:=Option.map_eq_some_iff.mp he;exact ⟨d+arV v,k,hp,by rw[h];exact hk'⟩
 unfold lies at hl;rcases gh (kinds:=kinds) hv with ⟨rfl,h⟩ | ⟨rfl,h⟩ | ⟨⟨z,hz,rfl⟩,h⟩ | ⟨h,_⟩
 ·refine one ?_ (by rw[h];exact e1);rw[h,if_neg e1,if_pos rfl] at hl;rw[wk];obtain ⟨k,rfl⟩:=hxw;cases k with
  | inl i=>rfl
  | inr y=>cases hl
 ·refine one ?_ (by rw[h];exact e2);rw[h,if_neg e2,if_neg e4,if_pos rfl,ad0] at hl;rw[ui];exact (of_decide_eq_true hl.2).symm
 ·rw[if_pos h];have a0:arV (.str z)=0:=(hk z hz).1;rw[a0] at hp;rw[show d+1=1+d by omega,zd] at he;cases h1:eat 1 ((ws.drop q).map arV) with
  | none=>rw[h1] at he;cases he
  | some n=>
   rw[h1] at he;obtain ⟨k,hk',_⟩:=Option.map_eq_some_iff.mp (show (eat d (((ws.drop q).map arV).drop n)).map (n+·)=some m from he);refine ⟨d,k,hp,?_⟩;unfold endAt;rw[h1,show (some n).getD 0=n from rfl,←acg];rw[←acj] at hk';exact hk'
 ·refine one ?_ (by rw[h];exact e3);rw[h,if_neg e3,if_neg e5,if_neg e6] at hl;rw[of_decide_eq_true hl]
theorem m6 {kinds:List Str} {ws:List V} {v:V} {r:List V} {p:Nat} {u:Und}:dy kinds ws (v::r) p u=if lies (cm kinds v) v (ws.getD p .non)=true then dy kinds ws r (if cm kinds v=lH then endAt ws p else p+1) (u.put (cm kinds v) p (ws.getD p .non)) else none:=rfl
def UAt (H:Hp) (u0 l1 l2 l3:Addr) (u:Und):Prop:=H u0=some (.dK [(Sum.inr lH,.ref l1),(Sum.inr lN,.ref l2),(Sum.inr lV,.ref l3)])∧H l1=some (.lst (u.hs.map plV))∧H l2=some (.lst u.ns)∧H l3=some (.lst u.vs)
theorem UAt.same {H H':Hp} {u0 l1 l2 l3:Addr} {u:Und} (h:UAt H u0 l1 l2 l3 u) (s:ak H H'):UAt H' u0 l1 l2 l3 u:=⟨s _ _ h.1,s _ _ h.2.1,s _ _ h.2.2.1,s _ _ h.2.2.2⟩
theorem Und.Fb (u:Und) (l:Str) (p:Nat) (x:V) {i:Nat} (h:u.hs.length≤i∧u.ns.length≤i∧u.vs.length≤i):(u.put l p x).hs.length≤i+1∧(u.put l p x).ns.length≤i+1∧(u.put l p x).vs.length≤i+1:=by
 obtain ⟨h1,h2,h3⟩:=h;unfold Und.put;by_cases c1:l=lH
 ·rw[if_pos c1];refine ⟨?_,by show u.ns.length≤_;omega,by show u.vs.length≤_;omega⟩;show (u.hs++[p]).length≤_
  rw[aa2,aa9];omega
 rw[if_neg c1];by_cases c2:l=lN
 ·rw[if_pos c2];refine ⟨by show u.hs.length≤_;omega,?_,by show u.vs.length≤_;omega⟩;show (u.ns++[x]).length≤_
  rw[aa2,aa9];omega
 rw[if_neg c2];by_cases c3:l=lV
 ·rw[if_pos c3];refine ⟨by show u.hs.length≤_;omega,by show u.ns.length≤_;omega,?_⟩;show (u.vs++[x]).length≤_
  rw[aa2,aa9];omega
 rw[if_neg c3];exact ⟨by omega,by omega,by omega⟩
theorem UAt.get1 {H:Hp} {u0 l1 l2 l3:Addr} {u:Und} (h:UAt H u0 l1 l2 l3 u):jz H u0 (.str lH) (some (.ref l1)):=.inl ⟨_,.inr lH,.inl h.1,rfl,rfl⟩
theorem UAt.get2 {H:Hp} {u0 l1 l2 l3:Addr} {u:Und} (h:UAt H u0 l1 l2 l3 u):jz H u0 (.str lN) (some (.ref l2)):=.inl ⟨_,.inr lN,.inl h.1,rfl,rfl⟩
theorem UAt.get3 {H:Hp} {u0 l1 l2 l3:Addr} {u:Und} (h:UAt H u0 l1 l2 l3 u):jz H u0 (.str lV) (some (.ref l3)):=.inl ⟨_,.inr lV,.inl h.1,rfl,rfl⟩
theorem UAt.put1 {H:Hp} {u0 l1 l2 l3:Addr} {u:Und} (h:UAt H u0 l1 l2 l3 u) (n10:l1≠u0) (n21:l2≠l1) (n31:l3≠l1) (p:Nat) (x:V):UAt (upd H l1 (.lst (u.hs.map plV++[plV p]))) u0 l1 l2 l3 (u.put lH p x):=by
 unfold Und.put;rw[if_pos rfl];refine ⟨by rw[af n10.symm];exact h.1,?_,by rw[af n21];exact h.2.2.1,by rw[af n31];exact h.2.2.2⟩;rw[ae,aaa];rfl
theorem UAt.put2 {H:Hp} {u0 l1 l2 l3:Addr} {u:Und} (h:UAt H u0 l1 l2 l3 u) (n20:l2≠u0) (n21:l2≠l1) (n32:l3≠l2) (p:Nat) (x:V):UAt (upd H l2 (.lst (u.ns++[x]))) u0 l1 l2 l3 (u.put lN p x):=by
 unfold Und.put;rw[if_neg lets.1,if_pos rfl];exact ⟨by rw[af n20.symm];exact h.1,by rw[af n21.symm];exact h.2.1,ae,by rw[af n32];exact h.2.2.2⟩
theorem UAt.put3 {H:Hp} {u0 l1 l2 l3:Addr} {u:Und} (h:UAt H u0 l1 l2 l3 u) (n30:l3≠u0) (n31:l3≠l1) (n32:l3≠l2) (p:Nat) (x:V):UAt (upd H l3 (.lst (u.vs++[x]))) u0 l1 l2 l3 (u.put lV p x):=by
 unfold Und.put;rw[if_neg lets.2.1,if_neg lets.2.2.2.1,if_pos rfl];exact ⟨by rw[af n30.symm];exact h.1,by rw[af n31.symm];exact h.2.1,by rw[af n32.symm];exact h.2.2.1,ae⟩
theorem Und.put0 (u:Und) (p:Nat) (x:V):u.put lO p x=u:=by
 unfold Und.put;rw[if_neg lets.2.2.1,if_neg lets.2.2.2.2.1,if_neg lets.2.2.2.2.2]
theorem Fz {r:List Nat} {d m:Nat} (h:eat (d+1) r=some m):∃n,eat 1 r=some n:=by
 rw[show d+1=1+d by omega,zd] at h;cases h1:eat 1 r with
 | none=>rw[h1] at h;cases h
 | some n=>exact ⟨n,rfl⟩
structure Rl where
 name:Str
 kind:Str
 price:Int
 shape:List V
def fj (H:Hp) (a:Addr) (r:Rl):Prop:=∃(sa da:Addr) (ds:List V),H a=some (.tup [.str r.name,.str r.kind,.int r.price,.ref sa,.ref da])∧H sa=some (.tup r.shape)∧H da=some (.tup ds)
theorem fj.same {H H':Hp} {a:Addr} {r:Rl} (h:fj H a r) (s:ak H H'):fj H' a r:=by
 obtain ⟨sa,da,ds,h1,h2,h3⟩:=h;exact ⟨sa,da,ds,s _ _ h1,s _ _ h2,s _ _ h3⟩
def dk (H:Hp) (ra:List Addr) (rs:List Rl):Prop:=ra.length=rs.length∧∀(i:Nat) (r:Rl),rs[i]?=some r→∃a,ra[i]?=some a∧fj H a r
theorem dk.same {H H':Hp} {ra:List Addr} {rs:List Rl} (h:dk H ra rs) (s:ak H H'):dk H' ra rs:=⟨h.1,λi r hr=>by
 obtain ⟨a,h1,h2⟩:=h.2 i r hr;exact ⟨a,h1,h2.same s⟩⟩
def cy (H:Hp) (b:Addr) (kinds:List Str) (rs:List Rl):Prop:=∃(kt rt:Addr) (ra:List Addr),H b=some (.tup [.ref kt,.ref rt])∧H kt=some (.tup (kinds.map V.str))∧H rt=some (.tup (ra.map V.ref))∧dk H ra rs
theorem cy.same {H H':Hp} {b:Addr} {kinds:List Str} {rs:List Rl} (h:cy H b kinds rs) (s:ak H H'):cy H' b kinds rs:=by
 obtain ⟨kt,rt,ra,h1,h2,h3,h4⟩:=h;exact ⟨kt,rt,ra,s _ _ h1,s _ _ h2,s _ _ h3,h4.same s⟩
structure Bk (kinds:List Str) (rs:List Rl):Prop where
 kd:Kinds kinds
 nd:(rs.map (·.name)).Nodup
 sh:∀r∈rs,(∀v∈r.shape,isW v)∧isTerm r.shape∧r.shape.length≤100
 len:rs.length≤100
 kn:kinds.Nodup
 kl:kinds.length≤60
 pr:∀r∈rs,1≤r.price
 rk:∀r∈rs,r.kind∈kinds
structure Tw (ws:List V):Prop where
 w:∀v∈ws,isW v∧v≠ig∧v≠gq
 one:isTerm ws
 len:ws.length≤1000
theorem Tw.eat {ws:List V} (h:Tw ws) {p:Nat} (hp:p < ws.length):∃n,eat 1 ((ws.drop p).map arV)=some n:=by
 obtain ⟨m,hm⟩:=yy _ 1 h.one p;rw[←acj] at hm;have hpos:=Jt hm (by intro e;have:=congrArg ac0 e;rw[aa1,aah] at this;simp at this;omega);obtain ⟨d,rfl⟩:∃d,m=d+1:=⟨m - 1,by omega⟩;exact Fz (q5 _ _ hm)
def ze (K:PySem.W.Frag):Sp:=λvs H Q _=>∃(t:Addr) (ws:List V),vs=[.ref t]∧SqT K H t ws∧(∀v∈ws,isW v)∧isTerm ws∧ws.length≤1000∧∀(l:Addr) (H':Hp),ak H H'→H l=none→H' l=some (.lst ((aat ws.length).map λq=>plV (endAt ws q)))→Q (.ref l) H'
def ub (K:PySem.W.Frag):Sp:=λvs H Q _=>∃(st kt wt et:Addr) (sh:List V) (kinds:List Str) (ws:List V) (p:Nat),vs=[.ref kt,.ref st,.ref wt,.ref et,.int (p:Int)]∧SqT K H st sh∧SqT K H kt (kinds.map V.str)∧SqT K H wt ws∧H et=some (.lst ((aat ws.length).map λq=>plV (endAt ws q)))∧Kinds kinds∧(∀v∈sh,isW v)∧isTerm sh∧sh.length≤1000∧Tw ws∧p < ws.length∧∀H',ak H H'→told (dy kinds ws sh p ⟨[],[],[]⟩) H' Q
noncomputable def uy (ws:List V) (p:Nat):List Nat:=starts p ((ws.map arV).drop p)++[ws.length]
theorem M7 (ws:List V):uy ws ws.length=[ws.length]:=by
 unfold uy;rw[ade (by rw[aa1];exact aa6 _)];rfl
theorem Qu {ws:List V} (h:isTerm ws) {p:Nat} {x:V} (hx:ws[p]?=some x):uy ws p=p::(uy ws (p+1)).drop (arV x)∧∃t,(uy ws (p+1)).drop (arV x)=endAt ws p::t:=by
 have hp:p < ws.length:=(List.getElem?_eq_some_iff.mp hx).1;obtain ⟨m,hm⟩:=Ds h hx;have Sl:=vo _ _ (p+1) hm;rw[acj] at Sl hm;have ea:(ws.map arV).getD p 0=arV x:=by rw[aa4,aa7,hx];rfl
 have hst:=Hw (ws.map arV) p (by rw[aa1];exact hp);rw[ea] at hst;obtain ⟨n,hn,_⟩:=wq _ (arV x) m (by rw[aes];exact hm);have hd:=qy _ _ _ (p+1) hn;have hle:=wb _ _ _ hn;have ed:(ws.drop p).map arV=arV x::(ws.map arV).drop (p+1):=by
  rw[aav hp,ab0,acj];rw[aa0 hp] at hx;rw[aa3 hx]
 have en:endAt ws p=p+1+n:=by
  unfold endAt;rw[ed,eg,abt,hn];show p+(n+1)=_
  omega
 unfold uy;rw[hst,List.drop_append_of_le_length (by omega),hd];refine ⟨rfl,?_⟩;rw[acg];rw[aah,aa1] at hle;by_cases c:p+1+n < ws.length
 ·obtain ⟨t,ht⟩:=qx ((ws.map arV).drop (p+1+n)) (p+1+n) (by intro e;have:=congrArg ac0 e;rw[aah,aa1] at this;simp at this;omega);exact ⟨t++[ws.length],by rw[ht,en];rfl⟩
 ·refine ⟨[],?_⟩;rw[ade (by rw[aa1];omega),en,show p+1+n=ws.length by omega];rfl
theorem zv {x:V} (hx:isW x):(inV x [V.str "add",V.str "sub",V.str "mul",V.str "neg"]=true)↔0 < arV x:=by
 obtain ⟨k,rfl⟩:=hx;cases k with
 | inl i=>
  constructor
  ·intro h;exact absurd h (by simp[inV,eqV,kV])
  ·intro h;exact absurd h (by show ¬(0 < 0);decide)
 | inr z=>
  show (inV (.str z) _=true)↔0 < arS z
  constructor
  ·intro h;have:=la h;simp only[aaq,aad,or_false,V.str.injEq] at this;rcases this with rfl | rfl | rfl | rfl <;> decide+kernel
  ·intro h;rcases qw (z:=z) h with rfl | rfl | rfl | rfl <;> decide+kernel
theorem Hr (ws:List V) {p:Nat} (hp:p≤ws.length):∃t,uy ws p=p::t:=by
 unfold uy;by_cases c:p < ws.length
 ·obtain ⟨t,ht⟩:=qx ((ws.map arV).drop p) p (by intro e;have:=congrArg ac0 e;rw[aah,aa1] at this;simp at this;omega);exact ⟨t++[ws.length],by rw[ht];rfl⟩
 ·refine ⟨[],?_⟩;rw[ade (by rw[aa1];omega),show p=ws.length by omega];rfl
theorem Qf {n p:Nat} (h:p < n):ixN n (p:Int)=some p:=by
 unfold ixN;rw[if_pos (by omega),if_pos (by omega),ac8]
theorem Lv {p:Nat} {x:V} {L:List V}:(aap (p+1) (V.int 0)++L).set p x=aap p (V.int 0)++x::L:=by
 rw[List.replicate_succ',aax,aef _ _ (by rw[abi];exact aa6 _),abi,acx];rfl
theorem yp:∀(r:List Nat) (p:Nat),(starts p r).length≤r.length
 | [],_=>aa6 _
 | a::r,p=>by
  show (p::(starts (p+1) r).drop a).length≤_
  have:=yp r (p+1);rw[aal,aah,aal];omega
theorem Jz (ws:List V) (p:Nat):(uy ws p).length≤ws.length+1:=by
 unfold uy;have:=yp ((ws.map arV).drop p) p;rw[aah,aa1] at this;rw[aa2,aa9];omega
def mv (H:Hp) (u0 l1 l2 l3:Addr) (u:Und):Prop:=H u0=some (.lst [.ref l1,.ref l2,.ref l3])∧H l1=some (.lst (u.hs.map plV))∧H l2=some (.lst u.ns)∧H l3=some (.lst u.vs)
theorem mv.same {H H':Hp} {u0 l1 l2 l3:Addr} {u:Und} (h:mv H u0 l1 l2 l3 u) (s:ak H H'):mv H' u0 l1 l2 l3 u:=⟨s _ _ h.1,s _ _ h.2.1,s _ _ h.2.2.1,s _ _ h.2.2.2⟩
theorem mv.put1 {H:Hp} {u0 l1 l2 l3:Addr} {u:Und} (h:mv H u0 l1 l2 l3 u) (n10:u0≠l1) (n21:l2≠l1) (n31:l3≠l1) (p:Nat) (x:V):mv (upd H l1 (.lst (u.hs.map plV++[plV p]))) u0 l1 l2 l3 (u.put lH p x):=by
 unfold Und.put;rw[if_pos rfl];refine ⟨by rw[af n10];exact h.1,?_,by rw[af n21];exact h.2.2.1,by rw[af n31];exact h.2.2.2⟩;rw[ae,aaa];rfl
theorem mv.put2 {H:Hp} {u0 l1 l2 l3:Addr} {u:Und} (h:mv H u0 l1 l2 l3 u) (n20:u0≠l2) (n21:l2≠l1) (n32:l3≠l2) (p:Nat) (x:V):mv (upd H l2 (.lst (u.ns++[x]))) u0 l1 l2 l3 (u.put lN p x):=by
 unfold Und.put;rw[if_neg lets.1,if_pos rfl];exact ⟨by rw[af n20];exact h.1,by rw[af n21.symm];exact h.2.1,ae,by rw[af n32];exact h.2.2.2⟩
theorem mv.put3 {H:Hp} {u0 l1 l2 l3:Addr} {u:Und} (h:mv H u0 l1 l2 l3 u) (n30:u0≠l3) (n31:l3≠l1) (n32:l3≠l2) (p:Nat) (x:V):mv (upd H l3 (.lst (u.vs++[x]))) u0 l1 l2 l3 (u.put lV p x):=by
 unfold Und.put;rw[if_neg lets.2.1,if_neg lets.2.2.2.1,if_pos rfl];exact ⟨by rw[af n30];exact h.1,by rw[af n31.symm];exact h.2.1,by rw[af n32.symm];exact h.2.2.1,ae⟩
theorem Kinds.out {kinds:List Str} (h:Kinds kinds) {z:Str} (hz:V.str z=ig∨V.str z=gq):inV (.str z) (kinds.map V.str)=false:=by
 cases e:inV (.str z) (kinds.map V.str) with
 | false=>rfl
 | true=>
  obtain ⟨y,hy,e2⟩:=List.mem_map.mp (la e);obtain ⟨_,h1,h2⟩:=h y hy;rcases hz with hz | hz
  ·exact absurd (e2.trans hz) h1
  ·exact absurd (e2.trans hz) h2
theorem letH {kinds:List Str} {v:V} (h:cm kinds v=lH):inV v (kinds.map V.str)=true:=by
 unfold cm at h;obtain ⟨b1,b2,b3,_,_,_⟩:=lets;by_cases h1:v=ig
 ·rw[if_pos h1] at h;exact absurd h b1
 by_cases h2:v=gq
 ·rw[if_neg h1,if_pos h2] at h;exact absurd h b2
 rw[if_neg h1,if_neg h2] at h;cases e:inV v (kinds.map V.str) with
 | true=>rfl
 | false=>rw[e,if_neg (by decide)] at h;exact absurd h b3
theorem letO {kinds:List Str} {v:V} (h:cm kinds v=lO):v≠ig∧v≠gq:=by
 obtain ⟨_,_,_,_,b5,b6⟩:=lets;unfold cm at h;refine ⟨λe=>?_,λe=>?_⟩
 ·rw[if_pos e] at h;exact b5 h.symm
 ·subst e;by_cases h1:gq=ig
  ·rw[if_pos h1] at h;exact b5 h.symm
  ·rw[if_neg h1,if_pos rfl] at h;exact b6 h.symm
end Pc
namespace Pc
open PySem PySem.Spec L2 PyProof.Rows
def nmOk (z:Str):Prop:=arS z=0∧V.str z≠ig∧V.str z≠gq
def cg (H:Hp) (l:Addr) (zs:List Str):Prop:=H l=some (.lst (zs.map V.str))∧zs.length=60∧zs.Nodup∧∀z∈zs,nmOk z
theorem cg.same {H H':Hp} {l:Addr} {zs:List Str} (h:cg H l zs) (s:ak H H'):cg H' l zs:=⟨s _ _ h.1,h.2⟩
theorem cg.b8 {H H':Hp} {d b l:Addr} {ns:List Int} {n:Nat} {zs:List Str} (h:cg H l zs) (hD:cu H d b ns n) (s:aq d H H'):cg H' l zs:=by
 refine ⟨s _ _ (df h.1 hD.1 ?_) h.1,h.2⟩;intro e;have:=h.2.1;cases zs with
 | nil=>cases this
 | cons z r=>
  have e:HO.lst (V.str z::r.map V.str)=HO.lst _:=e;cases e
def twW (v:V):Prop:=isW v∧v≠ig∧v≠gq
theorem twW_int (i:Int):twW (.int i):=⟨⟨Sum.inl i,rfl⟩,(λe=>nomatch e),λe=>nomatch e⟩
theorem twW_name {z:Str} (h:nmOk z):twW (.str z):=⟨⟨Sum.inr z,rfl⟩,h.2⟩
theorem twW_op {z:Str} (h:0 < arS z):twW (.str z):=⟨⟨Sum.inr z,rfl⟩,λe=>by rw[V.str.inj (show V.str z=V.str (Str.ofString "any") from e)] at h;revert h;decide+kernel,λe=>by rw[V.str.inj (show V.str z=V.str (Str.ofString "var") from e)] at h;revert h;decide+kernel⟩
theorem t8 {z:Str} {xs:List V} (h:V.str z∈xs):inV (.str z) xs=true:=List.any_eq_true.mpr ⟨_,h,by simp[eqV]⟩
def sk:Sp:=λvs H Q _=>∃(d nl b:Addr) (ns:List Int) (zs:List Str) (m n:Nat),vs=[.ref d,.ref nl,.int (m:Int)]∧cu H d b ns n∧cg H nl zs∧1≤m∧m≤120∧n≤50000∧∀(t:Addr) (n':Nat) (H':Hp) (ws:List V),aq d H H'→H' d=some (.lst [.ref b,.int (n':Int)])→n'≤n+m→H t=none→H' t=some (.tup ws)→Tw ws→ws.length≤m→Q (.ref t) H'
structure jy (kinds:List Str) (sh:List V):Prop where
 w:∀v∈sh,isW v
 one:isTerm sh
 len:sh.length≤11
 few:(sh.filter λv=>!inV v (kinds.map V.str)).length≤5
def tf:Sp:=λvs H Q _=>∃(d kt b:Addr) (ns:List Int) (kinds:List Str) (n:Nat),vs=[.ref d,.ref kt]∧cu H d b ns n∧H kt=some (.tup (kinds.map V.str))∧Kinds kinds∧1≤kinds.length∧kinds.length≤20∧n≤50000∧∀(t:Addr) (n':Nat) (H':Hp) (sh:List V),aq d H H'→H' d=some (.lst [.ref b,.int (n':Int)])→n'≤n+12→H t=none→H' t=some (.tup sh)→jy kinds sh→Q (.ref t) H'
def tj (K:PySem.W.Frag):Sp:=λvs H Q _=>∃(kt st:Addr) (kinds:List Str) (sh:List V),vs=[.ref kt,.ref st]∧H kt=some (.tup (kinds.map V.str))∧H st=some (.tup sh)∧Kinds kinds∧jy kinds sh∧∀(t:Addr) (ds:List V) (H':Hp),ak H H'→H' t=some (.tup ds)→Q (.ref t) H'
noncomputable def isT (z:Str):Bool:=decide (z.cps.toList.head?=some 116)
noncomputable def tc (zs:List Str):Nat:=(zs.filter isT).length
theorem qk (xs ys:List Str):tc (xs++ys)=tc xs+tc ys:=by
 unfold tc;rw[abe,aa2]
noncomputable def bw (kinds:List Str) (vs:List V):Nat:=(vs.filter λv=>!inV v (kinds.map V.str)).length
theorem lb (kinds:List Str) (xs ys:List V):bw kinds (xs++ys)=bw kinds xs+bw kinds ys:=by
 unfold bw;rw[abe,aa2]
theorem ve {kinds:List Str} (hk:Kinds kinds):∀(xs:List V) (l m:Nat),(∀v∈xs,isW v)→pend l (xs.map arV)=some m→m≤l+bw kinds xs
 | [],l,m,_,h=>by
  have:l=m:=aa3 h;omega
 | v::r,0,m,_,h=>by cases h
 | v::r,l+1,m,hw,h=>by
  have h:pend (l+arV v) (r.map arV)=some m:=h;have ih:=ve hk r _ _ (λx hx=>hw x (aaj _ hx)) h;have e:bw kinds (v::r)=bw kinds [v]+bw kinds r:=lb kinds [v] r;have a2:=uw v;rcases abr (arV v) with h0 | h0
  ·omega
  ·have:bw kinds [v]=1:=by
    unfold bw;rcases gh (kinds:=kinds) (hw v aan) with ⟨rfl,_⟩ | ⟨rfl,_⟩ | ⟨⟨z,hz,rfl⟩,_⟩ | ⟨_,hno⟩
    ·rw[wk] at h0;cases h0
    ·rw[ui] at h0;cases h0
    ·have:=(hk z hz).1;have h0:0 < arS z:=h0;omega
    ·rw[aau,hno];rfl
   omega
theorem Dw {n:Nat} (h:n≤11):(Gk (.int (n:Int))).length≤2∧wordV (.int (n:Int)):=by
 have a:∀n:Fin 12,(Gk (.int ((n.1:Nat):Int))).length≤2:=by decide+kernel
 have b:∀n:Fin 12,(((n.1:Nat):Int)).natAbs.log2 < 1920:=by decide+kernel
 exact ⟨a ⟨n,by omega⟩,b ⟨n,by omega⟩⟩
structure DI (kinds:List Str) (sh:List V) (p:Nat) (zs fs:List Str):Prop where
 pd:pend zs.length ((sh.drop p).map arV)=some 0
 bf:pend 1 ((sh.take p).map arV)=some zs.length
 three:fs.length+tc zs=3
 un:tc zs≤bw kinds (sh.drop p)
 zl:∀z∈zs,1≤z.length∧z.length≤100
 fl:∀z∈fs,isT z=true∧1≤z.length∧z.length≤100
theorem DI.start {kinds:List Str} {sh:List V} (h:jy kinds sh):DI kinds sh sh.length [] [Str.ofString "t3",Str.ofString "t2",Str.ofString "t1"]:=by
 refine ⟨by rw[ach];rfl,by rw[abx];exact h.one,rfl,aa8 _,(λ_ h=>nomatch h),λz hz=>?_⟩;simp only[aaq,aad,or_false] at hz;rcases hz with rfl | rfl | rfl <;> decide+kernel
theorem DI.less {kinds:List Str} {sh:List V} {p:Nat} {zs fs:List Str} (h:DI kinds sh (p+1) zs fs) {v:V} (hv:sh[p]?=some v):arV v≤zs.length∧pend (zs.length - arV v+1) ((sh.drop p).map arV)=some 0∧pend 1 ((sh.take p).map arV)=some (zs.length - arV v+1)∧sh.drop p=v::sh.drop (p+1):=by
 have hp:p < sh.length:=(List.getElem?_eq_some_iff.mp hv).1;have ed:sh.drop p=v::sh.drop (p+1):=by
  rw[aav hp];congr 1
  rw[aa0 hp] at hv;exact aa3 hv
 have et:sh.take (p+1)=sh.take p++[v]:=by rw[abh,hv];rfl
 have bf:=h.bf;rw[et,aaa,o8] at bf;cases hq:pend 1 ((sh.take p).map arV) with
 | none=>rw[hq] at bf;cases bf
 | some m=>
  rw[hq] at bf;have bf:pend m [arV v]=some zs.length:=bf;cases m with
  | zero=>cases bf
  | succ m=>
   rw[Ci _ _ (aet _)] at bf;have e:=aa3 bf;have hm:m+1=zs.length - arV v+1:=by omega
   refine ⟨by omega,?_,by rw[hm],ed⟩;rw[ed,ab0];show pend (zs.length - arV v+arV v) ((sh.drop (p+1)).map arV)=some 0
   rw[show zs.length - arV v+arV v=zs.length by omega];exact h.pd
theorem DI.hole {kinds:List Str} {sh:List V} {p:Nat} {zs fs:List Str} (h:DI kinds sh (p+1) zs fs) {v:V} (hv:sh[p]?=some v) (a0:arV v=0) {z:Str} (hz:isT z=false) (hl:1≤z.length∧z.length≤100):DI kinds sh p (zs++[z]) fs:=by
 obtain ⟨_,h2,h3,ed⟩:=h.less hv;rw[a0,acw] at h2 h3;have tz:tc (zs++[z])=tc zs:=by
  rw[qk];unfold tc;rw[aau,hz];rfl
 refine ⟨by rw[aa2];exact h2,by rw[aa2];exact h3,by rw[tz];exact h.three,?_,λy hy=>?_,h.fl⟩
 ·rw[tz,ed];have:=lb kinds [v] (sh.drop (p+1));have e:bw kinds (v::sh.drop (p+1))=bw kinds [v]+bw kinds (sh.drop (p+1)):=this;have:=h.un;omega
 ·rcases List.mem_append.mp hy with g | g
  ·exact h.zl y g
  ·rw[List.mem_singleton.mp g];exact hl
theorem DI.put {kinds:List Str} {sh:List V} {p:Nat} {zs fs zs0 rd:List Str} (hk:Kinds kinds) (ok:jy kinds sh) (h:DI kinds sh (p+1) zs fs) {v:V} (hv:sh[p]?=some v) (hn:inV v (kinds.map V.str)=false) (e:zs=zs0++rd) (hr:rd.length=arV v):
  (∀z fs2,fs2.length+1=fs.length+tc rd→isT z=true→1≤z.length→z.length≤100→(∀y∈fs2,isT y=true∧1≤y.length∧y.length≤100)→DI kinds sh p (zs0++[z]) fs2)∧
  (∀z fs2,fs2.length=fs.length+tc rd→isT z=false→1≤z.length→z.length≤100→(∀y∈fs2,isT y=true∧1≤y.length∧y.length≤100)→DI kinds sh p (zs0++[z]) fs2)∧(0 < p→1≤fs.length+tc rd):=by
 obtain ⟨h1,h2,h3,ed⟩:=h.less hv;subst e;rw[aa2,hr,adu] at h2 h3;have th:=h.three;have un:=h.un;rw[qk] at th un;have uv:bw kinds (sh.drop p)=1+bw kinds (sh.drop (p+1)):=by
  rw[ed];have:=lb kinds [v] (sh.drop (p+1));have e1:bw kinds [v]=1:=by
   unfold bw;rw[aau,hn];rfl
  have e:bw kinds (v::sh.drop (p+1))=bw kinds [v]+bw kinds (sh.drop (p+1)):=this;omega
 have zl0:∀y∈zs0,1≤y.length∧y.length≤100:=λy hy=>h.zl y (adk _ hy);refine ⟨λz fs2 hf hz l1 l2 hfl=>⟨by rw[aa2];exact h2,by rw[aa2];exact h3,?_,?_,λy hy=>?_,hfl⟩,λz fs2 hf hz l1 l2 hfl=>⟨by rw[aa2];exact h2,by rw[aa2];exact h3,?_,?_,λy hy=>?_,hfl⟩,λhp=>?_⟩
 ·rw[qk,show tc [z]=1 by unfold tc;rw[aau,hz];rfl];omega
 ·rw[qk,show tc [z]=1 by unfold tc;rw[aau,hz];rfl,uv];omega
 ·rcases List.mem_append.mp hy with g | g
  ·exact zl0 y g
  ·rw[List.mem_singleton.mp g];exact ⟨l1,l2⟩
 ·rw[qk,show tc [z]=0 by unfold tc;rw[aau,hz];rfl];omega
 ·rw[qk,show tc [z]=0 by unfold tc;rw[aau,hz];rfl,uv];omega
 ·rcases List.mem_append.mp hy with g | g
  ·exact zl0 y g
  ·rw[List.mem_singleton.mp g];exact ⟨l1,l2⟩
 ·have u5:=ok.few;have hs:bw kinds sh≤5:=u5;have es:bw kinds sh=bw kinds (sh.take p)+bw kinds (sh.drop p):=by
   rw[←lb,aba]
  have pu:=ve hk (sh.take p) 1 _ (λx hx=>ok.w x (abk hx)) h3;have tl:tc zs0≤zs0.length:=abf _ _;omega
theorem Qd {kinds:List Str} (hk:Kinds kinds) {v:V} (hv:isW v) (h:inV v (kinds.map V.str)=true):arV v=0:=by
 obtain ⟨b1,b2,b3,_,_,_⟩:=lets;rcases gh (kinds:=kinds) hv with ⟨rfl,_⟩ | ⟨rfl,_⟩ | ⟨⟨z,hz,rfl⟩,_⟩ | ⟨_,hno⟩
 ·exact wk
 ·exact ui
 ·exact (hk z hz).1
 ·rw[hno] at h;cases h
theorem ir (a b:Str):(a++b).cps.toList=a.cps.toList++b.cps.toList:=by
 show (a.cps++b.cps).toList=_
 exact ab4
theorem isT_h (tx:Str):isT (Str.ofString "h"++tx)=false:=by
 unfold isT;rw[ir,show (Str.ofString "h").cps.toList=[104] by decide+kernel];rfl
theorem Nd:isT (Str.ofString "out")=false:=by decide+kernel
theorem M8 {z:Str} (h:1≤z.length):∃c,atI z.cps.toList 0=some c∧((V.str ⟨#[c]⟩=V.str (Str.ofString "t"))↔isT z=true):=by
 have hl:z.cps.toList.length=z.length:=rfl;cases e:z.cps.toList with
 | nil=>rw[e] at hl;simp at hl;omega
 | cons c r=>
  refine ⟨c,bo (j:=0) rfl,?_⟩;unfold isT;rw[e];have et:Str.ofString "t"=⟨#[116]⟩:=by decide+kernel
  rw[et];constructor
  ·intro h;have:(#[c]:Array Nat)=#[116]:=congrArg Str.cps (V.str.inj h);have:c=116:=by simpa using this
   subst this;rfl
  ·intro h;have:c=116:=by simpa using h
   subst this;rfl
theorem Hm {v:V} (hv:isW v):((if inV v [V.str "add",V.str "sub",V.str "mul",V.str "neg"]=true then (1:Int) else 0)+if inV v [V.str "add",V.str "sub",V.str "mul"]=true then 1 else 0)=(arV v:Int):=by
 have three:=Ap hv;have four:=zv hv;have a2:=uw v;by_cases c:0 < arV v
 ·rw[if_pos (four.mpr c)];by_cases c2:arV v=2
  ·rw[if_pos (three.mpr c2)];omega
  ·rw[if_neg λe=>c2 (three.mp e)];omega
 ·rw[if_neg λe=>c (four.mp e),if_neg λe=>by have:=three.mp e;omega];omega
def y4:Sp:=λvs H Q _=>∃(d nl b:Addr) (ns:List Int) (zs:List Str) (n:Nat),vs=[.ref d,.ref nl]∧cu H d b ns n∧cg H nl zs∧n≤1000∧∀(bt:Addr) (n':Nat) (H':Hp) (kinds:List Str) (rs:List Rl),aq d H H'→H' d=some (.lst [.ref b,.int (n':Int)])→n'≤n+1000→cy H' bt kinds rs→Bk kinds rs→1≤rs.length→Q (.ref bt) H'
def gf (H:Hp) (sa:List Addr) (kinds:List Str) (ps:List (Str×List V)):Prop:=sa.length=ps.length∧∀(i:Nat) (k:Str) (sh:List V),ps[i]?=some (k,sh)→(jy kinds sh∧k∈kinds)∧∃a s:Addr,sa[i]?=some a∧H a=some (.tup [.str k,.ref s])∧H s=some (.tup sh)
theorem gf.nil (H:Hp) (kinds:List Str):gf H [] kinds []:=⟨rfl,λi k sh h=>by simp at h⟩
theorem gf.b8 {H H':Hp} {d b:Addr} {ns:List Int} {n:Nat} {sa:List Addr} {kinds:List Str} {ps:List (Str×List V)} (h:gf H sa kinds ps) (hD:cu H d b ns n) (s:aq d H H'):gf H' sa kinds ps:=⟨h.1,λi k sh hi=>by
 obtain ⟨ok,a,t,h1,h2,h3⟩:=h.2 i k sh hi;exact ⟨ok,a,t,h1,s _ _ (df h2 hD.1 (by intro e;cases e)) h2,s _ _ (df h3 hD.1 (by intro e;cases e)) h3⟩⟩
theorem gf.same {H H':Hp} {sa:List Addr} {kinds:List Str} {ps:List (Str×List V)} (h:gf H sa kinds ps) (s:ak H H'):gf H' sa kinds ps:=⟨h.1,λi k sh hi=>by
 obtain ⟨ok,a,t,h1,h2,h3⟩:=h.2 i k sh hi;exact ⟨ok,a,t,h1,s _ _ h2,s _ _ h3⟩⟩
theorem gf.snoc {H:Hp} {sa:List Addr} {kinds:List Str} {ps:List (Str×List V)} (h:gf H sa kinds ps) {a s:Addr} {k:Str} {sh:List V} (ok:jy kinds sh∧k∈kinds) (h1:H a=some (.tup [.str k,.ref s])) (h2:H s=some (.tup sh)):gf H (sa++[a]) kinds (ps++[(k,sh)]):=by
 refine ⟨by rw[aa2,aa2,h.1];rfl,λi k' sh' hi=>?_⟩;by_cases c:i < ps.length
 ·rw[aae c] at hi;obtain ⟨ok',a',t',g1,g2,g3⟩:=h.2 i k' sh' hi;exact ⟨ok',a',t',by rw[aae (by rw[h.1];exact c)];exact g1,g2,g3⟩
 ·rw[aac (by omega)] at hi;have hz:i - ps.length=0:=by
   rcases abr (i - ps.length) with g | g
   ·exact g
   ·rw[abg (by rw[aa9];omega)] at hi;cases hi
  rw[hz] at hi;cases hi
  exact ⟨ok,a,s,by rw[aac (by rw[h.1];omega),h.1,hz];rfl,h1,h2⟩
theorem G8 {kinds:List Str} (hk:Kinds kinds) {z:Str} (hz:z∈kinds):jy kinds [.str z]:=by
 refine ⟨λv hv=>by rw[List.mem_singleton.mp hv];exact ⟨Sum.inr z,rfl⟩,?_,by show (1:Nat)≤11;decide,aay (abf _ _) (by show (1:Nat)≤5;decide)⟩;show pend 1 [arS z]=some 0
 rw[(hk z hz).1];rfl
theorem Ly (kinds:List Str):jy kinds [ig]:=⟨λv hv=>by rw[List.mem_singleton.mp hv];exact ⟨Sum.inr _,rfl⟩,by show pend 1 [arV ig]=some 0;rw[wk];rfl,by show (1:Nat)≤11;decide,aay (abf _ _) (by show (1:Nat)≤5;decide)⟩
theorem J1 (kinds:List Str):jy kinds [gq]:=⟨λv hv=>by rw[List.mem_singleton.mp hv];exact ⟨Sum.inr _,rfl⟩,by show pend 1 [arV gq]=some 0;rw[ui];rfl,by show (1:Nat)≤11;decide,aay (abf _ _) (by show (1:Nat)≤5;decide)⟩
theorem Mz {kinds:List Str} (hk:Kinds kinds) {z:Str} (hz:z∈kinds):jy kinds [.str (Str.ofString "add"),.str z,.str z]:=by
 refine ⟨λv hv=>?_,?_,by show (3:Nat)≤11;decide,aay (abf _ _) (by show (3:Nat)≤5;decide)⟩
 ·simp only[aaq,aad,or_false] at hv;rcases hv with rfl | rfl | rfl <;> exact ⟨Sum.inr _,rfl⟩
 ·show pend 1 [arS (Str.ofString "add"),arS z,arS z]=some 0
  rw[(hk z hz).1,show arS (Str.ofString "add")=2 by decide+kernel];rfl
theorem Lm {kinds:List Str} (hk:Kinds kinds) {z:Str} (hz:z∈kinds):jy kinds [.str (Str.ofString "neg"),.str z]:=by
 refine ⟨λv hv=>?_,?_,by show (2:Nat)≤11;decide,aay (abf _ _) (by show (2:Nat)≤5;decide)⟩
 ·simp only[aaq,aad,or_false] at hv;rcases hv with rfl | rfl <;> exact ⟨Sum.inr _,rfl⟩
 ·show pend 1 [arS (Str.ofString "neg"),arS z]=some 0
  rw[(hk z hz).1,show arS (Str.ofString "neg")=1 from Am];rfl
end Pc
namespace Pc
open PySem PySem.Spec L2 PyProof.Rows
theorem fj.keep {H H':Hp} {a:Addr} {r:Rl} (h:fj H a r) (t:∀{a:Addr} {xs:List V},H a=some (.tup xs)→H' a=some (.tup xs)):fj H' a r:=by
 obtain ⟨sa,da,ds,h1,h2,h3⟩:=h;exact ⟨sa,da,ds,t h1,t h2,t h3⟩
theorem dk.keep {H H':Hp} {ra:List Addr} {rs:List Rl} (h:dk H ra rs) (t:∀{a:Addr} {xs:List V},H a=some (.tup xs)→H' a=some (.tup xs)):dk H' ra rs:=⟨h.1,λi r hr=>by
 obtain ⟨a,h1,h2⟩:=h.2 i r hr;exact ⟨a,h1,h2.keep t⟩⟩
theorem gf.keep {H H':Hp} {sa:List Addr} {kinds:List Str} {ps:List (Str×List V)} (h:gf H sa kinds ps) (t:∀{a:Addr} {xs:List V},H a=some (.tup xs)→H' a=some (.tup xs)):gf H' sa kinds ps:=⟨h.1,λi k sh hi=>by
 obtain ⟨ok,a,s,h1,h2,h3⟩:=h.2 i k sh hi;exact ⟨ok,a,s,h1,t h2,t h3⟩⟩
theorem dv {H H':Hp} {d b:Addr} {ns:List Int} {n:Nat} (hD:cu H d b ns n) (s:aq d H H') {a:Addr} {xs:List V} (h:H a=some (.tup xs)):H' a=some (.tup xs):=s _ _ (df h hD.1 (by intro e;cases e)) h
theorem dk.snoc {H:Hp} {ra:List Addr} {rs:List Rl} (h:dk H ra rs) {a:Addr} {r:Rl} (hr:fj H a r):dk H (ra++[a]) (rs++[r]):=by
 refine ⟨by rw[aa2,aa2,h.1];rfl,λi r' hi=>?_⟩;by_cases c:i < rs.length
 ·rw[aae c] at hi;obtain ⟨a',g1,g2⟩:=h.2 i r' hi;exact ⟨a',by rw[aae (by rw[h.1];exact c)];exact g1,g2⟩
 ·rw[aac (by omega)] at hi;have hz:i - rs.length=0:=by
   rcases abr (i - rs.length) with g | g
   ·exact g
   ·rw[abg (by rw[aa9];omega)] at hi;cases hi
  rw[hz] at hi;cases hi
  exact ⟨a,by rw[aac (by rw[h.1];omega),h.1,hz];rfl,hr⟩
theorem dk.rot {H:Hp} {ra:List Addr} {rs:List Rl} (h:dk H ra rs) (k:Nat):dk H (ra.drop k++ra.take k) (rs.drop k++rs.take k):=by
 have h1:=h.1;refine ⟨by rw[aa2,aa2,aah,aah,aaw,aaw,h1],λi r hi=>?_⟩;by_cases c:i < rs.length - k
 ·rw[aae (by rw[aah];exact c),acp] at hi;rw[aae (by rw[aah,h1];exact c),acp];exact h.2 _ r hi
 ·rw[aac (by rw[aah];omega),aah] at hi;rw[aac (by rw[aah,h1];omega),aah,h1];by_cases c2:i - (rs.length - k) < k
  ·rw[ad7 c2] at hi;rw[ad7 c2];exact h.2 _ r hi
  ·rw[abg (by rw[aaw];omega)] at hi;cases hi
theorem bk_rot {kinds zs:List Str} {rs:List Rl} (hk:Kinds kinds) (kn:kinds.Nodup) (kl:kinds.length≤60) (nd:zs.Nodup) (e:rs.map (·.name)=(zs.drop 8).take rs.length) (so:∀r∈rs,jy kinds r.shape∧1≤r.price∧r.kind∈kinds) (hl:rs.length≤40) (k:Nat):Bk kinds (rs.drop k++rs.take k):=by
 have hp:(rs.drop k++rs.take k).Perm rs:=List.perm_append_comm.trans (by rw[aba]);refine ⟨hk,(hp.map (·.name)).nodup_iff.mpr ?_,λr hr=>?_,by rw[hp.length_eq];omega,kn,kl,λr hr=>(so r (hp.mem_iff.mp hr)).2.1,λr hr=>(so r (hp.mem_iff.mp hr)).2.2⟩
 ·rw[e];exact (nd.sublist (List.drop_sublist 8 zs)).sublist (adw _ _)
 ·have o:=(so r (hp.mem_iff.mp hr)).1;exact ⟨o.w,o.one,by have:=o.len;omega⟩
theorem Ei {zs:List Str} {rs:List Rl} {r:Rl} {i:Nat} (e:rs.map (·.name)=(zs.drop 8).take i) (hz:zs[8+i]?=some r.name):(rs++[r]).map (·.name)=(zs.drop 8).take (i+1):=by
 rw[aaa,e,abh,acp,hz];rfl
end Pc
namespace Pc
open PySem PySem.Spec L2 PyProof.Rows
def oo:Sp:=λvs H Q _=>∃(d b:Addr) (ns:List Int) (n:Nat),vs=[.ref d]∧cu H d b ns n∧n≤1000∧∀(l:Addr) (H':Hp) (zs:List Str),aq d H H'→H' d=some (.lst [.ref b,.int ((n+1:Nat):Int)])→cg H' l zs→Q (.ref l) H'
noncomputable abbrev Bx:Str:=Str.ofString "abcdefghijklmnopqrstuvwxyz"
noncomputable def ltr (i:Int):Str:=⟨#[97+(i % 26).toNat]⟩
theorem gr (i:Int):(ltr i).cps.toList=[97+(i % 26).toNat]:=rfl
theorem dq (i:Int):(ltr i).length=1:=rfl
theorem ltr_at (i:Int):atI Bx.cps.toList (i % 26)=some (97+(i % 26).toNat):=by
 have a:∀j:Fin 26,Bx.cps.toList[j.1]?=some (97+j.1):=by decide+kernel
 obtain ⟨j,hj,e⟩:∃j:Nat,j < 26∧i % 26=(j:Int):=⟨(i % 26).toNat,by omega,by omega⟩;rw[e,ac8];exact bo (a ⟨j,hj⟩)
theorem gy {i:Int} {H:Hp} {Q:VK} (q:Q (.str (ltr i)) H):rIxS (.str Bx) (.int (i % 26)) H Q:=
 ⟨Bx,i % 26,_,rfl,rfl,by rw[sizeLine_eq];decide+kernel,ltr_at i,q⟩
noncomputable def d4:List Str:=["add","sub","mul","neg","any","var","put","load","out"]
noncomputable def ownC:List (List Nat):=d4.map λz=>z.cps.toList
theorem qe {a b:Str} (h:a.cps.toList=b.cps.toList):a=b:=by
 cases a;cases b
 congr 1
 exact Array.toList_inj.mp h
theorem qq {z:Str}:z∈d4↔z.cps.toList∈ownC:=by
 unfold ownC;constructor
 ·exact λh=>List.mem_map.mpr ⟨z,h,rfl⟩
 ·intro h;obtain ⟨y,hy,e⟩:=List.mem_map.mp h;rw[←qe e];exact hy
theorem own_ok {z:Str} (h:z∉d4):nmOk z:=by
 refine ⟨?_,λe=>h ?_,λe=>h ?_⟩
 ·rcases abr (arS z) with g | g
  ·exact g
  ·exfalso
   apply h
   rcases qw g with rfl | rfl | rfl | rfl
   ·exact aan
   ·exact aaj _ aan
   ·exact aaj _ (aaj _ aan)
   ·exact aaj _ (aaj _ (aaj _ aan))
 ·rw[V.str.inj (show V.str z=V.str (Str.ofString "any") from e)];decide+kernel
 ·rw[V.str.inj (show V.str z=V.str (Str.ofString "var") from e)];decide+kernel
noncomputable def nm0 (m:Int) (tail:Str) (k:Nat):Str:=ltr (m+(k:Int))++ltr (m / 7+(k:Int) / 26)++tail
noncomputable def nm1 (m:Int) (k:Nat):Str:=d4.getD (((k:Int)+m) % 9).toNat ""++ltr (m / 9+(k:Int) / 9)
noncomputable def nm2 (m:Int) (k:Nat):Str:=n6 (ltr m) (1+(k:Int) % 3).toNat++n6 (ltr (m+1)) ((k:Int) / 3 % 4).toNat++ltr (m+2+(k:Int) / 12)
noncomputable def rf (m:Int):Str:=n6 (ltr (m / 26)) (m / 676 % 6).toNat
noncomputable def nmX (c:Int) (k:Nat):Str:=if c % 3=2 then nm2 (c / 3) k else if c % 3=1 then nm1 (c / 3) k else nm0 (c / 3) (rf (c / 3)) k
noncomputable def nmP (c:Int) (k:Nat):Str:=if nmX c k∈d4 then nmX c k++"xq" else nmX c k
theorem lu (i:Int) (n:Nat):(n6 (ltr i) n).cps.toList=aap n (97+(i % 26).toNat):=by
 rw[Em,gr];induction n with
 | zero=>rfl
 | succ n ih=>rw[abb,ac9,ih,abb];rfl
theorem Ir (m:Int) (t:Str) (k:Nat):(nm0 m t k).cps.toList=(97+((m+(k:Int)) % 26).toNat)::(97+((m / 7+(k:Int) / 26) % 26).toNat)::t.cps.toList:=by
 unfold nm0;rw[ir,ir,gr,gr];rfl
theorem add_mod {n a b c:Int} (h:(a+b) % n=(a+c) % n):(b - c) % n=0:=by
 have h:=Int.emod_eq_emod_iff_emod_sub_eq_zero.mp h;rw[show a+b - (a+c)=b - c by omega] at h;exact h
theorem ue {a b:Int} {n:Nat} (hn:0 < n) (h:97+(a % (n:Int)).toNat=97+(b % (n:Int)).toNat):a % (n:Int)=b % (n:Int):=by
 have h1:=aar a (show (n:Int)≠0 by omega);have h2:=aar b (show (n:Int)≠0 by omega);generalize a % (n:Int)=x at h h1;generalize b % (n:Int)=y at h h2;omega
theorem Pl {m:Int} {t:Str} {k k':Nat} (h:k < 60) (h':k' < 60) (e:nm0 m t k=nm0 m t k'):k=k':=by
 have e:=congrArg (λz:Str=>z.cps.toList) e;simp only[Ir,ac6] at e;obtain ⟨e1,e2,_⟩:=e;have a1:=add_mod (ue (n:=26) (by decide) e1);have a2:=add_mod (ue (n:=26) (by decide) e2);clear e1 e2;omega
theorem Ip:d4.Nodup:=by decide+kernel
theorem Py {m:Int} {k k':Nat} (h:k < 60) (h':k' < 60) (e:nm1 m k=nm1 m k'):k=k':=by
 unfold nm1 at e;have e:=congrArg (λz:Str=>z.cps.toList) e;simp only[ir,gr] at e;obtain ⟨e1,e2⟩:=af9 e rfl;have e1:=qe e1;have b1:(((k:Int)+m) % 9).toNat < d4.length:=by show _ < 9;omega
 have b2:(((k':Int)+m) % 9).toNat < d4.length:=by show _ < 9;omega
 rw[aa4,aa4,aa0 b1,aa0 b2] at e1;have e3:=(af4 Ip).mp (show d4[(((k:Int)+m) % 9).toNat]=d4[(((k':Int)+m) % 9).toNat] from e1);simp only[ac6,and_true] at e2;have a2:=add_mod (ue (n:=26) (by decide) e2);have h1:=aar ((k:Int)+m) (show (9:Int)≠0 by decide);have h2:=aar ((k':Int)+m) (show (9:Int)≠0 by decide);have e4:((k:Int)+m) % 9=((k':Int)+m) % 9:=by
  generalize ((k:Int)+m) % 9=x at e3 h1;generalize ((k':Int)+m) % 9=y at e3 h2;clear a2 h h';omega
 rw[Int.add_comm,Int.add_comm (k':Int)] at e4;have a1:=add_mod e4;clear e1 e2 e3 e4 b1 b2 h1 h2 e;omega
theorem yh (m:Int) (k:Nat):(nm2 m k).cps.toList=aap (1+(k:Int) % 3).toNat (97+(m % 26).toNat)++(aap ((k:Int) / 3 % 4).toNat (97+((m+1) % 26).toNat)++[97+((m+2+(k:Int) / 12) % 26).toNat]):=by
 unfold nm2;rw[ir,ir,lu,lu,gr,aax]
theorem P7 {m:Int} {k k':Nat} (h:k < 60) (h':k' < 60) (e:nm2 m k=nm2 m k'):k=k':=by
 have e:=congrArg (λz:Str=>z.cps.toList) e;simp only[yh] at e;have ab:97+((m+1) % 26).toNat≠97+(m % 26).toNat:=by omega
 have ac:∀k:Nat,k < 60→97+((m+2+(k:Int) / 12) % 26).toNat≠97+(m % 26).toNat:=λk h=>by omega
 have bc:∀k:Nat,k < 60→97+((m+2+(k:Int) / 12) % 26).toNat≠97+((m+1) % 26).toNat:=λk h=>by omega
 have c1:=congrArg (List.count (97+(m % 26).toNat)) e;have c2:=congrArg (List.count (97+((m+1) % 26).toNat)) e;have c3:=congrArg List.getLast? e;rw[ac3,ac3,ac3,ac3,ace,ace,ad1,ad1,ad2,ad2,if_neg (by simpa using ab),if_neg (by simpa using ac k h),if_neg (by simpa using ab),if_neg (by simpa using ac k' h')] at c1;rw[ac3,ac3,ac3,ac3,ace,ace,ad1,ad1,ad2,ad2,if_neg (by simpa using ab.symm),if_neg (by simpa using bc k h),if_neg (by simpa using ab.symm),if_neg (by simpa using bc k' h')] at c2;rw[←aax,←aax,ael,ael] at c3;have c3:=aa3 c3;rw[Int.add_assoc,Int.add_assoc m 2] at c3;have a3:=add_mod (ue (n:=26) (by decide) c3);clear c3 ab ac bc e;omega
theorem Oo (m:Int) (k:Nat):nm1 m k∉d4:=by
 intro h;have h:=qq.mp h;unfold nm1 at h;have b1:(((k:Int)+m) % 9).toNat < d4.length:=by show _ < 9;omega
 rw[ir,gr,aa4,aa0 b1] at h;have a:∀x∈ownC,x.dropLast∉ownC:=by decide+kernel
 apply a _ h
 rw[aek];exact qq.mp (ab3 b1)
theorem Og {m:Int} {k:Nat} (hk:k < 60):nm2 m k∉d4:=by
 intro h;have h:=qq.mp h;rw[yh] at h;have a:∀x∈ownC,3≤x.length∧x.getD 1 0≠x.getD 0 0∧x.getD 1 0≠x.getD 0 0+1∧(x.getD 0 0=122→False):=by decide+kernel
 obtain ⟨i,hi⟩:∃i,(1+(k:Int) % 3).toNat=i+1:=⟨((k:Int) % 3).toNat,by omega⟩;obtain ⟨a1,a2,a3,a4⟩:=a _ h;rw[hi,abb] at a1 a2 a3 a4;cases i with
 | succ i=>
  rw[abb] at a2;exact a2 rfl
 | zero=>
  cases hj:((k:Int) / 3 % 4).toNat with
  | zero=>
   rw[hj] at a1;simp at a1
  | succ j=>
   rw[hj,abb] at a3;simp at a3 a4;omega
theorem Aj {z:Str} (h:z∈d4):z.length≤4∧3≤z.length:=by
 have a:∀z∈d4,z.length≤4∧3≤z.length:=by decide+kernel
 exact a z h
theorem Di:(Str.length "xq")=2:=by decide+kernel
theorem Fj {c:Int} {k k':Nat} (h:k < 60) (h':k' < 60) (e:nmX c k=nmX c k'):k=k':=by
 unfold nmX at e;by_cases c2:c % 3=2
 ·rw[if_pos c2,if_pos c2] at e;exact P7 h h' e
 rw[if_neg c2,if_neg c2] at e;by_cases c1:c % 3=1
 ·rw[if_pos c1,if_pos c1] at e;exact Py h h' e
 rw[if_neg c1,if_neg c1] at e;exact Pl h h' e
theorem G4 {c:Int} {k:Nat} (h:k < 60) (e:nmX c k∈d4) (j:Nat):(nmX c j).length=(nmX c k).length:=by
 unfold nmX at e ⊢;by_cases c2:c % 3=2
 ·rw[if_pos c2] at e;exact absurd e (Og h)
 rw[if_neg c2] at e;rw[if_neg c2,if_neg c2];by_cases c1:c % 3=1
 ·rw[if_pos c1] at e;exact absurd e (Oo _ _)
 rw[if_neg c1,if_neg c1];unfold nm0;rw[Str.length_append,Str.length_append,Str.length_append,Str.length_append,dq,dq,dq,dq]
theorem P4 {c:Int} {k k':Nat} (h:k < 60) (h':k' < 60) (e:nmP c k=nmP c k'):k=k':=by
 unfold nmP at e;have x2:=Di;by_cases o:nmX c k∈d4
 ·rw[if_pos o] at e;have l1:=G4 h o k';have e2:=congrArg Str.length e;by_cases o':nmX c k'∈d4
  ·rw[if_pos o'] at e;have e:=congrArg (λz:Str=>z.cps.toList) e;simp only[ir] at e;exact Fj h h' (qe (af9 e rfl).1)
  ·rw[if_neg o',Str.length_append] at e2;omega
 ·rw[if_neg o] at e;by_cases o':nmX c k'∈d4
  ·have l1:=G4 h' o' k;rw[if_pos o'] at e;have e2:=congrArg Str.length e;rw[Str.length_append] at e2;omega
  ·rw[if_neg o'] at e;exact Fj h h' e
theorem nmP_ok (c:Int) (k:Nat):nmOk (nmP c k):=by
 apply own_ok
 unfold nmP;by_cases o:nmX c k∈d4
 ·rw[if_pos o];intro h;have a:=(Aj h).1;have b:=(Aj o).2;rw[Str.length_append,Di] at a;omega
 ·rw[if_neg o];exact o
theorem Eu {H:Hp} {l:Addr} {c:Int} (h:H l=some (.lst ((aat 60).map λk=>V.str (nmP c k)))):cg H l ((aat 60).map (nmP c)):=by
 refine ⟨by rw[ac5];exact h,by rw[aa1,abd],?_,λz hz=>?_⟩
 ·refine List.pairwise_map.mpr (List.Pairwise.imp_of_mem ?_ List.nodup_range);intro a b ha hb n e;exact n (P4 (List.mem_range.mp ha) (List.mem_range.mp hb) e)
 ·obtain ⟨k,_,rfl⟩:=List.mem_map.mp hz;exact nmP_ok c k
theorem Fe (m m':Int) (k:Nat):(nm0 m (rf m') k).length≤100:=by
 unfold nm0 rf;rw[Str.length_append,Str.length_append,dq,dq];have e:(n6 (ltr (m' / 26)) (m' / 676 % 6).toNat).length=(n6 (ltr (m' / 26)) (m' / 676 % 6).toNat).cps.toList.length:=rfl;rw[e,lu,abi];omega
theorem lh (i:Int) (n:Nat):(n6 (ltr i) n).length=n:=by
 have e:(n6 (ltr i) n).length=(n6 (ltr i) n).cps.toList.length:=rfl;rw[e,lu,abi]
theorem Gz (m:Int) (k:Nat):(nm1 m k).length≤100:=by
 unfold nm1;have b1:(((k:Int)+m) % 9).toNat < d4.length:=by show _ < 9;omega
 rw[Str.length_append,dq,aa4,aa0 b1];have:=(Aj (ab3 b1)).1;show (d4[(((k:Int)+m) % 9).toNat]).length+1≤100
 omega
theorem Ot (m:Int) (k:Nat):(nm2 m k).length≤100:=by
 unfold nm2;rw[Str.length_append,Str.length_append,dq,lh,lh];omega
theorem Qe (c:Int) (k:Nat):(nmX c k).length≤100:=by
 unfold nmX;by_cases c2:c % 3=2
 ·rw[if_pos c2];exact Ot _ _
 rw[if_neg c2];by_cases c1:c % 3=1
 ·rw[if_pos c1];exact Gz _ _
 rw[if_neg c1];exact Fe _ _ _
theorem Jk (z:Str):(inV (.str z) (d4.map V.str)=true)↔z∈d4:=by
 constructor
 ·intro h;obtain ⟨y,hy,e⟩:=List.mem_map.mp (la h);rw[←V.str.inj e];exact hy
 ·intro h;exact t8 (List.mem_map.mpr ⟨z,h,rfl⟩)
theorem cy.keep {H H':Hp} {b:Addr} {kinds:List Str} {rs:List Rl} (h:cy H b kinds rs) (t:∀{a:Addr} {xs:List V},H a=some (.tup xs)→H' a=some (.tup xs)):cy H' b kinds rs:=by
 obtain ⟨kt,rt,ra,h1,h2,h3,h4⟩:=h;exact ⟨kt,rt,ra,t h1,t h2,t h3,h4.keep t⟩
end Pc
namespace Fm
section
variable {N:Type} [DecidableEq N]
structure Lin (lt:N→N→Bool):Prop where
 irr:∀x,lt x x=false
 tr:∀{x y z},lt x y=true→lt y z=true→lt x z=true
 tri:∀x y,lt x y=true∨x=y∨lt y x=true
variable {lt:N→N→Bool}
noncomputable def ev (mon:N→Int):List (N×Int)→Int
 | []=>0
 | p::r=>p.2*mon p.1+ev mon r
variable (mon:N→Int)
end
end Fm
namespace Fm
section
variable {N:Type} [DecidableEq N] (mon:N→Int)
end
end Fm
namespace L2.Itm
open PySem PySem.Spec PyProof.Rows
structure Raw (h:Heap) (d:Addr) (es:Array DictEntry) (ep:Nat) (o:Obj):Prop where
 there:h.get? d=some o
 exact':o.ExactDict
 data:o.data=.dict es ep
theorem Raw.typeIs {s:Shared} {d:Addr} {es:Array DictEntry} {ep:Nat} {o:Obj} (r:Raw s.heap d es ep o):s.TypeIs (.ref d) "dict":=⟨o,r.there,r.exact'.1⟩
section
variable {prog:Program} {w:World} {A:Around} {E:Value→Shared→Prop} {s:Shared} {d:Addr} {es:Array DictEntry} {ep:Nat} {o:Obj}
end
end L2.Itm
namespace L2
open PySem PySem.Spec PyProof.Rows Itm
theorem Aa {P:Program} {w:World} {H:Hp} {h:Heap} {a:Addr} {o:Obj} {kvs:List (List Key×V)} (ok:HOk P w H h) (e:H a=some (.frz o (.dT kvs))):
  ∃es ep,o.data=.dict es ep∧Raw h a es ep o∧es.size=kvs.length∧∀(i:Nat) (k:List Key) (v:V),kvs[i]?=some (k,v)→∃t u j,es[i]?=some ⟨j,.ref t,u⟩∧H t=some (.tup (k.map kV))∧RelV v u:=by
 obtain ⟨h1,_,_,xs,r,o',es,ep,h2,h3,h4,h5,h6⟩:=(show br P w H h a (.frz o (.dT kvs)) from ok a _ e);rw[h1] at h2;cases h2
 have hl:kvs.length=xs.length:=Paired.length r;refine ⟨es,ep,h4,⟨h1,h3,h4⟩,by rw[←aag,h5,aa1,hl],λi k v hi=>?_⟩;have get:∀{l:List (List Key×V)} {m:List (List Key×Addr×Value)},Paired (λ(p:List Key×V) (q:List Key×Addr×Value)=>p.1=q.1∧H q.2.1=some (.tup (p.1.map kV))∧RelV p.2 q.2.2) l m→∀(i:Nat) (p:List Key×V),l[i]?=some p→∃q,m[i]?=some q∧p.1=q.1∧H q.2.1=some (.tup (p.1.map kV))∧RelV p.2 q.2.2:=by
  intro l m r;induction r with
  | nil=>intro i p hp;simp at hp
  | cons h _ ih=>
   intro i p hp;cases i with
   | zero=>simp at hp;subst hp;exact ⟨_,rfl,h⟩
   | succ i=>exact ih i p (by simpa using hp)
 obtain ⟨q,hq,q1,q2,q3⟩:=get r i (k,v) hi;refine ⟨q.2.1,q.2.2,(tupleKind (bj P w)).hash q.1,?_,q2,q3⟩;rw[←aao,h5,aa7,hq];rfl
section
variable {X:Cx} {pins:List (Addr×Obj)} {σ σ':St} {H H0:Hp} {s s0:Shared} {a:Addr} {kvs kvs':List (List Key×V)} {o:Obj}
theorem Inv.Fx (I:Inv X pins σ H s) (e:H a=some (.dT kvs)):∃o es ep,o.data=.dict es ep∧Raw s.heap a es ep o∧Inv X pins σ (upd H a (.frz o (.dT kvs))) s:=by
 have ok:=(show br X.prog X.w H s.heap a (.dT kvs) from I.hok a _ e);obtain ⟨z,y,xs,r,o,es,ep,h1,h2,h3,h4,h5⟩:=id ok;refine ⟨o,es,ep,h3,⟨h1,h2,h3⟩,?_⟩;have st:br X.prog X.w (upd H a (.frz o (.dT kvs))) s.heap a (.dT kvs):=ok.xn (λb u _ q=>q) (λb q=>by rw[af (λz=>by rw[z,e] at q;cases q)];exact q) λb ys q=>by rw[af (λz=>by rw[z,e] at q;cases q)];exact q
 exact I.write (t':=s.toks) (h':=s.heap) (e:=a) (by rw[e];exact True.intro) (.inl rfl) (λb u _ q=>q) ⟨o,h1⟩ ⟨h1,st⟩
theorem Inv.thawT (I0:Inv X pins σ' H0 s0) (e0:H0 a=some (.dT kvs')) (I:Inv X pins σ H s) (e:H a=some (.frz o (.dT kvs))):Inv X pins σ (upd H a (.dT kvs)) s:=by
 have nn:∀b,H b=none→b≠a:=λb hb z=>by rw[z,e] at hb;cases hb
 have nt:∀b xs,H b=some (.tup xs)→b≠a:=λb xs hb z=>by rw[z,e] at hb;cases hb
 have no:∀b y,H b=some (.own y)→b≠a:=λb y hb z=>by rw[z,e] at hb;cases hb
 refine ⟨I.ok,I.os,I.bare,⟨I.base.keep,I.base.slot,λb ob h1 h2 h3=>?_,I.base.there,λb xs h1=>?_,λb ob u h1=>?_,λb ps h1=>?_⟩,I.loc,I.cell,?_,λx c h1=>?_,λp hp=>?_,λb u q=>?_,I.len⟩
 ·have h4:=I.base.free b ob h1 h2 h3;rw[af (nn b h4)];exact h4
 ·have h4:=I.base.rq b xs h1;rw[af (nt b xs h4)];exact h4
 ·have h4:=I.base.frzs b ob u h1;have h5:=I0.base.frzs b ob u h1;rw[af (λz=>by rw[z,e0] at h5;cases h5)];exact h4
 ·obtain ⟨more,h4⟩:=I.base.tbls b ps h1;exact ⟨more,by rw[af (λz=>by rw[z,e] at h4;cases h4)];exact h4⟩
 ·rw[af (nn _ I.free)];exact I.free
 ·rw[af (nn _ (I.freeC x c h1))];exact I.freeC x c h1
 ·obtain ⟨p1,p2,p3,p4,p5⟩:=I.pin p hp;exact ⟨p1,by rw[af (nn _ p2)];exact p2,p3,p4,p5⟩
 ·by_cases hb:b=a
  ·subst hb;rw[ae] at q;cases q
   exact ((show br X.prog X.w H s.heap b (.frz o (.dT kvs)) from I.hok b _ e).2).xn (λc v _ r=>r) (λc r=>by rw[af (no c b r)];exact r) λc xs r=>by rw[af (nt c xs r)];exact r
  ·rw[af hb] at q;exact (I.hok b u q).xn (λc v _ r=>r) (λc r=>by rw[af (no c b r)];exact r) λc xs r=>by rw[af (nt c xs r)];exact r
end
def K7 (t:TE):TE:=λσ H Q=>∃a kvs,H a=some (.dT kvs)∧t σ H λv H'=>∃o,H' a=some (.frz o (.dT kvs))∧Q v (upd H' a (.dT kvs))
section
variable {X:Cx}
theorem Kn {e:Expr} {t:TE} (h:PE X e t):PE X e (K7 t):=by
 intro pins s σ H Q I q;obtain ⟨a,kvs,e0,q⟩:=q;exact thn (h pins s σ H _ I q) λv s1 ⟨x,H1,I1,r1,o,e1,q1⟩=>⟨x,_,Inv.thawT I e0 I1 e1,r1,q1⟩
end
end L2
namespace L2
open PySem PySem.Spec PyProof.Rows Itm
section
variable {X:Cx}
end
def TK (H H':Hp):Prop:=∀b xs,H b=some (.tup xs)→H' b=some (.tup xs)
theorem TK.of {H H':Hp} (s:ak H H'):TK H H':=λb xs h=>s b _ h
theorem TK.put {H:Hp} {a:Addr} {o o':HO} (h:H a=some o) (ho:∀xs,o≠.tup xs):TK H (upd H a o'):=λb xs hb=>by
 rw[af (λe=>by rw[e,h] at hb;exact ho xs (aa3 hb))];exact hb
theorem Qc {J:It} {fr:St} {tc:TT} {te:TE} {D:Addr} {H1:Hp} {Q:Hp→Prop} (n:Nat) (item:Nat→V) (P:Nat→List V→Hp→Prop) (mono:∀i ys H H',TK H H'→P i ys H→P i ys H') (hn:n < sizeLine) (hD:H1 D=none)
  (hgo:∀i H,i < n→ak H1 H→J.go i H) (hyld:∀i H x H',i < n→ak H1 H→J.yld i H x H'→H'=H∧x=item i) (hstop:∀H,ak H1 H→J.stop n H) (h0:P 0 [] H1)
  (step:∀i ys H (G:Hp→Prop) (K':V→Hp→Prop),i < n→P i ys H→ys.length≤i→ak H1 H→(∀H3,ak H H3→P (i+1) ys H3→G H3)→(∀y H4,ak H H4→P (i+1) (ys++[y]) H4→K' y H4)→tc ([some (item i)]++fr) H λb H3=>if b=true then te ([some (item i)]++fr) H3 K' else G H3)
  (done:∀ys H,P n ys H→ys.length≤n→ak H1 H→H D=some (.lst ys)→Q H):LC 1 fr (cj 0) tc te J D H1 Q:=by
 refine ⟨λi m H=>m=n - i∧i≤n∧∃ys,H D=some (.lst ys)∧P i ys H∧ys.length≤i∧ak H1 H,⟨n,by simp,aa8 _,[],ae,mono _ _ _ _ (TK.of (aa hD _)) h0,aa6 _,aa hD _⟩,?_⟩;rintro i m H ⟨rfl,hi,ys,hys,hP,hl,hS⟩;by_cases hlt:i < n
 ·refine .inr ⟨hgo i H hlt hS,λτ x H' hτ hy=>?_⟩;obtain ⟨e1,e2⟩:=hyld i H x H' hlt hS hy;subst e1 e2;obtain ⟨a,rfl⟩:∃a,τ=[a]:=List.length_eq_one_iff.mp hτ;refine ⟨⟨[some (item i)],rfl,rfl⟩,step i ys H' _ _ hlt hP hl hS (λH3 q1 q2=>?_) (λy H4 q1 q2=>?_)⟩
  ·exact ⟨n - (i+1),by omega,rfl,hlt,ys,q1 _ _ hys,q2,acu hl,hS.trans q1⟩
  ·refine ⟨ys,q1 _ _ hys,by omega,n - (i+1),by omega,rfl,hlt,ys++[y],ae,mono _ _ _ _ (TK.put (q1 _ _ hys) λxs e=>by cases e) q2,?_,(hS.trans q1).upd hD _⟩;rw[aa2,aa9];omega
 ·have e:i=n:=by omega
  subst e;exact .inl ⟨hstop H hS,done ys H hP hl hS hys⟩
end L2
namespace Fm
section
variable {α:Type}
noncomputable def ins (lt:α→α→Bool) (x:α):List α→List α
 | []=>[x]
 | y::r=>if lt y x=true then y::ins lt x r else x::y::r
noncomputable def Fi (lt:α→α→Bool) (l:List α):List α:=l.foldr (ins lt) []
variable {lt:α→α→Bool}
theorem wj (x:α):∀l:List α,(ins lt x l).Perm (x::l)
 | []=>ads _
 | y::r=>by
  show (if lt y x=true then y::ins lt x r else x::y::r).Perm _
  split
  ·exact ((wj x r).cons y).trans (List.Perm.swap x y r)
  ·exact ads _
theorem gz:∀l:List α,(Fi lt l).Perm l
 | []=>ads _
 | x::r=>(wj x (Fi lt r)).trans ((gz r).cons x)
def Srt (lt:α→α→Bool) (l:List α):Prop:=l.Pairwise λa b=>lt b a=false
structure Pre (lt:α→α→Bool):Prop where
 irr:∀x,lt x x=false
 tr:∀{x y z},lt x y=true→lt y z=true→lt x z=true
 neg:∀{x z} (y:α),lt x z=true→lt x y=true∨lt y z=true
theorem Fd (o:Pre lt) (x:α):∀{l:List α},Srt lt l→Srt lt (ins lt x l)
 | [],_=>List.pairwise_singleton _ _
 | y::r,h=>by
  obtain ⟨h1,h2⟩:=List.pairwise_cons.mp h;show Srt lt (if lt y x=true then y::ins lt x r else x::y::r)
  split
  ·rename_i c
   refine List.pairwise_cons.mpr ⟨λz hz=>?_,Fd o x h2⟩;rcases List.mem_cons.mp ((wj x r).mem_iff.mp hz) with e | e
   ·rw[e];cases q:lt x y with
    | false=>rfl
    | true=>exact absurd (o.tr c q) (by rw[o.irr];decide)
   ·exact h1 z e
  ·rename_i c
   have c:lt y x=false:=Bool.eq_false_iff.mpr c;refine List.pairwise_cons.mpr ⟨λz hz=>?_,h⟩;rcases List.mem_cons.mp hz with e | e
   ·rw[e];exact c
   ·cases q:lt z x with
    | false=>rfl
    | true=>
     rcases o.neg y q with k | k
     ·rw[h1 z e] at k;cases k
     ·rw[c] at k;cases k
theorem qg (o:Pre lt):∀l:List α,Srt lt (Fi lt l)
 | []=>acs
 | x::r=>Fd o x (qg o r)
theorem my [DecidableEq α] (o:Lin lt):∀{l m:List α},l.Perm m→Srt lt l→Srt lt m→l=m
 | [],m,h,_,_=>h.nil_eq
 | a::r,[],h,_,_=>absurd h.length_eq (by simp)
 | a::r,b::s,h,h1,h2=>by
  obtain ⟨p1,p2⟩:=List.pairwise_cons.mp h1;obtain ⟨q1,q2⟩:=List.pairwise_cons.mp h2;have e:a=b:=by
   rcases List.mem_cons.mp (h.mem_iff.mp aan) with e | e
   ·exact e
   ·rcases List.mem_cons.mp (h.mem_iff.mpr aan) with k | k
    ·exact k.symm
    ·rcases o.tri a b with z | z | z
     ·rw[q1 a e] at z;cases z
     ·exact z
     ·rw[p1 b k] at z;cases z
  subst e;rw[my o (List.Perm.cons_inv h) p2 q2]
end
section
variable {N:Type} [DecidableEq N] {lt:N→N→Bool}
theorem Lin.pre (o:Lin lt) {β:Type} (f:β→N):Pre (λp q:β=>lt (f p) (f q)):=⟨λx=>o.irr _,λh k=>o.tr h k,λ{x z} y h=>by
 rcases o.tri (f x) (f y) with k | k | k
 ·exact .inl k
 ·rw[←k];exact .inr h
 ·exact .inr (o.tr k h)⟩
end
end Fm
namespace Pc
open PySem PySem.Spec L2 PyProof.Rows Fm
theorem linS:Lin ltS:=⟨lg,vi,zz⟩
noncomputable def cv (l:List Str):List Str:=Fi ltS l
theorem Ld {l m:List Str} (hp:m.Perm l) (hs:Srt ltS m):m=cv l:=my linS (hp.trans (gz l).symm) hs (qg (linS.pre id) l)
theorem qh (l:List Str):(cv l).length=l.length:=(gz l).length_eq
theorem Iq {l:List Str} {z:Str}:z∈cv l↔z∈l:=(gz l).mem_iff
end Pc
namespace Pc
open PySem PySem.Spec L2 PyProof.Rows Fm
end Pc
namespace Pc
open PySem PySem.Spec L2 PyProof.Rows Fm
end Pc
namespace L2
open PySem PySem.Spec PyProof.Rows PySem.SeqAt Pc
section
variable {P:Program} {w:World} {A:Around} {s:Shared} {H:Hp}
end
section
variable {X:Cx}
end
end L2
namespace L2
open PySem
theorem Dh {k:Nat} {A:Around} (r:iy k A):A.units+8 < cLine:=by
 have:=r.units;omega
end L2
namespace Pc
open PySem PySem.Spec L2 PyProof.Rows Fm
end Pc
namespace L2
open PySem
end L2
namespace Pc
open PySem PySem.Spec L2 PyProof.Rows Fm
theorem getD_some {α:Type} {l:List α} {i:Nat} {d x:α} (h:l[i]?=some x):l.getD i d=x:=by rw[aa4,h];rfl
end Pc
namespace Pc
open PySem PySem.Spec L2 PyProof.Rows Fm
end Pc
namespace Pc
open PySem PySem.Spec L2 PyProof.Rows Fm
theorem zq {zs:List Str} {is:List Nat} (hp:is.Perm (aat (zs.map V.str).length)) (hi:∀i j,i≤j→j < (zs.map V.str).length→rank zs.length (λi j=>ltS (zs.getD i "") (zs.getD j "")) (is.getD i 0)≤rank zs.length (λi j=>ltS (zs.getD i "") (zs.getD j "")) (is.getD j 0)):
  (is.map λi=>(zs.map V.str).getD i .non)=(cv zs).map V.str:=by
 rw[aa1] at hp hi;have hlen:is.length=zs.length:=by rw[hp.length_eq,abd]
 have hmem:∀i∈is,i < zs.length:=λi h=>List.mem_range.mp (hp.mem_iff.mp h);have e1:(is.map λi=>(zs.map V.str).getD i .non)=(is.map λi=>zs.getD i "").map V.str:=by
  rw[ac5];apply adp
  intro i h;have hi:=hmem i h;show (zs.map V.str).getD i .non=V.str (zs.getD i "")
  rw[getD_some (x:=V.str zs[i]) (by rw[aa7,aa0 hi];rfl),getD_some (aa0 hi)]
 rw[e1];congr 1
 refine Ld ?_ ?_
 ·have e:(aat zs.length).map (λi=>zs.getD i "")=zs:=by
   apply acd
   intro i;rw[aa7];by_cases h:i < zs.length
   ·rw[adq h,aa0 h];show some (zs.getD i "")=_
    rw[getD_some (aa0 h)]
   ·rw[List.getElem?_eq_none_iff.mpr (by rw[abd];omega),List.getElem?_eq_none_iff.mpr (by omega)];rfl
  have:=hp.map λi=>zs.getD i "";rw[e] at this;exact this
 ·refine List.pairwise_map.mpr (List.pairwise_iff_getElem.mpr λi j h1 h2 hij=>?_);have o:Ord zs.length λi j=>ltS (zs.getD i "") (zs.getD j ""):=⟨λ_ _=>lg _,λ_ _ _ _ _ _ a b=>vi a b,λ_ j _ _ _ _ a=>Gv _ a⟩;have hr:=hi i j (ac4 hij) (by omega);rw[getD_some (aa0 h1),getD_some (aa0 h2)] at hr;have hrk:=o.rank (i:=is[j]) (j:=is[i]) (hmem _ (ab3 h2)) (hmem _ (ab3 h1));rw[decide_eq_false (by omega)] at hrk;exact hrk.symm
end Pc
namespace L2.Zd
open PySem
abbrev IsZ (h:Heap) (z TI TO:Addr) (f0 f1:Value):Prop:=
 h.get? z=some { cls:=.type "zip",dict:=none,data:=.fields #[f0,f1,.bool false,.ref TI,.ref TO],slots:=#[] }
section
variable {prog:Program} {w:World} {A:Around} {E:Value→Shared→Prop} {s:Shared}
theorem alive {M:Model} {a:Addr} {Q:Option Obj→Shared→Prop} (h:Q (s.heap.get? a) s):wpAny M A (loadIfAlive a) Q E s:=λΓ p hΓ=>by
 unfold loadIfAlive;rw[Sem.wp_loadIfAlive];exact wpAny_pure h Γ p hΓ
theorem Mw {z TI TO T:Addr} {b:Bool} {o:Obj} {Q:Bool→Shared→Prop} (hz:IsZ s.heap z TI TO (rawInt T) (.bool b)) (ho:s.heap.get? T=some o)
  (q:∀h',IsZ h' z TI TO (rawInt T) (.bool true)→Heap.SameBut z s.heap h'→Q false { s with heap:=h' }):wpAny (model prog w) A (Builtin.SmallTypes.ownedTupleIsFree (.ref z)) Q E s:=by
 unfold Builtin.SmallTypes.ownedTupleIsFree;refine wpAny_bind (wpAny_field hz rfl (x:=rawInt T) rfl ?_);show wpAny _ _ (loadIfAlive T >>=_) _ _ _
 refine wpAny_bind (alive ?_);rw[ho];show wpAny _ _ (field (.ref z) 1 >>=_) _ _ _
 refine wpAny_bind (wpAny_field hz rfl (x:=.bool b) rfl ?_);cases b with
 | true=>exact wpAny_pure (q s.heap hz (Heap.SameBut.refl _ _))
 | false=>exact wpAny_bind (wpAny_setField_rec hz (by simp) λh' hz' hs'=>wpAny_pure (q h' hz' hs'))
end
end L2.Zd
namespace L2.Zg
open PySem L2.Zd
def Hf:Bool→Addr→Addr→Array Value→Nat→Heap→Prop
 | false,it,l,xs,k,h=>h.IsListIter it l k∧h.IsList l xs
 | true,it,l,xs,k,h=>h.IsTupleIter it l k∧h.IsTuple l xs
theorem Hf.keep {b:Bool} {it l:Addr} {xs:Array Value} {k:Nat} {h h':Heap} (x:Hf b it l xs k h) (g1:∀o,h.get? it=some o→h'.get? it=some o) (g2:∀o,h.get? l=some o→h'.get? l=some o):Hf b it l xs k h':=by
 cases b
 ·obtain ⟨⟨o,e,r⟩,⟨o',e',r'⟩⟩:=x;exact ⟨⟨o,g1 _ e,r⟩,⟨o',g2 _ e',r'⟩⟩
 ·obtain ⟨⟨o,e,r⟩,⟨o',e',r'⟩⟩:=x;exact ⟨⟨o,g1 _ e,r⟩,⟨o',g2 _ e',r'⟩⟩
section
variable {prog:Program} {w:World} {A:Around} {E:Value→Shared→Prop} {s:Shared}
theorem Hf.next {b:Bool} {it l:Addr} {xs:Array Value} {k:Nat} {v:Value} {Q:Value→Shared→Prop} (x:Hf b it l xs k s.heap) (hne:l≠it) (hx:xs[k]?=some v)
  (hQ:∀h',Hf b it l xs (k+1) h'→Heap.SameBut it s.heap h'→Q v { s with heap:=h' }):wpAny (model prog w) A (Builtin.SmallTypes.nextOf (.ref it)) Q E s:=by
 cases b
 ·obtain ⟨x1,x2⟩:=x;exact wpAny_nextOf_list_item x1 x2 hx λh' a b=>hQ h' ⟨a,x2.extBut b.extBut hne⟩ b
 ·obtain ⟨x1,x2⟩:=x;have ty:=x1.typeIs;obtain ⟨oi,hoi,ci,di⟩:=id x1;obtain ⟨ot,hot,_,nt,dt⟩:=id x2;unfold Builtin.SmallTypes.nextOf;refine wpAny_bind (wpAny_callSpecial?_slot (name:=Str.ofString "__next__") ty F.slot_tuple_iterator_next (wpAny_call_entry F.slot_tuple_iterator_next ty F.entry_tuple_iterator_next ?_ (F.args_tuple_iterator_next_1 _)));show wpAny _ _ (field (.ref it) 0 >>=_) _ _ s
  refine wpAny_bind (wpAny_field hoi di (x:=.ref l) rfl ?_);show wpAny _ _ (if (Value.ref l==Value.none)=true then _ else _) _ _ s
  rw[if_neg (show ¬((Value.ref l==Value.none)=true) from aab)];show wpAny _ _ (field (.ref it) 1 >>=_) _ _ s
  refine wpAny_bind (wpAny_field hoi di (x:=.int k 0) rfl ?_);show wpAny _ _ (seqItems? (.ref l) >>=_) _ _ s
  refine wpAny_bind (wpAny_seqItems hot dt ?_);simp only[ac8,hx];refine wpAny_bind (wpAny_setField hoi di (by simp) (wpAny_pure ⟨v,rfl,wpAny_pure (hQ _ ⟨⟨_,Heap.get?_update_self _ hoi (Obj.isFreed_of_fields (Obj.data_mapFields di _)),(Obj.cls_mapFields ..).trans ci,by rw[Obj.data_mapFields di];simp[rawInt]⟩,x2.extBut (Heap.SameBut.update ..).extBut hne⟩ (Heap.SameBut.update ..))⟩))
theorem Hf.stop {b:Bool} {it l:Addr} {xs:Array Value} {k:Nat} {Q:Value→Shared→Prop} (hh:A.handled=none) (x:Hf b it l xs k s.heap) (hx:xs[k]?=none)
  (hE:∀h' e,Heap.ExtBut it s.heap h'→(∃o,h'.get? e=some o∧o.cls=.type "StopIteration")→E (.ref e) { s with heap:=h' }):wpAny (model prog w) A (Builtin.SmallTypes.nextOf (.ref it)) Q E s:=by
 cases b
 ·obtain ⟨x1,x2⟩:=x;exact wpAny_nextOf_list_end hh x1 x2 hx hE
 ·obtain ⟨x1,x2⟩:=x;have ty:=x1.typeIs;obtain ⟨oi,hoi,ci,di⟩:=id x1;obtain ⟨ot,hot,_,nt,dt⟩:=id x2;unfold Builtin.SmallTypes.nextOf;refine wpAny_bind (wpAny_callSpecial?_slot (name:=Str.ofString "__next__") ty F.slot_tuple_iterator_next (wpAny_call_entry F.slot_tuple_iterator_next ty F.entry_tuple_iterator_next ?_ (F.args_tuple_iterator_next_1 _)));show wpAny _ _ (field (.ref it) 0 >>=_) _ _ s
  refine wpAny_bind (wpAny_field hoi di (x:=.ref l) rfl ?_);show wpAny _ _ (if (Value.ref l==Value.none)=true then _ else _) _ _ s
  rw[if_neg (show ¬((Value.ref l==Value.none)=true) from aab)];show wpAny _ _ (field (.ref it) 1 >>=_) _ _ s
  refine wpAny_bind (wpAny_field hoi di (x:=.int k 0) rfl ?_);show wpAny _ _ (seqItems? (.ref l) >>=_) _ _ s
  refine wpAny_bind (wpAny_seqItems hot dt ?_);simp only[ac8,hx];refine wpAny_bind (wpAny_rule (wpAny_bind (wpAny_setField hoi di (by simp) ?_)));show wpAny _ _ (newExc (.type "StopIteration") [] >>=_) _ _ _
  refine wpAny_bind ?_;simp only[newExc,newTuple];refine wpAny_bind (wpAny_newObj_type ?_ (by size_fits));refine wpAny_bind (m:=firstArgMember _ _) (wpAny_of_eq (a:=Value.none) (by first | rfl | (simp only[firstArgMember];rfl)) ?_);refine wpAny_newObj_type ?_ (by size_fits);simp only[raiseNew];refine wpAny_bind (wpAny_handled ?_);first | rw[show A.in1.handled=none from hh] | rw[hh]
  refine wpAny_bind (wpAny_pure (wpAny_throw ?_));exact hE _ _ (((Heap.SameBut.update ..).extBut.push _).push _) ⟨_,Heap.get?_push_size _ rfl,rfl⟩
theorem free {z TI TO:Addr} {f0:Value} {b:Bool} {Q:Bool→Shared→Prop} (hz:IsZ s.heap z TI TO f0 (.bool b)) (hf:f0=.none∨∃T:Addr,f0=rawInt T)
  (q:∀r h' b',IsZ h' z TI TO f0 (.bool b')→Heap.SameBut z s.heap h'→Q r { s with heap:=h' }):wpAny (model prog w) A (Builtin.SmallTypes.ownedTupleIsFree (.ref z)) Q E s:=by
 rcases hf with rfl | ⟨T,rfl⟩
 ·unfold Builtin.SmallTypes.ownedTupleIsFree;refine wpAny_bind (wpAny_field hz rfl (x:=.none) rfl (wpAny_pure ?_));exact q true s.heap b hz (Heap.SameBut.refl _ _)
 ·cases ho:s.heap.get? T with
  | some o=>exact Mw hz ho λh' a c=>q false h' true a c
  | none=>
   unfold Builtin.SmallTypes.ownedTupleIsFree;refine wpAny_bind (wpAny_field hz rfl (x:=rawInt T) rfl ?_);show wpAny _ _ (loadIfAlive T >>=_) _ _ _
   refine wpAny_bind (alive ?_);rw[ho];exact wpAny_pure (q true s.heap b hz (Heap.SameBut.refl _ _))
end
def Zst (c1 c2:Bool) (z TI TO i1 i2 l1 l2:Addr) (xs ys:Array Value) (i:Nat) (h:Heap):Prop:=
 (∃f0 b,IsZ h z TI TO f0 (.bool b)∧(f0=.none∨∃T:Addr,f0=rawInt T))∧(∃a b,IsPair h TO a b)∧IsPair h TI (.ref i1) (.ref i2)∧Hf c1 i1 l1 xs i h∧Hf c2 i2 l2 ys i h
theorem Zst.keep {c1 c2:Bool} {z TI TO i1 i2 l1 l2:Addr} {xs ys:Array Value} {i:Nat} {h h':Heap} (x:Zst c1 c2 z TI TO i1 i2 l1 l2 xs ys i h) (k:∀c∈[z,TI,TO,i1,i2],∀o,h.get? c=some o→h'.get? c=some o) (k1:∀o,h.get? l1=some o→h'.get? l1=some o) (k2:∀o,h.get? l2=some o→h'.get? l2=some o):Zst c1 c2 z TI TO i1 i2 l1 l2 xs ys i h':=by
 obtain ⟨⟨f0,b,a1,a2⟩,⟨p,q,a3⟩,a4,a5,a6⟩:=x;exact ⟨⟨f0,b,k z (by simp) _ a1,a2⟩,⟨p,q,k TO (by simp) _ a3⟩,k TI (by simp) _ a4,a5.keep (k i1 (by simp)) k1,a6.keep (k i2 (by simp)) k2⟩
section
variable {prog:Program} {w:World} {A:Around} {E:Value→Shared→Prop} {s:Shared} {c1 c2:Bool} {z TI TO i1 i2 l1 l2:Addr} {xs ys:Array Value} {i:Nat}
theorem item {x y:Value} {Q:Value→Shared→Prop} (D:ZipApart z TI TO i1 i2 l1 l2) (hz:Zst c1 c2 z TI TO i1 i2 l1 l2 xs ys i s.heap) (hx:xs[i]?=some x) (hy:ys[i]?=some y)
  (hQ:∀h',Zst c1 c2 z TI TO i1 i2 l1 l2 xs ys (i+1) h'→IsPair h' s.heap.objs.size x y→h'.objs.size=s.heap.objs.size+1→(∀c o,c≠z→c≠TO→c≠i1→c≠i2→s.heap.get? c=some o→h'.get? c=some o)→Q (.ref s.heap.objs.size) { s with heap:=h' }):
  wpAny (model prog w) A (Builtin.«zip.__next__» ⟨[.ref z],[]⟩) (λfin s'=>∃v,fin=.done (.ret v)∧Q v s') E s:=by
 obtain ⟨⟨f0,b,z0,hf⟩,⟨p,q,hTO⟩,hTI,h1,h2⟩:=hz;show wpAny _ _ (field (.ref z) 2 >>=_) _ _ _
 refine wpAny_bind (wpAny_field z0 rfl (x:=.bool false) rfl ?_);show wpAny _ _ (field (.ref z) 3 >>=_) _ _ _
 refine wpAny_bind (wpAny_field z0 rfl (x:=.ref TI) rfl ?_);refine wpAny_bind (wpAny_seqItems hTI rfl ?_);show wpAny _ _ (Builtin.SmallTypes.ownedTupleIsFree (.ref z) >>=_) _ _ _
 refine wpAny_bind (free z0 hf λr h₁ b1 z1 s1=>?_);have k1:∀c o,c≠z→s.heap.get? c=some o→h₁.get? c=some o:=λc o n e=>s1.extBut _ _ n e;have H1:=h1.keep (λo e=>k1 _ o D.i1z e) λo e=>k1 _ o D.l1z e;have H2:=h2.keep (λo e=>k1 _ o D.i2z e) λo e=>k1 _ o D.l2z e;cases r with
 | false=>
  simp only[aaz,if_false];refine wpAny_bind ?_;rw[←aeu];simp only[adm,adt];refine wpAny_bind (wpAny_bind (wpAny_holding ?_));show wpAny _ _ (Builtin.SmallTypes.nextOf (.ref i1) >>=_) _ _ _
  refine wpAny_bind (H1.next (s:={ s with heap:=h₁ }) D.l1i1 hx λh₂ H1' s2=>wpAny_pure (wpAny_pure ?_));have s2:Heap.SameBut i1 h₁ h₂:=s2;have H2':=H2.keep (λo e=>s2.extBut _ _ D.i12.symm e) λo e=>s2.extBut _ _ D.l2i1 e;refine wpAny_bind (wpAny_bind (wpAny_holding ?_));show wpAny _ _ (Builtin.SmallTypes.nextOf (.ref i2) >>=_) _ _ _
  refine wpAny_bind (H2'.next (s:={ s with heap:=h₂ }) D.l2i2 hy λh₃ H2'' s3=>wpAny_pure (wpAny_pure (wpAny_pure ?_)));have s3:Heap.SameBut i2 h₂ h₃:=s3;refine wpAny_bind (wpAny_newTuple (hsz:=by show (2:Nat)≤sizeLine;decide) ?_);have sz:h₃.objs.size=s.heap.objs.size:=by rw[s3.1,s2.1,s1.1]
  have up:∀c o,c≠z→c≠i1→c≠i2→s.heap.get? c=some o→(h₃.push { cls:=.type "tuple",data:=.seq #[x,y] }).get? c=some o:=λc o n1 n2 n3 e=>Heap.get?_push_of_some _ (s3.extBut _ _ n3 (s2.extBut _ _ n2 (s1.extBut _ _ n1 e)));refine wpAny_pure ⟨_,rfl,?_⟩;rw[sz];refine hQ _ ⟨⟨f0,b1,Heap.get?_push_of_some _ (s3.extBut _ _ D.i2z.symm (s2.extBut _ _ D.i1z.symm z1)),hf⟩,⟨p,q,up _ _ D.TOz D.TOi1 D.TOi2 hTO⟩,up _ _ D.TIz D.TIi1 D.TIi2 hTI,?_,H2''.keep (λo e=>Heap.get?_push_of_some _ e) λo e=>Heap.get?_push_of_some _ e⟩ ?_ (by rw[Heap.size_push,sz]) λc o n1 _ n3 n4 e=>up c o n1 n3 n4 e
  ·exact H1'.keep (λo e=>Heap.get?_push_of_some _ (s3.extBut _ _ D.i12 e)) λo e=>Heap.get?_push_of_some _ (s3.extBut _ _ D.l1i2 e)
  ·rw[←sz];exact Heap.get?_push_size _ rfl
 | true=>
  simp only[if_true];refine wpAny_bind (wpAny_rule ?_);refine wpAny_bind (wpAny_field z1 rfl (x:=.ref TO) rfl ?_);refine wpAny_bind (wpAny_setField_rec z1 (by simp) λh₂ z2 s2=>?_);replace z2:IsZ h₂ z TI TO .ellipsis (.bool b1):=z2
  have s2:Heap.SameBut z h₁ h₂:=s2;refine wpAny_bind ?_;simp only[afa,afg,adm,adt];have H1a:=H1.keep (λo e=>s2.extBut _ _ D.i1z e) λo e=>s2.extBut _ _ D.l1z e;have H2a:=H2.keep (λo e=>s2.extBut _ _ D.i2z e) λo e=>s2.extBut _ _ D.l2z e;refine wpAny_bind (wpAny_bind (wpAny_onRaise ?_));show wpAny _ _ (Builtin.SmallTypes.nextOf (.ref i1) >>=_) _ _ _
  refine wpAny_bind (H1a.next (s:={ s with heap:=h₂ }) D.l1i1 hx λh₃ H1b s3=>wpAny_pure ?_);have s3:Heap.SameBut i1 h₂ h₃:=s3;have o3:IsPair h₃ TO p q:=s3.extBut _ _ D.TOi1 (s2.extBut _ _ D.TOz (k1 _ _ D.TOz hTO));refine wpAny_bind (wpAny_seqItems o3 rfl ?_);refine wpAny_bind (wpAny_updateSeq_pair o3 λh₄ o4 s4=>?_);replace o4:IsPair h₄ TO x q:=o4
  have s4:Heap.SameBut TO h₃ h₄:=s4;refine wpAny_bind (wpAny_letGo (wpAny_pure ?_));have H2b:=H2a.keep (λo e=>s4.extBut _ _ D.TOi2.symm (s3.extBut _ _ D.i12.symm e)) λo e=>s4.extBut _ _ D.l2TO (s3.extBut _ _ D.l2i1 e);refine wpAny_bind (wpAny_bind (wpAny_onRaise ?_));show wpAny _ _ (Builtin.SmallTypes.nextOf (.ref i2) >>=_) _ _ _
  refine wpAny_bind (H2b.next (s:={ s with heap:=h₄ }) D.l2i2 hy λh₅ H2c s5=>wpAny_pure ?_);have s5:Heap.SameBut i2 h₄ h₅:=s5;have o5:IsPair h₅ TO x q:=s5.extBut _ _ D.TOi2 o4;refine wpAny_bind (wpAny_seqItems o5 rfl ?_);refine wpAny_bind (wpAny_updateSeq_pair o5 λh₆ o6 s6=>?_);replace o6:IsPair h₆ TO x y:=o6
  have s6:Heap.SameBut TO h₅ h₆:=s6;refine wpAny_bind (wpAny_letGo (wpAny_pure (wpAny_pure ?_)));refine wpAny_bind (wpAny_seqItems o6 rfl ?_);refine wpAny_bind (wpAny_newTuple ?_);have sz:h₆.objs.size=s.heap.objs.size:=by rw[s6.1,s5.1,s4.1,s3.1,s2.1,s1.1]
  have z6:IsZ h₆ z TI TO .ellipsis (.bool b1):=s6.extBut _ _ D.TOz.symm (s5.extBut _ _ D.i2z.symm (s4.extBut _ _ D.TOz.symm (s3.extBut _ _ D.i1z.symm z2)));have up:∀c o,c≠z→c≠TO→c≠i1→c≠i2→s.heap.get? c=some o→h₆.get? c=some o:=λc o n1 n2 n3 n4 e=>s6.extBut _ _ n2 (s5.extBut _ _ n4 (s4.extBut _ _ n2 (s3.extBut _ _ n3 (s2.extBut _ _ n1 (k1 _ _ n1 e)))));have H1c:=H1b.keep (λo e=>s6.extBut _ _ D.TOi1.symm (s5.extBut _ _ D.i12 (s4.extBut _ _ D.TOi1.symm e))) λo e=>s6.extBut _ _ D.l1TO (s5.extBut _ _ D.l1i2 (s4.extBut _ _ D.l1TO e));have H2d:=H2c.keep (λo e=>s6.extBut _ _ D.TOi2.symm e) λo e=>s6.extBut _ _ D.l2TO e;have zl:z < h₆.objs.size:=Heap.lt_size z6;show wpAny _ _ (Builtin.SmallTypes.ownedTupleHandOut (.ref z) (.ref h₆.objs.size) >>=_) _ _ _
  refine wpAny_bind ?_;unfold Builtin.SmallTypes.ownedTupleHandOut;have z7:IsZ (h₆.push { cls:=.type "tuple",data:=.seq #[x,y] }) z TI TO .ellipsis (.bool b1):=Heap.get?_push_of_some _ z6;refine wpAny_bind (wpAny_setField_rec z7 (by simp) λh₈ z8 s8=>?_);replace z8:IsZ h₈ z TI TO (rawInt h₆.objs.size) (.bool b1):=z8
  refine wpAny_setField_rec z8 (by simp) λh₉ z9 s9=>?_;replace z9:IsZ h₉ z TI TO (rawInt h₆.objs.size) (.bool false):=z9
  have u9:∀c o,c≠z→h₆.get? c=some o→h₉.get? c=some o:=λc o n e=>s9.extBut _ _ n (s8.extBut _ _ n (Heap.get?_push_of_some _ e));have t9:IsPair h₉ h₆.objs.size x y:=s9.extBut _ _ (abq zl) (s8.extBut _ _ (abq zl) (Heap.get?_push_size _ rfl));have n9:h₉.objs.size=h₆.objs.size+1:=by rw[s9.1,s8.1,Heap.size_push]
  rw[sz] at z9 t9 n9;refine wpAny_pure ⟨_,rfl,?_⟩;show Q (.ref h₆.objs.size) _
  rw[sz];exact hQ h₉ ⟨⟨_,false,z9,.inr ⟨_,rfl⟩⟩,⟨x,y,u9 _ _ D.TOz o6⟩,u9 _ _ D.TIz (up _ _ D.TIz D.TITO D.TIi1 D.TIi2 hTI),H1c.keep (λo e=>u9 _ o D.i1z e) λo e=>u9 _ o D.l1z e,H2d.keep (λo e=>u9 _ o D.i2z e) λo e=>u9 _ o D.l2z e⟩ t9 n9 λc o n1 n2 n3 n4 e=>u9 c o n1 (up c o n1 n2 n3 n4 e)
theorem fin {Q:Fin→Shared→Prop} (hh:A.handled=none) (D:ZipApart z TI TO i1 i2 l1 l2) (hz:Zst c1 c2 z TI TO i1 i2 l1 l2 xs ys i s.heap) (hx:xs[i]?=none)
  (hE:∀h' e,(∀c o,c≠z→c≠TO→c≠i1→c≠i2→s.heap.get? c=some o→h'.get? c=some o)→(∃o,h'.get? e=some o∧o.cls=.type "StopIteration")→E (.ref e) { s with heap:=h' }):
  wpAny (model prog w) A (Builtin.«zip.__next__» ⟨[.ref z],[]⟩) Q E s:=by
 obtain ⟨⟨f0,b,z0,hf⟩,⟨p,q,hTO⟩,hTI,h1,h2⟩:=hz;show wpAny _ _ (field (.ref z) 2 >>=_) _ _ _
 refine wpAny_bind (wpAny_field z0 rfl (x:=.bool false) rfl ?_);show wpAny _ _ (field (.ref z) 3 >>=_) _ _ _
 refine wpAny_bind (wpAny_field z0 rfl (x:=.ref TI) rfl ?_);refine wpAny_bind (wpAny_seqItems hTI rfl ?_);show wpAny _ _ (Builtin.SmallTypes.ownedTupleIsFree (.ref z) >>=_) _ _ _
 refine wpAny_bind (free z0 hf λr h₁ b1 z1 s1=>?_);have k1:∀c o,c≠z→s.heap.get? c=some o→h₁.get? c=some o:=λc o n e=>s1.extBut _ _ n e;have H1:=h1.keep (λo e=>k1 _ o D.i1z e) λo e=>k1 _ o D.l1z e;cases r with
 | false=>
  simp only[aaz,if_false];refine wpAny_bind ?_;rw[←aeu];simp only[adm,adt];refine wpAny_bind (wpAny_bind (wpAny_holding ?_));show wpAny _ _ (Builtin.SmallTypes.nextOf (.ref i1) >>=_) _ _ _
  exact wpAny_bind (H1.stop (s:={ s with heap:=h₁ }) hh hx λh₂ e s2 he=>hE h₂ e (λc o n1 _ n3 _ g=>s2 _ _ n3 (k1 _ _ n1 g)) he)
 | true=>
  simp only[if_true];refine wpAny_bind (wpAny_rule ?_);refine wpAny_bind (wpAny_field z1 rfl (x:=.ref TO) rfl ?_);refine wpAny_bind (wpAny_setField_rec z1 (by simp) λh₂ z2 s2=>?_);replace z2:IsZ h₂ z TI TO .ellipsis (.bool b1):=z2
  have s2:Heap.SameBut z h₁ h₂:=s2;refine wpAny_bind ?_;simp only[afa,afg,adm,adt];have H1a:=H1.keep (λo e=>s2.extBut _ _ D.i1z e) λo e=>s2.extBut _ _ D.l1z e;refine wpAny_bind (wpAny_bind (wpAny_onRaise ?_));show wpAny _ _ (Builtin.SmallTypes.nextOf (.ref i1) >>=_) _ _ _
  refine wpAny_bind (H1a.stop (s:={ s with heap:=h₂ }) hh hx λh₃ e s3 he=>?_);obtain ⟨oe,hoe,hce⟩:=he;have z3:IsZ h₃ z TI TO .ellipsis (.bool b1):=s3 _ _ D.i1z.symm z2;have hez:e≠z:=λx=>by subst x;rw[z3] at hoe;cases hoe;simp at hce
  exact wpAny_setField_rec z3 (by simp) λh₄ _ s4=>hE h₄ e (λc o n1 _ n3 _ g=>s4.extBut _ _ n1 (s3 _ _ n3 (s2.extBut _ _ n1 (k1 _ _ n1 g)))) ⟨oe,s4.extBut _ _ hez hoe,hce⟩
theorem L6 {x y:Value} {Q:Option Value→Shared→Prop} (D:ZipApart z TI TO i1 i2 l1 l2) (hz:Zst c1 c2 z TI TO i1 i2 l1 l2 xs ys i s.heap) (hx:xs[i]?=some x) (hy:ys[i]?=some y)
  (hQ:∀h',Zst c1 c2 z TI TO i1 i2 l1 l2 xs ys (i+1) h'→IsPair h' s.heap.objs.size x y→h'.objs.size=s.heap.objs.size+1→(∀c o,c≠z→c≠TO→c≠i1→c≠i2→s.heap.get? c=some o→h'.get? c=some o)→Q (some (.ref s.heap.objs.size)) { s with heap:=h' }):
  wpAny (model prog w) A (pyNext (.ref z)) Q E s:=by
 have hT:s.TypeIs (.ref z) "zip":=by obtain ⟨⟨f0,b,z0,_⟩,_⟩:=hz;exact ⟨_,z0,rfl⟩
 unfold pyNext;exact wpAny_bind (wpAny_attempt (wpAny_callSpecial?_slot (name:=Str.ofString "__next__") hT F.slot_zip_next (wpAny_call_entry F.slot_zip_next hT F.entry_zip_next (item D hz hx hy λh' a b c d=>wpAny_pure (hQ h' a b c d)) (F.args_zip_next_1 _))))
theorem pyFin {Q:Option Value→Shared→Prop} (hh:A.handled=none) (D:ZipApart z TI TO i1 i2 l1 l2) (hz:Zst c1 c2 z TI TO i1 i2 l1 l2 xs ys i s.heap) (hx:xs[i]?=none)
  (hQ:∀h',(∀c o,c≠z→c≠TO→c≠i1→c≠i2→s.heap.get? c=some o→h'.get? c=some o)→Q none { s with heap:=h' }):wpAny (model prog w) A (pyNext (.ref z)) Q E s:=by
 have hT:s.TypeIs (.ref z) "zip":=by obtain ⟨⟨f0,b,z0,_⟩,_⟩:=hz;exact ⟨_,z0,rfl⟩
 unfold pyNext;refine wpAny_bind (wpAny_attempt (wpAny_callSpecial?_slot (name:=Str.ofString "__next__") hT F.slot_zip_next (wpAny_call_entry F.slot_zip_next hT F.entry_zip_next (fin (by first | exact hh | simp[hh]) D hz hx λh' e hk he=>?_) (F.args_zip_next_1 _))));obtain ⟨o,ho,hc⟩:=he;refine wpAny_bind (wpAny_isInstance (T:="StopIteration") (b:=true) ⟨o,ho,hc⟩ isSubtype_stop ?_);exact wpAny_pure (hQ _ hk)
theorem Kq {Q:Value→Shared→Prop} (hz:Zst c1 c2 z TI TO i1 i2 l1 l2 xs ys i s.heap) (h:Q (.ref z) s):wpAny (model prog w) A (pyIter (.ref z)) Q E s:=by
 have hT:s.TypeIs (.ref z) "zip":=by obtain ⟨⟨f0,b,z0,_⟩,_⟩:=hz;exact ⟨_,z0,rfl⟩
 refine wpAny_pyIter_slot hT F.slot_zip_iter (wpAny_call_entry F.slot_zip_iter hT F.entry_zip_iter ?_ (F.args_zip_iter_1 _));show wpAny _ _ (ret (.ref z)) _ _ s
 exact wpAny_pure ⟨_,rfl,"zip",_,hT,F.slot_zip_next.lookup,h⟩
end
end L2.Zg
namespace L2.Zg
open PySem L2.Zd
theorem new_tl (l1 l2:Addr) (xs ys:Array Value):
  Meets (Builtin.«zip.__new__» ⟨[.type "zip",.ref l1,.ref l2],[]⟩) (λ_ R s=>s.heap.IsTuple l1 xs∧s.heap.IsList l2 ys∧
   R (.ok (.ret (.ref (s.heap.objs.size+4)))) { s with heap:=((((s.heap.push { cls:=.type "tuple_iterator",data:=.fields #[.ref l1,.int 0 0] }).push { cls:=.type "list_iterator",data:=.fields #[.ref l2,.int 0 0] }).push { cls:=.type "tuple",data:=.seq #[.ref s.heap.objs.size,.ref (s.heap.objs.size+1)] }).push { cls:=.type "tuple",data:=.seq #[.none,.none] }).push { cls:=.type "zip",data:=.fields #[.none,.bool false,.bool false,.ref (s.heap.objs.size+2),.ref (s.heap.objs.size+3)] } }):=
 .of_wp λprog w A R s h=>by
  obtain ⟨hp,g,d,tk,os⟩:=s;obtain ⟨hl1,hl2,h⟩:=h;have hsub:=sub_zip;have hL1:Heap.IsTuple (Shared.heap ⟨hp,g,d,tk,os⟩) l1 xs:=hl1;have hL2:Heap.IsList (Shared.heap ⟨hp.push { cls:=.type "tuple_iterator",data:=.fields #[.ref l1,.int 0 0] },g,d,tk,os⟩) l2 ys:=Heap.IsList.push hl2 _;simp only[←Heap.size_push] at h;wp_walk using wpAny_pyIter_tuple hL1,wpAny_pyIter_list hL2
  simp only[Heap.size_push] at h ⊢;exact ⟨_,rfl,h⟩
section
variable {prog:Program} {w:World} {A:Around} {E:Value→Shared→Prop} {s:Shared}
theorem Qn {l1 l2:Addr} {xs ys:Array Value} {Q:Value→Shared→Prop} (hl1:s.heap.IsTuple l1 xs) (hl2:s.heap.IsList l2 ys)
  (h:∀h',Zst true false (s.heap.objs.size+4) (s.heap.objs.size+2) (s.heap.objs.size+3) s.heap.objs.size (s.heap.objs.size+1) l1 l2 xs ys 0 h'→h'.objs.size=s.heap.objs.size+5→
   (∀c o,s.heap.get? c=some o→h'.get? c=some o)→Q (.ref (s.heap.objs.size+4)) { s with heap:=h' }):
  wpAny (model prog w) A (call (.type "zip") [.ref l1,.ref l2]) Q E s:=by
 refine callType_new F.called_zip (by decide) (F.typeCall_zip_2 _ _) (F.newCall_zip_2 _ _) (λobj=>F.args_object_init_3 obj _ _) F.entry_zip_new (new_tl l1 l2 xs ys) ⟨hl1,hl2,?_⟩;generalize hn:s.heap.objs.size=n at h ⊢;have e1:(s.heap.push { cls:=.type "tuple_iterator",data:=.fields #[.ref l1,.int 0 0] }).get? n=some { cls:=.type "tuple_iterator",data:=.fields #[.ref l1,.int 0 0] }:=by rw[←hn];exact Heap.get?_push_size _ rfl
 have n1:(s.heap.push { cls:=.type "tuple_iterator",data:=.fields #[.ref l1,.int 0 0] }).objs.size=n+1:=by rw[Heap.size_push,hn]
 have k1:∀c o,s.heap.get? c=some o→(s.heap.push { cls:=.type "tuple_iterator",data:=.fields #[.ref l1,.int 0 0] }).get? c=some o:=λc o e=>Heap.get?_push_of_some _ e;generalize s.heap.push { cls:=.type "tuple_iterator",data:=.fields #[.ref l1,.int 0 0] }=h1 at e1 n1 k1 ⊢;have e2:(h1.push { cls:=.type "list_iterator",data:=.fields #[.ref l2,.int 0 0] }).get? (n+1)=some { cls:=.type "list_iterator",data:=.fields #[.ref l2,.int 0 0] }:=by rw[←n1];exact Heap.get?_push_size _ rfl
 have n2:(h1.push { cls:=.type "list_iterator",data:=.fields #[.ref l2,.int 0 0] }).objs.size=n+2:=by rw[Heap.size_push,n1]
 have k2:∀c o,h1.get? c=some o→(h1.push { cls:=.type "list_iterator",data:=.fields #[.ref l2,.int 0 0] }).get? c=some o:=λc o e=>Heap.get?_push_of_some _ e;generalize h1.push { cls:=.type "list_iterator",data:=.fields #[.ref l2,.int 0 0] }=h2 at e2 n2 k2 ⊢;have e3:(h2.push { cls:=.type "tuple",data:=.seq #[.ref n,.ref (n+1)] }).get? (n+2)=some { cls:=.type "tuple",data:=.seq #[.ref n,.ref (n+1)] }:=by rw[←n2];exact Heap.get?_push_size _ rfl
 have n3:(h2.push { cls:=.type "tuple",data:=.seq #[.ref n,.ref (n+1)] }).objs.size=n+3:=by rw[Heap.size_push,n2]
 have k3:∀c o,h2.get? c=some o→(h2.push { cls:=.type "tuple",data:=.seq #[.ref n,.ref (n+1)] }).get? c=some o:=λc o e=>Heap.get?_push_of_some _ e;generalize h2.push { cls:=.type "tuple",data:=.seq #[.ref n,.ref (n+1)] }=h3 at e3 n3 k3 ⊢;have e4:(h3.push { cls:=.type "tuple",data:=.seq #[.none,.none] }).get? (n+3)=some { cls:=.type "tuple",data:=.seq #[.none,.none] }:=by rw[←n3];exact Heap.get?_push_size _ rfl
 have n4:(h3.push { cls:=.type "tuple",data:=.seq #[.none,.none] }).objs.size=n+4:=by rw[Heap.size_push,n3]
 have k4:∀c o,h3.get? c=some o→(h3.push { cls:=.type "tuple",data:=.seq #[.none,.none] }).get? c=some o:=λc o e=>Heap.get?_push_of_some _ e;generalize h3.push { cls:=.type "tuple",data:=.seq #[.none,.none] }=h4 at e4 n4 k4 ⊢;have e5:(h4.push { cls:=.type "zip",data:=.fields #[.none,.bool false,.bool false,.ref (n+2),.ref (n+3)] }).get? (n+4)=some { cls:=.type "zip",data:=.fields #[.none,.bool false,.bool false,.ref (n+2),.ref (n+3)] }:=by rw[←n4];exact Heap.get?_push_size _ rfl
 have n5:(h4.push { cls:=.type "zip",data:=.fields #[.none,.bool false,.bool false,.ref (n+2),.ref (n+3)] }).objs.size=n+5:=by rw[Heap.size_push,n4]
 have k5:∀c o,h4.get? c=some o→(h4.push { cls:=.type "zip",data:=.fields #[.none,.bool false,.bool false,.ref (n+2),.ref (n+3)] }).get? c=some o:=λc o e=>Heap.get?_push_of_some _ e;generalize h4.push { cls:=.type "zip",data:=.fields #[.none,.bool false,.bool false,.ref (n+2),.ref (n+3)] }=h5 at e5 n5 k5 ⊢;have up:∀c o,s.heap.get? c=some o→h5.get? c=some o:=λc o e=>k5 _ _ (k4 _ _ (k3 _ _ (k2 _ _ (k1 _ _ e))));obtain ⟨o1,g1,r1⟩:=hl1;obtain ⟨o2,g2,r2⟩:=hl2;exact ⟨⟨_,e5,rfl⟩,h _ ⟨⟨.none,false,e5,.inl rfl⟩,⟨_,_,k5 _ _ e4⟩,k5 _ _ (k4 _ _ e3),⟨⟨_,k5 _ _ (k4 _ _ (k3 _ _ (k2 _ _ e1))),rfl,rfl⟩,⟨o1,up _ _ g1,r1⟩⟩,⟨⟨_,k5 _ _ (k4 _ _ (k3 _ _ e2)),rfl,rfl⟩,⟨o2,up _ _ g2,r2⟩⟩⟩ n5 up⟩
theorem Nz {l1 l2:Addr} {xs ys:Array Value} {Q:Value→Shared→Prop} (hl1:s.heap.IsList l1 xs) (hl2:s.heap.IsList l2 ys)
  (h:∀h',Zst false false (s.heap.objs.size+4) (s.heap.objs.size+2) (s.heap.objs.size+3) s.heap.objs.size (s.heap.objs.size+1) l1 l2 xs ys 0 h'→h'.objs.size=s.heap.objs.size+5→
   (∀c o,s.heap.get? c=some o→h'.get? c=some o)→Q (.ref (s.heap.objs.size+4)) { s with heap:=h' }):
  wpAny (model prog w) A (call (.type "zip") [.ref l1,.ref l2]) Q E s:=
 call_zip_2 hl1 hl2 λh' a1 a2 a3 a4 a5 a6 keep=>h h' ⟨⟨.none,false,a1,.inl rfl⟩,⟨_,_,a3⟩,a2,⟨a4,hl1.at λo e=>keep _ o e⟩,⟨a5,hl2.at λo e=>keep _ o e⟩⟩ a6 keep
end
structure Mk (xs ys:Array Value) (lo:Addr) (h:Heap) (as:List Addr):Prop where
 nd:as.Nodup
 up:∀a∈as,lo < a
 at':∀(j:Nat) (a:Addr),as[j]?=some a→∃x y,xs[j]?=some x∧ys[j]?=some y∧IsPair h a x y
section
variable {prog:Program} {w:World} {A:Around} {s:Shared} {R:Result→Shared→Prop} {c1 c2:Bool} {z TI TO i1 i2 l1 l2 S:Addr} {xs ys:Array Value}
theorem loop (hh:A.handled=none) (D:ZipApart z TI TO i1 i2 l1 l2) (hS:S∉[z,TI,TO,i1,i2,l1,l2]) (lo:Addr) (hlo:z≤lo∧TO≤lo∧i1≤lo∧i2≤lo∧S≤lo) (hn:xs.size=ys.size) (hz:xs.size≤sizeLine) (res:Value) {h₁:Heap}
  (hR:∀h' tk acc c as,(∀b o,b∉[S,z,TO,i1,i2]→h₁.get? b=some o→h'.get? b=some o)→h'.get? S=some { cls:=.type "list",dict:=none,data:=.seq acc c,slots:=#[] }→as.length=xs.size→Mk xs ys lo h' as→
   acc.toList=as.map Value.ref→R (.ok (.ret res)) { s with heap:=h',toks:=tk }):
  ∀(k i:Nat) (h:Heap) (tk c:Nat) (acc:Array Value) (as:List Addr),xs.size - i=k→i≤xs.size→Zst c1 c2 z TI TO i1 i2 l1 l2 xs ys i h→(∀b o,b∉[S,z,TO,i1,i2]→h₁.get? b=some o→h.get? b=some o)→
   h.get? S=some { cls:=.type "list",dict:=none,data:=.seq acc c,slots:=#[] }→acc.toList=as.map Value.ref→as.length=i→Mk xs ys lo h as→lo < h.objs.size→
   codeAny (model prog w) A (.builtin "list.extend.loop" ⟨[.ref S,.ref z,res],[]⟩) R { s with heap:=h,toks:=tk }:=by
 simp only[aaq,aad,or_false,not_or] at hS;obtain ⟨Sz,STI,STO,S1,S2,Sl1,Sl2⟩:=hS;intro k;induction k with
 | zero=>
  intro i h tk c acc as hk hi hst hkeep hSl hacc hal hG hIs;refine codeAny_builtin PySem.F.entry_extend_loop ?_;rw[Around.under_plainId PySem.F.plain_extend_loop _];show wpAny _ A.in1 (pyNext (.ref z) >>=_) _ _ _
  refine wpAny_bind (pyFin (s:={ s with heap:=h,toks:=tk }) (A:=A.in1) hh D hst (adf (by omega)) λh' he=>?_);refine wpAny_pure (hR h' tk acc c as (λb o hb e=>?_) (he S _ Sz STO S1 S2 hSl) (by omega) ⟨hG.nd,hG.up,λj a hj=>?_⟩ hacc)
  ·have hb':=hb;simp only[aaq,aad,or_false,not_or] at hb';exact he b o hb'.2.1 hb'.2.2.1 hb'.2.2.2.1 hb'.2.2.2.2 (hkeep b o hb e)
  ·obtain ⟨x,y,g1,g2,g3⟩:=hG.at' j a hj;have u:=hG.up a (aak hj);have ne:∀{c:Addr},c≤lo→a≠c:=λq=>abq (ad8 q u);exact ⟨x,y,g1,g2,he a _ (ne hlo.1) (ne hlo.2.1) (ne hlo.2.2.1) (ne hlo.2.2.2.1) g3⟩
 | succ k ih=>
  intro i h tk c acc as hk hi hst hkeep hSl hacc hal hG hIs;have hlt:i < xs.size:=by omega
  have hsz:acc.size=i:=by rw[←aag,hacc,aa1,hal]
  refine codeAny_builtin PySem.F.entry_extend_loop ?_;rw[Around.under_plainId PySem.F.plain_extend_loop _];show wpAny _ A.in1 (pyNext (.ref z) >>=_) _ _ _
  refine wpAny_bind (L6 (s:={ s with heap:=h,toks:=tk }) D hst (abn hlt) (abn (by omega)) λh' hst' ht hz' hkp=>?_);dsimp only at ht hz' hkp ⊢;have hS':=hkp S _ Sz STO S1 S2 hSl;have up:∀b o,b≠S→h'.get? b=some o→(h'.update S (Obj.mapSeq (·.push (Value.ref h.objs.size)))).get? b=some o:=λb o hb e=>(Heap.get?_update_other _ _ (Ne.symm hb)).trans e;have hSs:S < h.objs.size:=Heap.lt_size hSl;show wpAny _ A.in1 (updateSeq S (·.push (Value.ref h.objs.size)) >>=_) _ _ _
  refine wpAny_bind ?_;refine wpAny_updateSeq hS' rfl (wpAny_pure ⟨plainId_quiet PySem.F.plain_extend_loop _,ih (i+1) _ tk _ (acc.push (Value.ref h.objs.size)) (as++[h.objs.size]) (by omega) hlt
   (hst'.keep (λb hb o e=>up b o (λx=>by subst x;simp only[aaq,aad,or_false] at hb;rcases hb with q | q | q | q | q <;> exact absurd q (by assumption)) e) (λo e=>up _ o (Ne.symm Sl1) e) λo e=>up _ o (Ne.symm Sl2) e)
   (λb o hb e=>?_) (Heap.get?_update_self _ hS' rfl) (by rw[adb,hacc,aaa];rfl) (by rw[aa2,hal];rfl) ⟨?_,?_,?_⟩ ?_⟩) (by rw[hsz];omega) (by show (acc.push (Value.ref h.objs.size)).size≤sizeLine+1;rw[Array.size_push,hsz];omega)
  ·have hb':=hb;simp only[aaq,aad,or_false,not_or] at hb';exact up b o hb'.1 (hkp b o hb'.2.1 hb'.2.2.1 hb'.2.2.2.1 hb'.2.2.2.2 (hkeep b o hb e))
  ·refine List.nodup_append.mpr ⟨hG.nd,(by simp),λa ha b hb=>?_⟩;rw[List.mem_singleton.mp hb];obtain ⟨j,hj⟩:=List.mem_iff_getElem?.mp ha;obtain ⟨_,_,_,_,e3⟩:=hG.at' j a hj;exact aaf (Heap.lt_size e3)
  ·intro a ha;rcases List.mem_append.mp ha with ha | ha
   ·exact hG.up a ha
   ·rw[List.mem_singleton.mp ha];exact hIs
  ·intro j b hj;rcases Nat.lt_trichotomy j as.length with g | g | g
   ·rw[aae g] at hj;obtain ⟨x,y,e1,e2,e3⟩:=hG.at' j b hj;have u:=hG.up b (aak hj);have ne:∀{c:Addr},c≤lo→b≠c:=λq=>abq (ad8 q u);exact ⟨x,y,e1,e2,up b _ (ne hlo.2.2.2.2) (hkp b _ (ne hlo.1) (ne hlo.2.1) (ne hlo.2.2.1) (ne hlo.2.2.2.1) e3)⟩
   ·subst g;have hb:h.objs.size=b:=by simpa using hj
    subst hb;exact ⟨_,_,by rw[hal];exact abn hlt,by rw[hal];exact abn (by omega),up _ _ (abq hSs) ht⟩
   ·have hnone:(as++[h.objs.size])[j]?=none:=abg (by rw[aa2,aa9];omega);rw[hnone] at hj;cases hj
  ·rw[Heap.size_update,hz'];exact ady hIs
end
theorem no_len:typeLookup (.type "zip") "__len__"=pure none:=by rw[typeLookup_type,builtinLookup_eq_fast];kernel_rfl
theorem Qq:typeLookup (.type "zip") "__length_hint__"=pure none:=by rw[typeLookup_type,builtinLookup_eq_fast];kernel_rfl
section
variable {prog:Program} {w:World} {A:Around} {E:Value→Shared→Prop} {s:Shared} {c1 c2:Bool} {z TI TO i1 i2 l1 l2:Addr} {xs ys:Array Value}
theorem extend {R:Result→Shared→Prop} (hh:A.handled=none) (D:ZipApart z TI TO i1 i2 l1 l2) (hz:Zst c1 c2 z TI TO i1 i2 l1 l2 xs ys 0 s.heap) (S:Addr) (hS:S∉[z,TI,TO,i1,i2,l1,l2]) (lo:Addr) (hlo:z≤lo∧TO≤lo∧i1≤lo∧i2≤lo∧S≤lo) (hls:lo < s.heap.objs.size) (hn:xs.size=ys.size) (hsz:xs.size≤sizeLine) (res:Value) (c₀:Nat) (hSl:s.heap.get? S=some { cls:=.type "list",data:=.seq #[] c₀ })
  (hR:∀h' tk acc c as,(∀b o,b∉[S,z,TO,i1,i2]→s.heap.get? b=some o→h'.get? b=some o)→h'.get? S=some { cls:=.type "list",dict:=none,data:=.seq acc c,slots:=#[] }→as.length=xs.size→Mk xs ys lo h' as→
   acc.toList=as.map Value.ref→R (.ok (.ret res)) { s with heap:=h',toks:=tk }):
  wpAny (model prog w) A.in1 (Builtin.List.listExtendWith (.ref S) (.ref z) res)
   (λfin s'=>match fin with | .done f=>R (.ok f) s' | .again c'=>c'.quiet=true∧codeAny (model prog w) A c' R s') (λe s'=>R (.error e) s') s:=by
 have hT:s.TypeIs (.ref z) "zip":=by obtain ⟨⟨f0,b,z0,_⟩,_⟩:=hz;exact ⟨_,z0,rfl⟩
 have hSz:S≠z:=λe=>hS (by simp[e]);unfold Builtin.List.listExtendWith;refine wpAny_bind (wpAny_typeOf hT ?_);have h1:Builtin.List.listSameRef (.ref S) (.ref z)=false:=by simp[Builtin.List.listSameRef,hSz]
 have h2:(Value.type "zip"==Value.type "list")=false:=by decide
 have h3:(Value.type "zip"==Value.type "tuple")=false:=by decide
 simp only[h1,h2,h3,Bool.or_false,aaz,if_false];refine wpAny_bind (Kq hz ?_);refine wpAny_bind (wpAny_holding ?_);unfold Builtin.List.listLengthHint;refine wpAny_bind (wpAny_specialOf hT no_len ?_);show wpAny _ A.in1 (specialOf (Value.ref z) (Str.ofString "__length_hint__") >>=_) _ _ _
 refine wpAny_bind (wpAny_specialOf hT Qq ?_);refine wpAny_pure ?_;show wpAny _ A.in1 (rule "list.extend.makes-room" >>=λ_=>Builtin.List.listTouch (.ref S) >>=λ_=>again (.builtin "list.extend.loop" ⟨[.ref S,.ref z,res],[]⟩)) _ _ _
 refine wpAny_bind (wpAny_rule ?_);refine wpAny_bind ?_;show wpAny _ A.in1 (updateSeq S (·.push .none) >>=λ_=>updateSeq S (·.pop)) _ _ _
 refine wpAny_bind (wpAny_updateSeq hSl rfl ?_);have hS₂:=Heap.get?_update_self (Obj.mapSeq (·.push Value.none)) hSl rfl;refine wpAny_updateSeq (hz:=by seq_fits) hS₂ rfl ?_;have hS₃:=Heap.get?_update_self (Obj.mapSeq (·.pop)) hS₂ rfl;have oth:∀b o,b≠S→s.heap.get? b=some o→((s.heap.update S (Obj.mapSeq (·.push Value.none))).update S (Obj.mapSeq (·.pop))).get? b=some o:=λb o hb e=>(Heap.get?_update_other _ _ (Ne.symm hb)).trans ((Heap.get?_update_other _ _ (Ne.symm hb)).trans e);have hS':=hS;simp only[aaq,aad,or_false,not_or] at hS';refine wpAny_pure ⟨plainId_quiet PySem.F.plain_extend_loop _,loop (s:=s) (h₁:=s.heap) hh D hS lo hlo hn hsz res hR xs.size 0 _ _ _ #[] [] (acw _) (aa8 _) (hz.keep (λb hb o e=>oth b o (λx=>?_) e) (λo e=>oth _ o (Ne.symm hS'.2.2.2.2.2.1) e) λo e=>oth _ o (Ne.symm hS'.2.2.2.2.2.2) e) (λb o hb e=>oth b o (λx=>hb (by simp[x])) e) hS₃ rfl rfl ⟨acv,(λ_ ha=>nomatch ha),(λj a hj=>by simp at hj)⟩ ?_⟩
 ·subst x;simp only[aaq,aad,or_false] at hb;rcases hb with q | q | q | q | q
  ·exact hS'.1 q
  ·exact hS'.2.1 q
  ·exact hS'.2.2.1 q
  ·exact hS'.2.2.2.1 q
  ·exact hS'.2.2.2.2.1 q
 ·rw[Heap.size_update,Heap.size_update];exact hls
theorem N0 {Q:Value→Shared→Prop} (hh:A.handled=none) (D:ZipApart z TI TO i1 i2 l1 l2) (hz:Zst c1 c2 z TI TO i1 i2 l1 l2 xs ys 0 s.heap) (hlt:∀b∈[z,TI,TO,i1,i2,l1,l2],b < s.heap.objs.size) (hn:xs.size=ys.size) (hsz:xs.size≤sizeLine)
  (hQ:∀h' tk acc c as,(∀b o,b∉[z,TO,i1,i2]→s.heap.get? b=some o→h'.get? b=some o)→h'.get? s.heap.objs.size=some { cls:=.type "list",dict:=none,data:=.seq acc c,slots:=#[] }→as.length=xs.size→Mk xs ys s.heap.objs.size h' as→
   acc.toList=as.map Value.ref→Q (.ref s.heap.objs.size) { s with heap:=h',toks:=tk }):
  wpAny (model prog w) A (call (.type "list") [.ref z]) Q E s:=by
 refine callType_codes (Q₁:=λobj s₁=>obj=.ref s.heap.objs.size∧s₁={ s with heap:=s.heap.push { cls:=.type "list",data:=.seq #[] } }) PySem.F.called_list (PySem.F.typeCall_list_1 _) PySem.F.entry_list_init
  (code_list_new _ ⟨rfl,rfl⟩) λobj s₁ h₁=>?_
 obtain ⟨rfl,rfl⟩:=h₁;have hS:(s.heap.push { cls:=.type "list",data:=.seq #[] }).get? s.heap.objs.size=some { cls:=.type "list",data:=.seq #[] }:=Heap.get?_push_size _ rfl;have hSf:s.heap.objs.size∉[z,TI,TO,i1,i2,l1,l2]:=λe=>abj _ (hlt _ e);have hz1:=hz.keep (h':=s.heap.push { cls:=.type "list",data:=.seq #[] }) (λb _ o e=>Heap.get?_push_of_some _ e) (λo e=>Heap.get?_push_of_some _ e) λo e=>Heap.get?_push_of_some _ e;refine ⟨⟨_,hS,rfl⟩,PySem.F.args_list_init_2 _ _,?_⟩;have z1:=hlt z (by simp);have z2:=hlt TO (by simp);have z3:=hlt i1 (by simp);have z4:=hlt i2 (by simp);show wpAny _ _ (do let old ←Builtin.List.listItems (.ref s.heap.objs.size);Builtin.List.listUpdate (.ref s.heap.objs.size) (λ_=>#[]);letGo old.toList.reverse;Builtin.List.listExtendWith (.ref s.heap.objs.size) (.ref z) .none) _ _ _
 refine wpAny_bind ?_;unfold Builtin.List.listItems;refine wpAny_bind (wpAny_seqItems hS rfl (wpAny_pure ?_));show wpAny _ _ (updateSeq s.heap.objs.size (λ_=>#[]) >>=λ_=>letGo (#[]:Array Value).toList.reverse >>=λ_=>Builtin.List.listExtendWith (.ref s.heap.objs.size) (.ref z) .none) _ _ _
 refine wpAny_bind (wpAny_updateSeq hS rfl ?_);have hS₂:=Heap.get?_update_self (Obj.mapSeq (λ_=>(#[]:Array Value))) hS rfl;have oth:∀b o,b≠s.heap.objs.size→(s.heap.push { cls:=.type "list",data:=.seq #[] }).get? b=some o→((s.heap.push { cls:=.type "list",data:=.seq #[] }).update s.heap.objs.size (Obj.mapSeq (λ_=>(#[]:Array Value)))).get? b=some o:=λb o hb e=>(Heap.get?_update_other _ _ (Ne.symm hb)).trans e;refine wpAny_bind (wpAny_letGo ?_);refine extend (A:=A.in1) hh D (hz1.keep (λb hb o e=>oth b o (aaf (hlt b (by simp only[aaq,aad,or_false] at hb ⊢;rcases hb with q | q | q | q | q <;> simp[q]))) e) (λo e=>oth _ o (aaf (hlt l1 (by simp))) e) λo e=>oth _ o (aaf (hlt l2 (by simp))) e) _ hSf s.heap.objs.size ⟨ac4 z1,ac4 z2,ac4 z3,ac4 z4,aa6 _⟩ (by show _ < (Heap.update _ _ _).objs.size;rw[Heap.size_update,Heap.size_push];exact Nat.lt_succ_self _) hn hsz .none _ hS₂ λh' tk acc c as hk hS' hl hG hacc=>?_;exact ⟨rfl,hQ h' tk acc c as (λb o hb e=>hk b o (λx=>by
  rcases List.mem_cons.mp x with q | q
  ·exact abj _ (q ▸ Heap.lt_size e)
  ·exact hb q) (oth b o (aaf (Heap.lt_size e)) (Heap.get?_push_of_some _ e))) hS' hl hG hacc⟩
end
end L2.Zg
namespace L2
open PySem PySem.Spec PyProof.Rows Zd Zg
theorem Ls:bootBuiltins "zip"=some (.type "zip"):=by decide+kernel
def SqB (K:PySem.W.Frag):Bool→Hp→Addr→List V→Prop
 | true,H,a,xs=>SqT K H a xs
 | false,H,a,xs=>SqL K H a xs
def itB:Bool→Heap→Addr→Addr→Nat→Prop
 | true,h,it,l,i=>h.IsTupleIter it l i
 | false,h,it,l,i=>h.IsListIter it l i
theorem itB.keep {b:Bool} {h h':Heap} {it l:Addr} {i:Nat} (x:itB b h it l i) (k:∀o,h.get? it=some o→h'.get? it=some o):itB b h' it l i:=by
 cases b
 ·obtain ⟨o,e,r⟩:=x;exact ⟨o,k _ e,r⟩
 ·obtain ⟨o,e,r⟩:=x;exact ⟨o,k _ e,r⟩
theorem itB.obj {b:Bool} {h:Heap} {it l:Addr} {i:Nat} (x:itB b h it l i):∃o,h.get? it=some o∧∀v,o.data≠.cell v:=by
 cases b
 ·obtain ⟨o,e,_,d⟩:=x;exact ⟨o,e,λv z=>by rw[d] at z;cases z⟩
 ·obtain ⟨o,e,_,d⟩:=x;exact ⟨o,e,λv z=>by rw[d] at z;cases z⟩
theorem Ag {b:Bool} {it l:Addr} {xs:Array Value} {i:Nat} {h:Heap} (x:Hf b it l xs i h):itB b h it l i:=by
 cases b
 ·exact x.1
 ·exact x.1
def zpN (z TI TO i1 i2:Addr) (h:Heap):Prop:=(∃f0 b,IsZ h z TI TO f0 (.bool b)∧(f0=.none∨∃T:Addr,f0=rawInt T))∧(∃a b,IsPair h TO a b)∧IsPair h TI (.ref i1) (.ref i2)
section
variable {X:Cx} {pins:List (Addr×Obj)} {σ:St} {H:Hp} {s:Shared}
theorem Inv.sqB (I:Inv X pins σ H s) {b:Bool} {a:Addr} {xs:List V} (h:SqB X.K b H a xs):∃its:List Value,Vals xs its∧xs.length≤sizeLine∧a < s.heap.objs.size∧(∀it i,itB b s.heap it a i→Hf b it a its.toArray i s.heap)∧(b=true→s.heap.IsTuple a its.toArray)∧(b=false→s.heap.IsList a its.toArray):=by
 cases b
 ·obtain ⟨its,r,p,z⟩:=I.list h;refine ⟨its,r,z,?_,λit i q=>⟨q,p.isList⟩,(λe=>nomatch e),λ_=>p.isList⟩;obtain ⟨o,e,_⟩:=p.isList;exact Heap.lt_size e
 ·obtain ⟨its,r,p,z⟩:=I.tuple h;refine ⟨its,r,z,?_,λit i q=>⟨q,p⟩,(λ_=>p),(λe=>nomatch e)⟩;obtain ⟨o,e,_⟩:=p;exact Heap.lt_size e
theorem Inv.E9 (I:Inv X pins σ H s) {b:Bool} {a:Addr} {xs ys:List V} (h:SqB X.K b H a xs) (h':SqB X.K b H a ys):xs=ys:=by
 cases b
 ·exact I.vh h h'
 ·exact I.xx h h'
end
noncomputable def Itz (K:PySem.W.Frag) (c1 c2:Bool) (l1 l2:Addr):It:=
  ⟨λi H=>∃xs ys x y,SqB K c1 H l1 xs∧SqB K c2 H l2 ys∧xs[i]?=some x∧ys[i]?=some y,
   λi H x H'=>∃p u v,(∀xs,SqB K c1 H l1 xs→xs[i]?=some u)∧(∀ys,SqB K c2 H l2 ys→ys[i]?=some v)∧H p=none∧x=.ref p∧H'=upd H p (.tup [u,v]),
   λi H=>∃xs ys,SqB K c1 H l1 xs∧SqB K c2 H l2 ys∧xs.length≤i⟩
theorem go_zip {P:Program} {w:World} {A:Around} {E:Value→Shared→Prop} {s:Shared} {tg:Expr} {z TI TO T:Addr} {f0:Value} {b:Bool} {Q:Unit→Shared→Prop} (ht:(∃x pos,tg=.Name x pos)∨∃es k pos,tg=.Tuple es k pos) (hz:IsZ s.heap z TI TO f0 (.bool b)) (hf:f0=.none∨∃T:Addr,f0=rawInt T)
  (q:∀h' f1,IsZ h' z TI TO f1 (.bool b)→(f1=.none∨∃T:Addr,f1=rawInt T)→Heap.SameBut z s.heap h'→Q () { s with heap:=h' }):wpAny (model P w) A (letOwnedTupleGo tg (.ref z) (.ref T)) Q E s:=by
 rcases ht with ⟨x,pos,rfl⟩ | ⟨es,k,pos,rfl⟩
 ·exact wpAny_pure (q s.heap f0 hz hf (Heap.SameBut.refl _ _))
 ·unfold letOwnedTupleGo;refine wpAny_bind (wpAny_load hz ?_);show wpAny _ _ (if (["enumerate","zip","dict_itemiterator","dict_reverseitemiterator","odict_iterator","itertools.zip_longest","itertools.pairwise"].contains "zip"&&(#[f0,.bool b,.bool false,.ref TI,.ref TO]:Array Value)[0]?==some (rawInt T))=true then _ else _) Q E s
  refine wpAny_ite_split (λ_=>wpAny_bind (wpAny_rule ?_)) λ_=>wpAny_pure (q s.heap f0 hz hf (Heap.SameBut.refl _ _));show wpAny _ _ (setField (.ref z) 0 .none) Q E s
  exact wpAny_setField_rec hz (by simp) λh' hz' hs'=>q h' .none hz' (.inl rfl) hs'
theorem Mt {P:Program} {w:World} {K:PySem.W.Frag} {tg:Expr} {c1 c2:Bool} (z TI TO i1 i2 l1 l2:Addr) (D:ZipApart z TI TO i1 i2 l1 l2) (ht:(∃x pos,tg=.Name x pos)∨∃es k pos,tg=.Tuple es k pos):
  Turn P w K tg (Itz K c1 c2 l1 l2) [z,TI,TO,i1,i2] z (λi h=>zpN z TI TO i1 i2 h∧itB c1 h i1 l1 i∧itB c2 h i2 l2 i) where
 mem:=by simp
 obj:=λi h st b hb=>by
  obtain ⟨⟨⟨f0,b0,a1,_⟩,⟨p,q,a2⟩,a3⟩,a4,a5⟩:=st;simp only[aaq,aad,or_false] at hb;rcases hb with rfl | rfl | rfl | rfl | rfl
  ·exact ⟨_,a1,λv z=>by cases z⟩
  ·exact ⟨_,a3,λv z=>by cases z⟩
  ·exact ⟨_,a2,λv z=>by cases z⟩
  ·exact a4.obj
  ·exact a5.obj
 keep:=λi h h' st k=>by
  obtain ⟨⟨⟨f0,b0,a1,a0⟩,⟨p,q,a2⟩,a3⟩,a4,a5⟩:=st;exact ⟨⟨⟨f0,b0,k z (by simp) _ a1,a0⟩,⟨p,q,k TO (by simp) _ a2⟩,k TI (by simp) _ a3⟩,a4.keep (k i1 (by simp)),a5.keep (k i2 (by simp))⟩
 item:=by
  intro X hP hw hK hc i pins s σ H E I hf st hg;subst hP hw hK;obtain ⟨xs,ys,x,y,hq1,hq2,hx,hy⟩:=hg;obtain ⟨⟨a1,a2,a3⟩,a4,a5⟩:=st;obtain ⟨its1,rv1,_,_,f1,_,_⟩:=I.sqB hq1;obtain ⟨its2,rv2,_,_,f2,_,_⟩:=I.sqB hq2;obtain ⟨u,hu,ru⟩:=rv1.get hx;obtain ⟨v,hv,rv⟩:=rv2.get hy;have fpl:∀b∈[z,TI,TO,i1,i2],b < s.heap.objs.size:=λb hb=>by
   obtain ⟨f0,b0,e1,_⟩:=a1;obtain ⟨p,q,e2⟩:=a2;obtain ⟨_,e4,_⟩:=a4.obj;obtain ⟨_,e5,_⟩:=a5.obj;simp only[aaq,aad,or_false] at hb;rcases hb with rfl | rfl | rfl | rfl | rfl
   ·exact Heap.lt_size e1
   ·exact Heap.lt_size a3
   ·exact Heap.lt_size e2
   ·exact Heap.lt_size e4
   ·exact Heap.lt_size e5
  refine L6 (c1:=c1) (c2:=c2) (xs:=its1.toArray) (ys:=its2.toArray) (i:=i) (x:=u) (y:=v) D ⟨a1,a2,a3,f1 _ _ a4,f2 _ _ a5⟩ (by simpa using hu) (by simpa using hv) λh1 zs1 hT hz1 hk1=>⟨_,rfl,?_⟩;obtain ⟨⟨f0,b0,e0,g0⟩,⟨p,q,e2⟩,e3,e4,e5⟩:=zs1;refine go_zip ht e0 g0 λh2 f3 e0' g0' sb=>?_;have sb:Heap.SameBut z h1 h2:=sb;have hfr:H s.heap.objs.size=none:=I.hok.fresh (aa6 _);have I1:Inv X pins σ (upd H s.heap.objs.size (.tup [x,y])) { s with heap:=s.heap.push { cls:=.type "tuple",data:=.seq #[u,v] },toks:=s.toks }:=
   I.laid (λb o' e'=>Heap.get?_push_of_some _ e') (aa6 _) (show br X.prog X.w _ _ _ (.tup [x,y]) from ⟨by show (2:Nat)≤sizeLine;decide,[u,v],.cons ru (.cons rv .nil),⟨_,Heap.get?_push_size _ rfl,rfl,_,rfl,rfl⟩⟩)
  have nup:∀b,b < s.heap.objs.size→(upd H s.heap.objs.size (.tup [x,y])) b=H b:=λb hb=>af (aaf hb);have zl:=fpl z (by simp);have I2:=Inv.E5 (h':=h2) (t':=s.toks) (fp:=[z,TI,TO,i1,i2]) I1 (λb o' hb e'=>by
   simp only[aaq,aad,or_false,not_or] at hb;have e':(s.heap.push { cls:=.type "tuple",data:=.seq #[u,v] }).get? b=some o':=e';by_cases hbs:b=s.heap.objs.size
   ·subst hbs;rw[Heap.get?_push_size _ rfl] at e';cases e'
    exact (sb.2 _ hb.1).trans hT
   ·rw[Heap.get?_push_ne _ _ _ hbs] at e';exact (sb.2 _ hb.1).trans (hk1 b o' hb.1 hb.2.2.1 hb.2.2.2.1 hb.2.2.2.2 e')) λb hb=>by
   obtain ⟨f0,f⟩:=hf b hb;exact ⟨by rw[nup b (fpl b hb)];exact f0,f⟩
  exact ⟨.ref s.heap.objs.size,_,I2,rfl,⟨_,x,y,λzs hz=>by rw[I.E9 hz hq1];exact hx,λzs hz=>by rw[I.E9 hz hq2];exact hy,hfr,rfl,rfl⟩,⟨⟨⟨f3,b0,e0',g0'⟩,⟨p,q,sb.extBut _ _ D.TOz e2⟩,sb.extBut _ _ D.TIz e3⟩,(Ag e4).keep λo e=>sb.extBut _ _ D.i1z e,(Ag e5).keep λo e=>sb.extBut _ _ D.i2z e⟩,λb hb=>by rw[nup b (fpl b hb)];exact (hf b hb).1⟩
 done:=by
  intro X hP hw hK hc i pins s σ H E I hf st hg;subst hP hw hK;obtain ⟨xs,ys,hq1,hq2,hx⟩:=hg;obtain ⟨⟨a1,a2,a3⟩,a4,a5⟩:=st;obtain ⟨its1,rv1,_,_,f1,_,_⟩:=I.sqB hq1;obtain ⟨its2,rv2,_,_,f2,_,_⟩:=I.sqB hq2;have hl:=rv1.length;refine pyFin (c1:=c1) (c2:=c2) (xs:=its1.toArray) (ys:=its2.toArray) (i:=i) (I.ok.hd hc) D ⟨a1,a2,a3,f1 _ _ a4,f2 _ _ a5⟩ (by simp;omega) λh' hk=>⟨rfl,Inv.E5 (t':=s.toks) (fp:=[z,TI,TO,i1,i2]) I (λb o hb e=>?_) hf⟩;simp only[aaq,aad,or_false,not_or] at hb;exact hk b o hb.1 hb.2.2.1 hb.2.2.2.1 hb.2.2.2.2 e
 self:=λ_ _ _ _ _ st h=>by
  obtain ⟨⟨⟨f0,b0,a1,_⟩,_⟩,_⟩:=st;refine wpAny_pyIter_slot ⟨_,a1,rfl⟩ F.slot_zip_iter (wpAny_call_entry F.slot_zip_iter ⟨_,a1,rfl⟩ F.entry_zip_iter ?_ (F.args_zip_iter_1 _));exact wpAny_pure ⟨_,rfl,"zip",_,⟨_,a1,rfl⟩,F.slot_zip_next.lookup,h⟩
def iZip (K:PySem.W.Frag) (c:Bool) (ta:TA):TI:=λσ H R=>ta σ H λvs H1=>∃l1 l2 xs ys,vs=[.ref l1,.ref l2]∧SqB K c H1 l1 xs∧SqL K H1 l2 ys∧R (Itz K c false l1 l2) H1
section
variable {X:Cx}
theorem wx {pins:List (Addr×Obj)} {σ:St} {H:Hp} {s:Shared} {c:Bool} {l1 l2:Addr} {xs ys:List V} {A:Around} {E:Value→Shared→Prop} {Q:Value→Shared→Prop} (I:Inv X pins σ H s) (h1:SqB X.K c H l1 xs) (h2:SqL X.K H l2 ys)
  (q:∀(u v:List Value) (h':Heap),Vals xs u→Vals ys v→Zst c false (s.heap.objs.size+4) (s.heap.objs.size+2) (s.heap.objs.size+3) s.heap.objs.size (s.heap.objs.size+1) l1 l2 u.toArray v.toArray 0 h'→h'.objs.size=s.heap.objs.size+5→(∀c o,s.heap.get? c=some o→h'.get? c=some o)→l1 < s.heap.objs.size→l2 < s.heap.objs.size→Q (.ref (s.heap.objs.size+4)) { s with heap:=h' }):
  wpAny (model X.prog X.w) A (call (.type "zip") [.ref l1,.ref l2]) Q E s:=by
 obtain ⟨u,ru,_,lt1,_,t1,g1⟩:=I.sqB h1;obtain ⟨v,rv,_,lt2,_,t2,g2⟩:=I.sqB (b:=false) h2;cases c with
 | true=>exact Qn (t1 rfl) (g2 rfl) λh' a b d=>q u v h' ru rv a b d lt1 lt2
 | false=>exact Nz (g1 rfl) (g2 rfl) λh' a b d=>q u v h' ru rv a b d lt1 lt2
theorem pi_zip {c:Bool} {a b:Expr} {ta:TA} {p pos:Pos} {tg:Expr} (hg:Gl X "zip") (hm:X.mg "zip"=none) (ht:(∃x pos,tg=.Name x pos)∨∃es k pos,tg=.Tuple es k pos) (ha:PA X [a,b] ta) (hs:starEach [a,b] X.env=(false,eval a X.env)::starEach [b] X.env:=by rfl) (hpl:(backTo pos (starEach [b] X.env)).any (·.1)=false:=by rfl):PI X tg (.Call (.Name "zip" p) [a,b] [] pos) (iZip X.K c ta):=by
 intro pins s σ H R I h;refine Call_ (jq I hg hm Ls (PyProof.Rows.callWith_type1 (thn (ha pos pins s σ H _ I h) λus s1 ⟨vs,H1,I1,r1,q1⟩=>?_) hs hpl));obtain ⟨l1,l2,xs,ys,rfl,e1,e2,q⟩:=q1;obtain ⟨u1,u2,rfl,ru1,ru2⟩:=vals2 r1;cases ru1
 cases ru2
 refine wx I1 e1 e2 λu v h' ru rv zs hz keep lt1 lt2=>?_;refine Kq zs ?_;obtain ⟨a1,a2,a3,a4,a5⟩:=zs;refine ⟨s1.heap.objs.size+4,[s1.heap.objs.size+4,s1.heap.objs.size+2,s1.heap.objs.size+3,s1.heap.objs.size,s1.heap.objs.size+1],_,_,H1,rfl,I1.kept (t':=s1.toks) keep,Mt _ _ _ _ _ l1 l2 (zipApart_new lt1 lt2) ht,⟨⟨a1,a2,a3⟩,Ag a4,Ag a5⟩,λb hb=>?_,q⟩;simp only[aaq,aad,or_false] at hb;rcases hb with rfl | rfl | rfl | rfl | rfl
 ·exact I1.xc (ab2 _ _) (I1.hok.fresh (ab2 _ _))
 ·exact I1.xc (ab2 _ _) (I1.hok.fresh (ab2 _ _))
 ·exact I1.xc (ab2 _ _) (I1.hok.fresh (ab2 _ _))
 ·exact I1.xc (aa6 _) (I1.hok.fresh (aa6 _))
 ·exact I1.xc (ab2 _ _) (I1.hok.fresh (ab2 _ _))
end
theorem Kk {K:PySem.W.Frag} {c:Bool} {l1 l2:Addr} {xs ys:List V} {g:TG} {tb:TS} {D:Ends} {σ:St} {H:Hp} (Pv:Nat→St→Hp→Prop) (h0:Pv 0 σ H) (hn:xs.length=ys.length) (hl:∀i σ H,i≤xs.length→Pv i σ H→SqB K c H l1 xs∧SqL K H l2 ys)
  (hs:∀i x y σ H p,xs[i]?=some x→ys[i]?=some y→Pv i σ H→H p=none→g (.ref p) σ (upd H p (.tup [x,y])) λσ2 H2=>tb { D with nx:=Pv (i+1),ct:=Pv (i+1),bk:=D.nx } σ2 H2) (hd:∀σ H,Pv xs.length σ H→D.nx σ H):Ez g tb D (Itz K c false l1 l2) σ H:=by
 refine ⟨λi m σ H=>m=xs.length - i∧i≤xs.length∧Pv i σ H,⟨xs.length,by simp,aa8 _,h0⟩,?_⟩;rintro i m σ H ⟨rfl,hi,p⟩;obtain ⟨q1,q2⟩:=hl i σ H hi p;by_cases hlt:i < xs.length
 ·refine .inr ⟨⟨xs,ys,_,_,q1,q2,aa0 hlt,aa0 (by omega)⟩,Pv (i+1),λσ' H' p'=>⟨xs.length - (i+1),by omega,rfl,hlt,p'⟩,λx H' y=>?_⟩;obtain ⟨t,u,v,hu,hv,hn,rfl,rfl⟩:=y;exact hs i u v σ H t (hu xs q1) (hv ys q2) p hn
 ·have e:i=xs.length:=by omega
  subst e;exact .inl ⟨⟨xs,ys,q1,q2,aa6 _⟩,hd σ H p⟩
noncomputable def iq (H:Hp) (N:Addr→Option HO):Hp:=λb=>match N b with | some o=>some o | none=>H b
theorem Inv.many {X:Cx} {pins:List (Addr×Obj)} {σ:St} {H:Hp} {s:Shared} {h':Heap} {t':Nat} {N:Addr→Option HO} (I:Inv X pins σ H s) (k:∀b u,s.heap.get? b=some u→h'.get? b=some u) (hp:∀a o,N a=some o→s.heap.objs.size≤a) (new:∀a o,N a=some o→br X.prog X.w (iq H N) h' a o):
  Inv X pins σ (iq H N) { s with heap:=h',toks:=t' }:=by
 have old:∀b,b < s.heap.objs.size→iq H N b=H b:=λb hb=>by
  unfold iq;cases e:N b with
  | none=>rfl
  | some o=>exact absurd (aam hb (hp b o e)) (abj _)
 have tr:∀b u,H b=some u→iq H N b=some u:=λb u e=>by rw[old b (I.hok.lt e)];exact e
 refine I.step (g':=s.gens) (d':=s.drawn) (ch:=[]) (λb hb=>nomatch hb) (λb o _ _ _ e _=>k b o e) (λb o _ _ _ e _=>⟨o.slots,k b o e⟩) (λb o _ e n=>by rw[old b (Heap.lt_size e)];exact n)
  (λb o _ e=>⟨o,k b o e⟩) (λb xs e=>tr b _ e) (λb o u e=>tr b _ e) (λb ps e=>⟨#[],by rw[tr b _ e];simp⟩) (λm hm=>hm.at λo e=>k _ o e) (λb u e=>?_) I.bare
 cases en:N b with
 | some o=>
  have:iq H N b=some o:=by unfold iq;rw[en]
  rw[this] at e;cases e
  exact new b _ en
 | none=>
  have:iq H N b=H b:=by unfold iq;rw[en]
  rw[this] at e;exact (I.hok b u e).xn (λc v _ q=>k c v q) (λc q=>tr c _ q) λc xs q=>tr c _ q
theorem wc {β:Type}:∀{as:List Addr} {ps:List β},as.Nodup→∀{j:Nat} {a:Addr} {p:β},as[j]?=some a→ps[j]?=some p→(as.zip ps).lookup a=some p
 | [],_,_,j,a,p,h,_=>by simp at h
 | _::_,[],_,j,a,p,_,h=>by simp at h
 | b::as,q::ps,nd,0,a,p,h1,h2=>by
  simp at h1 h2;subst h1 h2;simp[List.lookup]
 | b::as,q::ps,nd,j+1,a,p,h1,h2=>by
  simp only[ada] at h1 h2;have hn:=List.nodup_cons.mp nd;have ne:a≠b:=λe=>hn.1 (e ▸ aak h1);rw[aev,ae4];simp only[show (a==b)=false from beq_eq_false_iff_ne.mpr ne];exact wc hn.2 h1 h2
theorem vk {β:Type}:∀{as:List Addr} {ps:List β} {a:Addr} {p:β},(as.zip ps).lookup a=some p→∃j:Nat,as[j]?=some a∧ps[j]?=some p
 | [],_,a,p,h=>by simp at h
 | _::_,[],a,p,h=>by simp at h
 | b::as,q::ps,a,p,h=>by
  rw[aev,ae4] at h;by_cases e:a=b
  ·simp only[show (a==b)=true from beq_iff_eq.mpr e] at h;cases h
   exact ⟨0,by rw[e];rfl,rfl⟩
  ·simp only[show (a==b)=false from beq_eq_false_iff_ne.mpr e] at h;obtain ⟨j,h1,h2⟩:=vk h;exact ⟨j+1,h1,h2⟩
theorem qj:∀as:List Addr,Vals (as.map V.ref) (as.map Value.ref)
 | []=>.nil
 | _::as=>.cons rfl (qj as)
def tLZ (K:PySem.W.Frag) (ta:TA):TE:=λσ H Q=>ta σ H λvs H1=>∃(l1 l2:Addr) (xs ys:List V),vs=[.ref l1,.ref l2]∧SqT K H1 l1 xs∧SqL K H1 l2 ys∧xs.length=ys.length∧
 ∀(l:Addr) (as:List Addr) (H2:Hp),ak H1 H2→H1 l=none→as.length=xs.length→H2 l=some (.lst (as.map V.ref))→(∀(j:Nat) (x y:V),xs[j]?=some x→ys[j]?=some y→∃a,as[j]?=some a∧H2 a=some (.tup [x,y]))→Q (.ref l) H2
section
variable {X:Cx}
theorem vm {a b:Expr} {ta:TA} {p p2 pos pos2:Pos} (hc:X.calm=true) (hg:Gl X "list") (hm:X.mg "list"=none) (hg2:Gl X "zip") (hm2:X.mg "zip"=none) (ha:PA X [a,b] ta)
  (hs:starEach [.Call (.Name "zip" p2) [a,b] [] pos2] X.env=[(false,eval (.Call (.Name "zip" p2) [a,b] [] pos2) X.env)]:=by rfl) (hs2:starEach [a,b] X.env=(false,eval a X.env)::starEach [b] X.env:=by rfl) (hpl:(backTo pos2 (starEach [b] X.env)).any (·.1)=false:=by rfl):
  PE X (.Call (.Name "list" p) [.Call (.Name "zip" p2) [a,b] [] pos2] [] pos) (tLZ X.K ta):=by
 intro pins s σ H Q I h;refine wpAny_Call_Name_kw (jq I hg hm Dt ?_);refine PyProof.Rows.callWith_type1 ?_ hs rfl;rw[hs];show wpAny _ _ (spliced ((false,eval _ X.env)::backTo pos [])) _ _ s
 refine Calls.spliced_cons ?_;refine wpAny_Call_Name_kw (jq I hg2 hm2 Ls ?_);refine PyProof.Rows.callWith_type1 (thn (ha pos2 pins s σ H _ I h) λus s1 ⟨vs,H1,I1,r1,q1⟩=>?_) hs2 hpl;obtain ⟨l1,l2,xs,ys,rfl,e1,e2,hl,q⟩:=q1;obtain ⟨u1,u2,rfl,ru1,ru2⟩:=vals2 r1;cases ru1
 cases ru2
 have zl:xs.length≤sizeLine:=by obtain ⟨_,_,_,z⟩:=I1.tuple e1;exact z
 refine wx (c:=true) I1 e1 e2 λu v h' ru rv zs hz keep lt1 lt2=>Calls.spliced_nil ?_;have n1:=ru.length;have n2:=rv.length;refine N0 (s:={ s1 with heap:=h' }) (I1.ok.hd hc) (zipApart_new lt1 lt2) zs (λb hb=>?_) (by rw[aa5,aa5];omega) (by rw[aa5];omega) λh2 tk acc c as kp hL hal hM hacc=>?_
 ·have hz':(Shared.heap { s1 with heap:=h' }).objs.size=s1.heap.objs.size+5:=hz;rw[hz'];simp only[aaq,aad,or_false] at hb;rcases hb with rfl | rfl | rfl | rfl | rfl | rfl | rfl
  ·exact ad3 (by decide) _
  ·exact ad3 (by decide) _
  ·exact ad3 (by decide) _
  ·exact Nat.lt_add_of_pos_right (by decide)
  ·exact ad3 (by decide) _
  ·exact aam lt1 (ab2 _ _)
  ·exact aam lt2 (ab2 _ _)
 have hM:Zg.Mk u.toArray v.toArray h'.objs.size h2 as:=hM;have kp:∀b o,b∉[s1.heap.objs.size+4,s1.heap.objs.size+3,s1.heap.objs.size,s1.heap.objs.size+1]→h'.get? b=some o→h2.get? b=some o:=kp;have hL:h2.get? h'.objs.size=some { cls:=.type "list",dict:=none,data:=.seq acc c,slots:=#[] }:=hL;rw[aa5] at hal;have le:s1.heap.objs.size≤h'.objs.size:=by rw[hz];exact ab2 _ _
 have k2:∀b o,s1.heap.get? b=some o→h2.get? b=some o:=λb o e=>kp b o (λz=>by
  have lt:=Heap.lt_size e;simp only[aaq,aad,or_false] at z;rcases z with rfl | rfl | rfl | rfl
  ·exact absurd lt (Nat.not_lt.mpr (ab2 _ _))
  ·exact absurd lt (Nat.not_lt.mpr (ab2 _ _))
  ·exact absurd lt (abj _)
  ·exact absurd lt (Nat.not_lt.mpr (ab2 _ _))) (keep b o e)
 let N:Addr→Option HO:=λb=>if b=h'.objs.size then some (.lst (as.map V.ref)) else ((as.zip (xs.zip ys)).lookup b).map λp=>.tup [p.1,p.2]
 have Nl:N h'.objs.size=some (.lst (as.map V.ref)):=if_pos rfl;have Na:∀(j:Nat) (a:Addr) (x y:V),as[j]?=some a→xs[j]?=some x→ys[j]?=some y→N a=some (.tup [x,y]):=λj a x y h1 h3 h4=>by
  show (if a=h'.objs.size then _ else _)=_
  rw[if_neg (abq (hM.up a (aak h1)))];have:(xs.zip ys)[j]?=some (x,y):=List.getElem?_zip_eq_some.mpr ⟨h3,h4⟩;rw[wc hM.nd h1 this];rfl
 have inv:∀a o,N a=some o→(a=h'.objs.size∧o=.lst (as.map V.ref))∨∃(j:Nat) (x y:V),as[j]?=some a∧xs[j]?=some x∧ys[j]?=some y∧o=.tup [x,y]:=λa o e=>by
  by_cases h:a=h'.objs.size
  ·subst h;rw[Nl] at e;exact .inl ⟨rfl,(aa3 e).symm⟩
  ·have e:(if a=h'.objs.size then _ else ((as.zip (xs.zip ys)).lookup a).map λp=>HO.tup [p.1,p.2])=some o:=e;rw[if_neg h] at e;obtain ⟨⟨x,y⟩,h1,h2⟩:=Option.map_eq_some_iff.mp e;obtain ⟨j,g1,g2⟩:=vk h1;obtain ⟨g3,g4⟩:=List.getElem?_zip_eq_some.mp g2;exact .inr ⟨j,x,y,g1,g3,g4,h2.symm⟩
 have lo:∀a o,N a=some o→s1.heap.objs.size≤a:=λa o e=>by
  rcases inv a o e with ⟨rfl,_⟩ | ⟨j,x,y,h1,_⟩
  ·exact le
  ·exact aay le (ac4 (hM.up a (aak h1)))
 have I2:Inv X pins σ (iq H1 N) { s1 with heap:=h2,toks:=tk }:=I1.many k2 lo λa o e=>by
  rcases inv a o e with ⟨rfl,rfl⟩ | ⟨j,x,y,h1,h3,h4,rfl⟩
  ·refine ⟨by rw[aa1];omega,acc.toList,c,?_,by rw[Array.toArray_toList];exact hL⟩;rw[hacc];exact qj as
  ·obtain ⟨x',y',g1,g2,g3⟩:=hM.at' j a h1;obtain ⟨xu,hxu,rxu⟩:=ru.get h3;obtain ⟨yu,hyu,ryu⟩:=rv.get h4;rw[aeg] at g1 g2;rw[hxu] at g1;rw[hyu] at g2;cases g1
   cases g2
   exact ⟨by show (2:Nat)≤sizeLine;decide,[x',y'],.cons rxu (.cons ryu .nil),⟨_,g3,rfl,_,rfl,rfl⟩⟩
 have same:ak H1 (iq H1 N):=λb o e=>by
  have lt:=I1.hok.lt e;unfold iq;cases en:N b with
  | none=>exact e
  | some o'=>exact absurd (aam lt (lo b o' en)) (abj _)
 refine ⟨.ref h'.objs.size,_,I2,rfl,q _ as _ same (I1.hok.fresh le) (by omega) (by unfold iq;rw[Nl]) λj x y h3 h4=>?_⟩;have hj:j < as.length:=by rw[hal,←n1];exact (List.getElem?_eq_some_iff.mp h3).1
 refine ⟨as[j],aa0 hj,?_⟩;unfold iq;rw[Na j as[j] x y (aa0 hj) h3 h4]
end
end L2
namespace L2.Zd
open PySem
theorem uq:entryFor table "dict.update.loop"=some Builtin.«dict.update.loop»:=entryFor_of_tree (by kernel_rfl)
theorem jo:plainId "dict.update.loop"=true:=by decide+kernel
section
variable {prog:Program} {w:World} {A:Around} {E:Value→Shared→Prop} {s:Shared} {d z TI TO i1 i2 l1 l2:Addr} {xs ys:Array Value} {i:Nat}
end
end L2.Zd
namespace L2.Zd
open PySem PyProof.Rows
theorem zb:typeLookup (.type "list") "keys"=pure none:=by rw[typeLookup_type,builtinLookup_eq_fast];kernel_rfl
section
variable {prog:Program} {w:World} {A:Around} {E:Value→Shared→Prop} {s:Shared}
theorem Av (a:Addr) (vs:Array Value) (n:Nat) (u:Tok):
  Meets (Builtin.«object.__getattribute__» ⟨[.ref a,.str "keys" u],[]⟩) (λA R s=>s.heap.get? a=some { cls:=.type "list",dict:=none,data:=.seq vs n,slots:=#[] }∧raisesAttr (.ref a) "keys" A R s):=
 meets_getattribute_miss_list a vs n #[] "keys" u zb (by decide+kernel) (by decide+kernel)
theorem K6 {a:Addr} {vs:Array Value} {n:Nat} {Q:Option Value→Shared→Prop} (hx:s.heap.get? a=some { cls:=.type "list",dict:=none,data:=.seq vs n,slots:=#[] }) (hA:A.handled=none)
  (h:∀h' tk,(∀b o,s.heap.get? b=some o→h'.get? b=some o)→Q none { s with heap:=h',toks:=tk }):wpAny (model prog w) A (getAttr? (.ref a) "keys") Q E s:=by
 obtain ⟨hp,g,d,tk,os⟩:=s;have hT:∀tk',(⟨hp,g,d,tk',os⟩:Shared).TypeIs (.ref a) "list":=λ_=>⟨_,hx,rfl⟩;have f1:=sub_AttributeError;have f3:=F.slot_list_getattribute.lookup;have f4:=F.slot_list_getattribute.bind (.ref a);have f5:=am_list_getattr_none;unfold getAttr? getAttrBy? getAttrBy;repeat (any_goals (first | assumption | exact hT _ | ((with_reducible show wpAny _ _ (call (Value.builtin "list.__getattribute__") _ _) _ _ _);refine call_meets F.slot_list_getattribute (hT _) am_entry_list_getattribute (F.args_list_getattribute_2 _ _) (Av a vs n _) ⟨hx,hA,λh' tk' e hx'=>?_⟩) | wp_step))
 obtain ⟨t',u',he⟩:=hx'.there;show wpAny _ _ (getattributeRaised _ _ _ _ _ _ _) _ _ _
 unfold getattributeRaised;repeat (any_goals (first | assumption | wp_step))
 exact h h' tk' hx'.keeps
end
end L2.Zd
namespace L2
open PySem PySem.Spec PyProof.Rows
theorem Bc {K:PySem.W.Frag} {a:Addr} {xs:List V} {fr:L2.St} {tc:TT} {te:TE} {D:Addr} {H1:Hp} {Q:Hp→Prop} (P:Nat→List V→Hp→Prop) (mono:∀i ys H H',TK H H'→P i ys H→P i ys H') (hS:SqL K H1 a xs) (hn:xs.length < sizeLine) (hD:H1 D=none) (h0:P 0 [] H1)
  (step:∀i x ys H (G:Hp→Prop) (K':V→Hp→Prop),xs[i]?=some x→P i ys H→ys.length≤i→ak H1 H→(∀H3,ak H H3→P (i+1) ys H3→G H3)→(∀y H4,ak H H4→P (i+1) (ys++[y]) H4→K' y H4)→tc ([some x]++fr) H λb H3=>if b=true then te ([some x]++fr) H3 K' else G H3)
  (done:∀ys H,P xs.length ys H→ys.length≤xs.length→ak H1 H→H D=some (.lst ys)→Q H):LC 1 fr (cj 0) tc te (Itl K a) D H1 Q:=by
 have at':∀i,i < xs.length→xs[i]?=some (xs.getD i .non):=λi hi=>by
  rw[aa4,aa0 hi];rfl
 exact Qc xs.length (λi=>xs.getD i .non) P mono hn hD (λi H hi hs=>⟨xs,_,hs.seq hS,at' i hi⟩)
  (λi H x H' hi hs hy=>⟨hy.1,aa3 ((hy.2 xs (hs.seq hS)).symm.trans (at' i hi))⟩) (λH hs=>⟨xs,hs.seq hS,aa6 _⟩) h0
  (λi ys H G K' hi hP hl hs hG hK=>step i _ ys H G K' (at' i hi) hP hl hs hG hK) done
end L2
namespace L2
open PySem PySem.Spec PyProof.Rows
section
variable {X:Cx} {pos:Pos} {tg:Expr}
theorem O3 (K:PySem.W.Frag) (hK:X.K=K) {es:List Expr} {k:Nat} {t:TGs} {n:Nat} (hc:X.calm=true) (h:PGs X es t) (hn:(assignEach es X.env).length=n:=by rfl) (hst:(assignEach es X.env).findIdx? (·.1)=none:=by rfl):PG X (.Tuple es k pos) (Ew K n t):=by
 subst hK;exact Lr hc h hn hst
theorem yx (n:Nat):Builtin.Range.rangeSize ((n:Int) - 1) (-1) (-1)=n:=by
 unfold Builtin.Range.rangeSize;cases n with
 | zero=>decide
 | succ n=>
  simp;omega
theorem J9 {n:Nat} (h:n < 2 ^ 62):Builtin.Range.small ((n:Int) - 1) (-1) (-1)=true:=by
 unfold Builtin.Range.small;rw[yx];have e1:Builtin.Range.rangeFitsLong ((n:Int) - 1)=true:=by
  unfold Builtin.Range.rangeFitsLong;rw[decide_eq_true (show -(2:Int) ^ 63≤(n:Int) - 1 by omega),decide_eq_true (show (n:Int) - 1 < (2:Int) ^ 63 by omega)];rfl
 have e2:Builtin.Range.rangeFitsLong (n:Int)=true:=by
  unfold Builtin.Range.rangeFitsLong;rw[decide_eq_true (show -(2:Int) ^ 63≤(n:Int) by omega),decide_eq_true (show (n:Int) < (2:Int) ^ 63 by omega)];rfl
 rw[e1,e2,show Builtin.Range.rangeFitsLong (-1)=true by decide,if_neg (by decide),show Builtin.Range.rangeFitsLong (-1+(-1+1))=true by decide];simp
def iDn (ta:TA):TI:=λσ H R=>ta σ H λvs H1=>∃n:Nat,vs=[.int ((n:Int) - 1),.int (-1),.int (-1)]∧n < 2 ^ 62∧R (Itd n) H1
theorem Iy {a b c:Expr} {ta:TA} {p pos:Pos} (hg:Gl X "range") (hm:X.mg "range"=none) (ha:PA X [a,b,c] ta) (hs:starEach [a,b,c] X.env=(false,eval a X.env)::starEach [b,c] X.env:=by rfl) (hpl:(backTo pos (starEach [b,c] X.env)).any (·.1)=false:=by rfl):
  PI X tg (.Call (.Name "range" p) [a,b,c] [] pos) (iDn ta):=by
 intro pins s σ H R I h;refine Call_ (jq I hg hm boot_range (PyProof.Rows.callWith_type1 (thn (ha pos pins s σ H _ I h) λus s1 ⟨vs,H1,I1,r1,q1⟩=>?_) hs hpl));obtain ⟨n,rfl,hn,q⟩:=q1;cases r1 with
 | cons r rr=>
  cases rr with
  | cons r' rr=>
   cases rr with
   | cons r'' rr=>
    cases rr
    obtain ⟨t,rfl⟩:=r;obtain ⟨t',rfl⟩:=r';obtain ⟨t'',rfl⟩:=r'';refine call_range_3 (by decide) ?_ (.inl (PyProof.noPylong_small (by omega)));refine wpAny_pyIter_range (IsRange.new ..) (J9 hn) ?_;rw[yx];have I2:Inv X pins σ H1 { s1 with heap:=s1.heap.push { cls:=.type "range",data:=.fields #[.int ((n:Int) - 1) t,.int (-1) t',.int (-1) t''] },toks:=s1.toks }:=I1.kept λb o e=>Heap.get?_push_of_some _ e;refine ⟨(s1.heap.push { cls:=.type "range",data:=.fields #[.int ((n:Int) - 1) t,.int (-1) t',.int (-1) t''] }).objs.size,[(s1.heap.push { cls:=.type "range",data:=.fields #[.int ((n:Int) - 1) t,.int (-1) t',.int (-1) t''] }).objs.size],_,_,H1,rfl,I2.kept (t':=s1.toks) λb o e=>Heap.get?_push_of_some _ e,Je _ n,?_,λb hb=>?_,q⟩
    ·have e1:(n:Int) - 1+((0:Nat):Int)*(-1)=(n:Int) - 1:=by omega
     have e2:(n:Int) - ((0:Nat):Int)=(n:Int):=by omega
     show IsRangeIter _ _ ((n:Int) - 1+((0:Nat):Int)*(-1)) ((n:Int) - ((0:Nat):Int)) (-1)
     rw[e1,e2];exact Heap.get?_push_size _ rfl
    ·have e:b=(s1.heap.push { cls:=.type "range",data:=.fields #[.int ((n:Int) - 1) t,.int (-1) t',.int (-1) t''] }).objs.size:=by simpa using hb
     subst e;exact I2.xc (aa6 _) (I2.hok.fresh (aa6 _))
end
theorem Qj {n:Nat} {g:TG} {tb:TS} {D:Ends} {σ:St} {H:Hp} (Pv:Nat→St→Hp→Prop) (h0:Pv n σ H)
  (hs:∀i σ H,i < n→Pv (i+1) σ H→g (.int (i:Int)) σ H λσ2 H2=>tb { D with nx:=Pv i,ct:=Pv i,bk:=D.nx } σ2 H2) (hd:∀σ H,Pv 0 σ H→D.nx σ H):Ez g tb D (Itd n) σ H:=by
 refine ⟨λi m σ H=>m=n - i∧i≤n∧Pv (n - i) σ H,⟨n,by simp,aa8 _,by simpa using h0⟩,?_⟩;rintro i m σ H ⟨rfl,hi,p⟩;by_cases hlt:i < n
 ·refine .inr ⟨hlt,Pv (n - (i+1)),λσ' H' p'=>⟨n - (i+1),by omega,rfl,hlt,p'⟩,λx H' y=>?_⟩;obtain ⟨rfl,rfl⟩:=y;have e:(n:Int) - 1 - (i:Int)=((n - (i+1):Nat):Int):=by omega
  rw[e];exact hs (n - (i+1)) σ _ (by omega) (by rw[show n - (i+1)+1=n - i by omega];exact p)
 ·have e:i=n:=by omega
  subst e;exact .inl ⟨aa6 _,hd σ H (by simpa using p)⟩
theorem Mh {K:PySem.W.Frag} {c:Nat} {a:Addr} {as:List Addr} {fr:St} {tc:TT} {te:TE} {D:Addr} {H1:Hp} {Q:Hp→Prop} (P:Nat→List V→Hp→Prop) (mono:∀i ys H H',TK H H'→P i ys H→P i ys H') (hc:c=4) (hS:SqL K H1 a (as.map V.ref)) (hq:∀(i:Nat) (t:Addr),as[i]?=some t→∃x0 x1 x2 x3,H1 t=some (.tup [x0,x1,x2,x3])) (hn:as.length < sizeLine) (hD:H1 D=none) (h0:P 0 [] H1)
  (step:∀i t x0 x1 x2 x3 ys H (G:Hp→Prop) (K':V→Hp→Prop),as[i]?=some t→H1 t=some (.tup [x0,x1,x2,x3])→P i ys H→ys.length≤i→ak H1 H→(∀H3,ak H H3→P (i+1) ys H3→G H3)→(∀y H4,ak H H4→P (i+1) (ys++[y]) H4→K' y H4)→tc ([some x0,some x1,some x2,some x3]++fr) H λb H3=>if b=true then te ([some x0,some x1,some x2,some x3]++fr) H3 K' else G H3)
  (done:∀ys H,P as.length ys H→ys.length≤as.length→ak H1 H→H D=some (.lst ys)→Q H):LC 4 fr (Ew K c (fq (cj 0) (fq (cj 1) (fq (cj 2) (fq (cj 3) gNil))))) tc te (Itl K a) D H1 Q:=by
 refine ⟨λi m H=>m=as.length - i∧i≤as.length∧∃ys,H D=some (.lst ys)∧P i ys H∧ys.length≤i∧ak H1 H,⟨as.length,by simp,aa8 _,[],ae,mono _ _ _ _ (TK.of (aa hD _)) h0,aa6 _,aa hD _⟩,?_⟩;rintro i m H ⟨rfl,hi,ys,hys,hP,hl,hS'⟩;by_cases hlt:i < as.length
 ·have ht:as[i]?=some as[i]:=aa0 hlt;have hti:(as.map V.ref)[i]?=some (.ref as[i]):=by rw[aa7,ht];rfl
  obtain ⟨x0,x1,x2,x3,hx⟩:=hq i _ ht;refine .inr ⟨⟨_,_,hS'.seq hS,hti⟩,λτ v H' hτ hy=>?_⟩;obtain ⟨rfl,hy⟩:=hy;have hv:v=.ref as[i]:=aa3 ((hy _ (hS'.seq hS)).symm.trans hti);subst hv;obtain ⟨a0,a1,a2,a3,rfl⟩:∃a b c d,τ=[a,b,c,d]:=us4 (P:=λτ=>∃a b c d,τ=[a,b,c,d]) hτ λa b c d=>⟨a,b,c,d,rfl⟩;refine ⟨as[i],_,rfl,SqT.of (hS' _ _ hx),by rw[hc];rfl,_,_,rfl,_,_,rfl,_,_,rfl,_,_,rfl,rfl,⟨[some x0,some x1,some x2,some x3],rfl,rfl⟩,step i as[i] x0 x1 x2 x3 ys _ _ _ ht hx hP hl hS' (λH3 q1 q2=>?_) (λy H4 q1 q2=>?_)⟩
  ·exact ⟨as.length - (i+1),by omega,rfl,hlt,ys,q1 _ _ hys,q2,acu hl,hS'.trans q1⟩
  ·refine ⟨ys,q1 _ _ hys,by omega,as.length - (i+1),by omega,rfl,hlt,ys++[y],ae,mono _ _ _ _ (TK.put (q1 _ _ hys) λxs e=>by cases e) q2,?_,(hS'.trans q1).upd hD _⟩;rw[aa2,aa9];omega
 ·have e:i=as.length:=by omega
  subst e;exact .inl ⟨⟨_,hS'.seq hS,by rw[aa1];exact aa6 _⟩,done ys H hP hl hS' hys⟩
namespace Zd
section
variable {prog:Program} {w:World} {A:Around} {E:Value→Shared→Prop} {s:Shared}
def PrT (prog:Program) (w:World) (ps:List (List Key×Addr×Value)) (items:Array Value) (no:List Addr) (h:Heap):Prop:=
 ∀(i:Nat) (k:List Key) (b:Addr) (y:Value),ps[i]?=some (k,b,y)→∃T o n,items[i]?=some (.ref T)∧T∉no∧b∉no∧(tupleKind (bj prog w)).is h k b∧h.get? T=some o∧o.cls=.type "tuple"∧o.data=.seq #[.ref b,y] n
theorem PrT.keep {ps:List (List Key×Addr×Value)} {items:Array Value} {no:List Addr} {h h':Heap} (x:PrT prog w ps items no h) (k:∀b o,b∉no→h.get? b=some o→h'.get? b=some o):PrT prog w ps items no h':=λi a b y e=>by
 obtain ⟨T,o,n,h1,h2,h3,h4,h5,h6⟩:=x i a b y e;obtain ⟨ob,its,m,g1,g2⟩:=h4;exact ⟨T,o,n,h1,h2,h3,⟨ob,its,m,k _ _ h3 g1,g2⟩,k _ _ h2 h5,h6⟩
noncomputable def Dp (ps:List (List Key×Addr×Value)) (acc:List (List Key×Addr×Value)):List (List Key×Addr×Value):=ps.foldl (λacc p=>storedH acc p.1 p.2.1 p.2.2) acc
theorem loopT {R:Result→Shared→Prop} {I l d:Addr} {items:Array Value} (hI:I≠l) (hu:A.units+1 < cLine) (hh:A.in1.handled=none) (hdI:d≠I) (hdl:d≠l) (ps:List (List Key×Addr×Value)) (hn:ps.length=items.size):
  ∀(m i:Nat) (j:Int) (s:Shared) (kvs:List (List Key×Addr×Value)),ps.length - i=m→i≤ps.length→s.heap.IsListIter I l i→s.heap.IsList l items→PrT prog w ps items [d,I] s.heap→s.heap.DictOfH (tupleKind (bj prog w)) d kvs→kvs.length+m≤sizeLine→
   (∀h' tk,h'.DictOfH (tupleKind (bj prog w)) d (Dp (ps.drop i) kvs)→(∀c o,c≠d→c≠I→s.heap.get? c=some o→h'.get? c=some o)→R (.ok (.ret .none)) { s with heap:=h',toks:=tk })→
   codeAny (model prog w) A (.builtin "dict.update.loop" ⟨[.ref d,.ref I,rawInt j,.none],[]⟩) R s:=by
 intro m;induction m with
 | zero=>
  intro i j s kvs hm hi h1 hl hp hd hsz hR;have e:i=items.size:=by omega
  refine codeAny_builtin uq ?_;rw[Around.under_plainId jo _];show wpAny _ A.in1 (pyNext (.ref I) >>=_) _ _ s
  refine wpAny_bind (wpAny_pyNext_list_end hh h1 hl (by rw[e];exact adf (aa6 _)) λh' hk=>?_);show wpAny _ A.in1 (Builtin.Dict.addKeywords d [] >>=_) _ _ _
  refine wpAny_bind (wpAny_pure ?_);refine wpAny_pure (hR h' s.toks ?_ λc o c1 c2 x=>hk c o c2 x);rw[adg (by omega)];obtain ⟨o,es,ep,ho,r1,r2,r3,r4,r5⟩:=hd;refine ⟨o,es,ep,hk d o hdI ho,r1,r2,r3,λx hx=>?_,r5⟩;obtain ⟨ob,its,m,g1,g2⟩:=r4 x hx;by_cases eb:x.2.1=I
  ·obtain ⟨oi,hoi,ci,_⟩:=h1;rw[eb,hoi] at g1;cases g1
   have:=g2.1;rw[ci] at this;simp at this
  ·exact ⟨ob,its,m,hk _ _ eb g1,g2⟩
 | succ m ih=>
  intro i j s kvs hm hi h1 hl hp hd hsz hR;have hlt:i < ps.length:=by omega
  obtain ⟨T,o,n,hx,hT,hb,hk,ho,hc,hdat⟩:=hp i ps[i].1 ps[i].2.1 ps[i].2.2 (aa0 hlt);have hTd:T≠d:=λe=>hT (by rw[e];exact aan);have hTI:T≠I:=λe=>hT (by rw[e];exact aaj _ aan);have hbI:ps[i].2.1≠I:=λe=>hb (by rw[e];exact aaj _ aan);refine codeAny_builtin uq ?_;rw[Around.under_plainId jo _];show wpAny _ A.in1 (pyNext (.ref I) >>=_) _ _ s
  have h1':=h1;refine wpAny_bind (wpAny_pyNext_list_item h1 hl hx λh₁ h1₁ hs₁=>?_);have hs₁:Heap.SameBut I s.heap h₁:=hs₁;have hP:h₁.get? T=some o:=hs₁.extBut _ _ hTI ho;refine wpAny_bind (wpAny_holding (wpAny_bind (wpAny_tryCatch ?_)));unfold Builtin.Dict.pairItems;have hTy:Shared.TypeIs { s with heap:=h₁ } (.ref T) "tuple":=⟨_,hP,hc⟩;refine wpAny_bind (wpAny_typeOf hTy ?_);rw[if_pos (by decide)];refine wpAny_bind (wpAny_seqItems hP hdat (wpAny_pure ?_));show wpAny _ _ (holding [.ref ps[i].2.1,ps[i].2.2] (dictSet d (.ref ps[i].2.1) ps[i].2.2)) _ _ _
  refine wpAny_holding ?_;have hk₁:(tupleKind (bj prog w)).is h₁ ps[i].1 ps[i].2.1:=by
   obtain ⟨ob,its,m,g1,g2⟩:=hk;exact ⟨ob,its,m,hs₁.extBut _ _ hbI g1,g2⟩
  have hd₁:h₁.DictOfH (tupleKind (bj prog w)) d kvs:=by
   obtain ⟨o,es,ep,ho,r1,r2,r3,r4,r5⟩:=hd;refine ⟨o,es,ep,hs₁.extBut _ _ hdI ho,r1,r2,r3,λx hx=>?_,r5⟩;obtain ⟨ob,its,m,g1,g2⟩:=r4 x hx;by_cases eb:x.2.1=I
   ·obtain ⟨oi,hoi,ci,_⟩:=h1';rw[eb,hoi] at g1;cases g1
    have:=g2.1;rw[ci] at this;simp at this
   ·exact ⟨ob,its,m,hs₁.extBut _ _ eb g1,g2⟩
  refine wpAny_dictSet_heap (s:={ s with heap:=h₁ }) (knd:=tupleKind (bj prog w)) (tupleKind_room_in1 hu) hk₁ hd₁ (λh₂ hd₂ hs₂=>?_) (by omega);have hs₂:Heap.SameBut d h₁ h₂:=hs₂;have kp:∀c o,c≠d→c≠I→s.heap.get? c=some o→h₂.get? c=some o:=λc o c1 c2 e=>hs₂.extBut _ _ c1 (hs₁.extBut _ _ c2 e);refine wpAny_pure ⟨plainId_quiet jo _,ih (i+1) (j+1) _ _ (by omega) hlt (h1₁.extBut hs₂.extBut hdI.symm) ((hl.extBut hs₁.extBut hI.symm).extBut hs₂.extBut hdl.symm) (hp.keep λb o hb e=>kp b o (λz=>hb (by rw[z];exact aan)) (λz=>hb (by rw[z];exact aaj _ aan)) e) hd₂ ?_ λh' tk hd' k'=>?_⟩
  ·have:(storedH kvs ps[i].1 ps[i].2.1 ps[i].2.2).length≤kvs.length+1:=by
    unfold storedH;split
    ·rw[aa1];omega
    ·rw[aa2];exact aa6 _
   omega
  ·refine hR h' tk ?_ λc o c1 c2 x=>k' c o c1 c2 (kp c o c1 c2 x);rw[aav hlt];exact hd'
theorem mq {l:Addr} {items:Array Value} {n:Nat} {Q:Value→Shared→Prop} (hu:A.units+4 < cLine) (hh:A.handled=none) (ho:s.heap.get? l=some { cls:=.type "list",dict:=none,data:=.seq items n,slots:=#[] })
  (ps:List (List Key×Addr×Value)) (hn:ps.length=items.size) (hps:PrT prog w ps items [] s.heap) (hsz:ps.length≤sizeLine)
  (h:∀h' tk,h'.DictOfH (tupleKind (bj prog w)) s.heap.objs.size (Dp ps [])→(∀c o,s.heap.get? c=some o→h'.get? c=some o)→Q (.ref s.heap.objs.size) { s with heap:=h',toks:=tk }):
  wpAny (model prog w) A (call (.type "dict") [.ref l]) Q E s:=by
 refine callType_codes (Q₁:=λobj s₁=>obj=.ref s.heap.objs.size∧s₁={ s with heap:=s.heap.push { cls:=.type "dict",data:=.dict #[] } }) F.kt_called_dict (F.kt_typeCall_dict_1 _) F.entry_dict_init (kt_code_dict_new _ ⟨rfl,rfl⟩) ?_;rintro obj s₁ ⟨rfl,rfl⟩;have hnew:(s.heap.push { cls:=.type "dict",data:=.dict #[] }).DictOfH (tupleKind (bj prog w)) s.heap.objs.size []:=Heap.DictOfH.new s.heap;have gt:∀{c o},s.heap.get? c=some o→s.heap.objs.size≠c:=λe=>abq (Heap.lt_size e);have up:∀{c o},s.heap.get? c=some o→(s.heap.push { cls:=.type "dict",data:=.dict #[] }).get? c=some o:=λe=>Heap.get?_push_of_some _ e;have hty:Shared.TypeIs { s with heap:=s.heap.push { cls:=.type "dict",data:=.dict #[] } } (.ref s.heap.objs.size) "dict":=⟨_,Heap.get?_push_size _ rfl,rfl⟩;refine ⟨hty,F.args_dict_init_2 _ _,?_⟩;unfold Builtin.«dict.__init__»;refine wpAny_bind ?_;unfold Builtin.Dict.selfAndRest;refine wpAny_bind (wpAny_notOrdered_dict hty ?_);show wpAny _ _ (pure (s.heap.objs.size,[Value.ref l])) _ _ _
 refine wpAny_pure ?_;show wpAny _ _ (Builtin.Dict.updateFrom "dict.__init__" s.heap.objs.size (.ref l) [] .none) _ _ _
 unfold Builtin.Dict.updateFrom;have hT:Shared.TypeIs { s with heap:=s.heap.push { cls:=.type "dict",data:=.dict #[] } } (.ref l) "list":=⟨_,up ho,rfl⟩;refine wpAny_bind (wpAny_typeOf hT ?_);rw[if_pos (by decide)];refine wpAny_bind (K6 (up ho) (by simp[hh]) λh₁ tk₁ kp₁=>?_);rw[if_pos (show (none:Option Value).isNone=true from rfl)];have kp:∀{c o},s.heap.get? c=some o→h₁.get? c=some o:=λe=>kp₁ _ _ (up e);have hl₁:h₁.IsList l items:=⟨_,kp ho,rfl,n,rfl⟩;refine wpAny_bind (wpAny_rule (wpAny_bind (wpAny_pyIter_list hl₁ ?_)));have dl:s.heap.objs.size < h₁.objs.size:=Heap.lt_size (kp₁ _ _ (Heap.get?_push_size _ rfl));have hd₁:(h₁.push { cls:=.type "list_iterator",data:=.fields #[.ref l,.int 0 0] }).DictOfH (tupleKind (bj prog w)) s.heap.objs.size []:=by
  obtain ⟨o,es,ep,ho,r1,r2,r3,r4,r5⟩:=hnew;exact ⟨o,es,ep,Heap.get?_push_of_some _ (kp₁ _ _ ho),r1,r2,r3,(λx hx=>nomatch hx),r5⟩
 refine wpAny_pure ⟨plainId_quiet jo _,loopT (items:=items) (abq (Heap.lt_size (kp ho))) (by simp only[units_in1];omega) (by simp[hh]) (aaf dl) (gt ho) ps hn ps.length 0 0 _ [] rfl (aa8 _) ⟨_,Heap.get?_push_size _ rfl,rfl,rfl⟩ (hl₁.push _) (λi k b y e=>?_) hd₁ (by show 0+_≤_;omega) λh' tk hd' k'=>⟨rfl,?_⟩⟩
 ·obtain ⟨T,o,n,a1,a2,a3,a4,a5,a6⟩:=hps i k b y e;have nt:∀{c o},s.heap.get? c=some o→c∉[s.heap.objs.size,h₁.objs.size]:=λ{c o} q z=>by
   rcases List.mem_cons.mp z with z | z
   ·exact gt q z.symm
   ·rw[List.mem_singleton.mp z] at q;exact absurd (Heap.lt_size (kp q)) (abj _)
  obtain ⟨ob,its,m,g1,g2⟩:=a4;exact ⟨T,o,n,a1,nt a5,nt g1,⟨ob,its,m,Heap.get?_push_of_some _ (kp g1),g2⟩,Heap.get?_push_of_some _ (kp a5),a6⟩
 ·exact h h' tk hd' λc o e=>k' c o (gt e).symm (aaf (Heap.lt_size (kp e))) (Heap.get?_push_of_some _ (kp e))
end
end Zd
noncomputable def ko (ps acc:List (List Key×V)):List (List Key×V):=ps.foldl (λacc p=>putK acc p.1 p.2) acc
theorem xa:∀(ps acc:List (List Key×V)),(ko ps acc).length≤acc.length+ps.length
 | [],acc=>aa6 _
 | p::ps,acc=>by
  have h1:=xa ps (putK acc p.1 p.2);have h2:=gj acc p.1 p.2;show (ko ps (putK acc p.1 p.2)).length≤_
  rw[aal];omega
theorem KT.merge {H:Hp}:∀{ps:List (List Key×V)} {qs:List (List Key×Addr×Value)},KT H ps qs→∀{acc:List (List Key×V)} {acc':List (List Key×Addr×Value)},KT H acc acc'→KT H (ko ps acc) (Zd.Dp qs acc')
 | _,_,.nil,_,_,r=>r
 | (k,v)::ps,(k',b,u)::qs,.cons h t,acc,acc',r=>by
  obtain ⟨h1,h2,h3⟩:=h;have h1:k=k':=h1;subst h1;exact KT.merge t (r.put k h2 h3)
section
variable {X:Cx}
theorem mq (hu:X.A.units+8 < cLine):gw X (.type "dict") (λxs H Q=>X.calm=true∧∃(a:Addr) (rs:List V) (ps:List (List Key×V)),xs=[.ref a]∧H a=some (.lst rs)∧rs.length=ps.length∧(∀(i:Nat) (p:List Key×V),ps[i]?=some p→∃t b,rs[i]?=some (.ref t)∧H t=some (.tup [.ref b,p.2])∧H b=some (.tup (p.1.map kV)))∧∀d,H d=none→Q (.ref d) (upd H d (.dT (ko ps [])))):=by
 intro pins s σ H xs us Q I r h;obtain ⟨hc,a,rs,ps,rfl,ha,hl,hp,q⟩:=h;obtain ⟨u,rfl,rx⟩:=vals1 r;cases rx
 obtain ⟨z,its,n,rv,e⟩:=I.hok a _ ha;have hl2:=rv.length;obtain ⟨qs,kt,hq⟩:∃qs:List (List Key×Addr×Value),KT H ps qs∧∀(i:Nat) (k:List Key) (b:Addr) (y:Value),qs[i]?=some (k,b,y)→∃(T:Addr) (o:Obj) (m:Nat),its[i]?=some (.ref T)∧H b=some (.tup (k.map kV))∧s.heap.get? T=some o∧o.cls=.type "tuple"∧o.data=.seq #[.ref b,y] m:=by
  have one:∀(i:Nat) (p:List Key×V),ps[i]?=some p→∃(b:Addr) (y:Value) (T:Addr) (o:Obj) (m:Nat),RelV p.2 y∧its[i]?=some (.ref T)∧H b=some (.tup (p.1.map kV))∧s.heap.get? T=some o∧o.cls=.type "tuple"∧o.data=.seq #[.ref b,y] m:=λi p hi=>by
   obtain ⟨t,b,h1,h2,h3⟩:=hp i p hi;obtain ⟨u,hu,ru⟩:=rv.get h1;cases (show u=Value.ref t from ru)
   obtain ⟨_,js,rj,o,g1,g2,m,g3⟩:=vz I.hok h2;obtain ⟨x,y,rfl,rx,ry⟩:=vals2 rj;cases (show x=Value.ref b from rx)
   exact ⟨b,y,t,o,m,ry,hu,h3,g1,g2,g3⟩
  clear hp q hl ha rv hl2 e z;clear hc;suffices go:∀(ps:List (List Key×V)) (its:List Value),(∀(i:Nat) (p:List Key×V),ps[i]?=some p→∃(b:Addr) (y:Value) (T:Addr) (o:Obj) (m:Nat),RelV p.2 y∧its[i]?=some (.ref T)∧H b=some (.tup (p.1.map kV))∧s.heap.get? T=some o∧o.cls=.type "tuple"∧o.data=.seq #[.ref b,y] m)→∃qs:List (List Key×Addr×Value),KT H ps qs∧∀(i:Nat) (k:List Key) (b:Addr) (y:Value),qs[i]?=some (k,b,y)→∃(T:Addr) (o:Obj) (m:Nat),its[i]?=some (.ref T)∧H b=some (.tup (k.map kV))∧s.heap.get? T=some o∧o.cls=.type "tuple"∧o.data=.seq #[.ref b,y] m from go ps its one
  intro ps;induction ps with
  | nil=>exact λits _=>⟨[],.nil,λi k b y h=>by simp at h⟩
  | cons p ps ih=>
   intro its one;obtain ⟨qs,k1,k2⟩:=ih its.tail λi p' hi=>by
    obtain ⟨b,y,T,o,m,h1,h2,h3⟩:=one (i+1) p' hi;exact ⟨b,y,T,o,m,h1,by rw[aew];exact h2,h3⟩
   obtain ⟨b,y,T,o,m,h1,h2,h3,h4⟩:=one 0 p rfl;refine ⟨(p.1,b,y)::qs,.cons ⟨rfl,h3,h1⟩ k1,λi k b' y' hi=>?_⟩;cases i with
   | zero=>
    cases hi
    exact ⟨T,o,m,h2,h3,h4⟩
   | succ i=>
    obtain ⟨T,o,m,g1,g2⟩:=k2 i k b' y' hi;exact ⟨T,o,m,by rw[aew] at g1;exact g1,g2⟩
 have lq:=Paired.length kt;refine Zd.mq (by omega) (I.ok.hd hc) e qs (by rw[aa5];omega) (λi k b y hi=>?_) (by omega) λh' tk hd keep=>?_
 ·obtain ⟨T,o,m,g1,g2,g3,g4,g5⟩:=hq i k b y hi;exact ⟨T,o,m,by rw[aeg];exact g1,(λz=>nomatch z),(λz=>nomatch z),mf I.hok g2,g3,g4,g5⟩
 ·have zl:(ko ps []).length≤sizeLine:=by
   have:=xa ps [];rw[acn] at this;omega
  have fr:=I.hok.fresh (aa6 s.heap.objs.size);obtain ⟨o,es,ep,r1,r2,r3,r4,_,r6⟩:=hd;refine ⟨.ref s.heap.objs.size,_,I.laid (t':=tk) (λb u e=>keep b u e) (aa6 _) (show br X.prog X.w _ _ _ (.dT (ko ps [])) from ⟨zl,?_,_,(KT.merge kt .nil).keeps λc ys ec=>?_,o,es,ep,r1,r2,r3,r4,r6⟩),rfl,q _ fr⟩
  ·exact beq_eq_false_iff_ne.mpr (Ne.symm (aaf I.big))
  ·rw[af (ag ec fr)];exact ec
end
namespace Zd
section
variable {prog:Program} {w:World} {A:Around} {E:Value→Shared→Prop} {s:Shared}
end
end Zd
section
variable {X:Cx}
end
end L2
namespace Pc
open PySem PySem.Spec L2 PyProof.Rows Fm
abbrev Ky:=Nat×Str
noncomputable def kyK (k:Ky):List Key:=[Sum.inl (k.1:Int),Sum.inr k.2]
theorem oy {a b:Ky} (h:kyK a=kyK b):a=b:=by
 obtain ⟨a1,a2⟩:=a;obtain ⟨b1,b2⟩:=b;unfold kyK at h;simp only[ac6,Sum.inl.injEq,Sum.inr.injEq,and_true] at h;rw[h.2,show a1=b1 by omega]
noncomputable def kyT (k:Ky):HO:=.tup [.int (k.1:Int),.str k.2]
def dc (H:Hp) (d:Addr) (g:Ky→Option Int) (n:Nat):Prop:=∃kvs:List (List Key×V),H d=some (.dT kvs)∧kvs.length≤n∧∀k,dh kvs (kyK k)=(g k).map V.int
theorem dc.get {H:Hp} {d b:Addr} {g:Ky→Option Int} {n:Nat} {k:Ky} (h:dc H d g n) (hb:H b=some (kyT k)):jz H d (.ref b) ((g k).map V.int):=by
 obtain ⟨kvs,h1,_,h3⟩:=h;rw[←h3 k];exact jz.t h1 hb
theorem dc.val {H:Hp} {d b:Addr} {g:Ky→Option Int} {n:Nat} {k:Ky} {v:Int} (h:dc H d g n) (hb:H b=some (kyT k)) (e:g k=some v):jz H d (.ref b) (some (.int v)):=by
 have:=h.get hb;rw[e] at this;exact this
theorem dc.mono {H:Hp} {d:Addr} {g:Ky→Option Int} {n m:Nat} (h:dc H d g n) (e:n≤m):dc H d g m:=by
 obtain ⟨kvs,h1,h2,h3⟩:=h;exact ⟨kvs,h1,by omega,h3⟩
theorem dc.at {H H':Hp} {d:Addr} {g:Ky→Option Int} {n:Nat} (h:dc H d g n) (e:∀o,H d=some o→H' d=some o):dc H' d g n:=by
 obtain ⟨kvs,h1,h2⟩:=h;exact ⟨kvs,e _ h1,h2⟩
theorem dc.same {H H':Hp} {d:Addr} {g:Ky→Option Int} {n:Nat} (h:dc H d g n) (s:ak H H'):dc H' d g n:=h.at λo e=>s _ _ e
theorem dc.nil {H:Hp} {d:Addr}:dc (upd H d (.dT [])) d (λ_=>none) 0:=⟨[],ae,aa6 _,λ_=>rfl⟩
theorem dc.put {H:Hp} {d b:Addr} {g:Ky→Option Int} {n:Nat} {k:Ky} {v:Int} (h:dc H d g n) (hb:H b=some (kyT k)) (hn:n≤1000000):
  ∃o,vw H d (.ref b) (.int v) (upd H d o)∧dc (upd H d o) d (gb g k v) (if (g k).isSome then n else n+1):=by
 obtain ⟨kvs,h1,h2,h3⟩:=h;have sz:=sizeLine_eq;refine ⟨.dT (putK kvs (kyK k) (.int v)),vw.t h1 hb (by omega),_,ae,?_,λj=>?_⟩
 ·have hk:=h3 k;cases e:g k with
  | none=>
   have:=gj kvs (kyK k) (.int v);simp only[aco,aaz,if_false];omega
  | some w=>
   rw[e] at hk;have ha:(kvs.any λkv=>decide (kv.1=kyK k))=true:=by rw[fo,hk];rfl
   simp only[aca,if_true];unfold putK;rw[if_pos ha,aa1];exact h2
 ·rw[Cr];by_cases e:j=k
  ·subst e;rw[if_pos rfl,cf];rfl
  ·rw[if_neg (λz=>e (oy z)),dw e];exact h3 j
theorem dc.bound {H:Hp} {d:Addr} {g:Ky→Option Int} {n:Nat} (h:dc H d g n):∃D:Nat,∀k v,g k=some v→v≤(D:Int):=by
 obtain ⟨kvs,h1,_,h3⟩:=h;obtain ⟨B,hB⟩:=nu (λp:List Key×V=>match p.2 with | .int i=>i.toNat | _=>0) kvs;refine ⟨B,λk v e=>?_⟩;have hk:=h3 k;rw[e] at hk;unfold dh at hk;obtain ⟨p,hp,e2⟩:=Option.map_eq_some_iff.mp hk;have:=hB p (List.mem_of_find?_eq_some hp);rw[show p.2=V.int v from e2] at this;have:v.toNat≤B:=this;omega
structure Kx (no:Addr→Prop) (H H':Hp):Prop where
 t:∀{a:Addr} {xs:List V},H a=some (.tup xs)→H' a=some (.tup xs)
 l:∀{a:Addr} {xs:List V},¬no a→H a=some (.lst xs)→H' a=some (.lst xs)
theorem Kx.same {no:Addr→Prop} {H H':Hp} (s:ak H H'):Kx no H H':=⟨λh=>s _ _ h,λ_ h=>s _ _ h⟩
theorem Kx.trans {no:Addr→Prop} {H H1 H2:Hp} (a:Kx no H H1) (b:Kx no H1 H2):Kx no H H2:=⟨λh=>b.t (a.t h),λn h=>b.l n (a.l n h)⟩
theorem Kx.weak {no no':Addr→Prop} {H H':Hp} (a:Kx no H H') (h:∀x,no x→no' x):Kx no' H H':=⟨a.t,λn e=>a.l (λz=>n (h _ z)) e⟩
theorem Kx.upd {x:Addr} {H:Hp} {ys:List V} {o:HO} (h:H x=some (.lst ys)):Kx (·=x) H (L2.upd H x o):=⟨λe=>by rw[af (df e h (by intro z;cases z))];exact e,λn e=>by rw[af n];exact e⟩
theorem Kx.dict {no:Addr→Prop} {d:Addr} {H H':Hp} {kvs:List (List Key×V)} (h:H d=some (.dT kvs)) (s:aq d H H'):Kx no H H':=⟨λe=>s _ _ (df e h (by intro z;cases z)) e,λ_ e=>s _ _ (df e h (by intro z;cases z)) e⟩
theorem Kx.tb {no:Addr→Prop} {d:Addr} {H H':Hp} {g:Ky→Option Int} {n:Nat} (h:dc H d g n) (s:aq d H H'):Kx no H H':=by
 obtain ⟨kvs,h1,_⟩:=h;exact Kx.dict h1 s
def mr (H:Hp) (l:Addr) (hs:List Ky):Prop:=∃as:List Addr,H l=some (.lst (as.map V.ref))∧as.length=hs.length∧∀(j:Nat) (k:Ky),hs[j]?=some k→∃a,as[j]?=some a∧H a=some (kyT k)
theorem mr.kx {no:Addr→Prop} {H H':Hp} {l:Addr} {hs:List Ky} (h:mr H l hs) (x:Kx no H H') (n:¬no l):mr H' l hs:=by
 obtain ⟨as,h1,h2,h3⟩:=h;exact ⟨as,x.l n h1,h2,λj k e=>by
  obtain ⟨a,g1,g2⟩:=h3 j k e;exact ⟨a,g1,x.t g2⟩⟩
theorem mr.same {H H':Hp} {l:Addr} {hs:List Ky} (h:mr H l hs) (s:ak H H'):mr H' l hs:=h.kx (no:=λ_=>False) (Kx.same s) id
structure Fr where
 name:Str
 kind:Str
 own:Int
 hs:List Ky
def FrAt (H:Hp) (no:Addr→Prop) (a:Addr) (f:Fr):Prop:=∃hl,¬no hl∧H a=some (.tup [.str f.name,.str f.kind,.int f.own,.ref hl])∧mr H hl f.hs
def dj (H:Hp) (no:Addr→Prop) (as:List Addr) (fs:List Fr):Prop:=as.length=fs.length∧∀(j:Nat) (f:Fr),fs[j]?=some f→∃a,as[j]?=some a∧FrAt H no a f
theorem dj.kx {no:Addr→Prop} {H H':Hp} {as:List Addr} {fs:List Fr} (h:dj H no as fs) (x:Kx no H H'):dj H' no as fs:=⟨h.1,λj f e=>by
 obtain ⟨a,g1,hl,g2,g3,g4⟩:=h.2 j f e;exact ⟨a,g1,hl,g2,x.t g3,g4.kx x g2⟩⟩
theorem dj.weak {no no':Addr→Prop} {H:Hp} {as:List Addr} {fs:List Fr} (h:dj H no as fs) (w:∀x,no' x→no x):dj H no' as fs:=⟨h.1,λj f e=>by
 obtain ⟨a,g1,hl,g2,g3⟩:=h.2 j f e;exact ⟨a,g1,hl,λz=>g2 (w _ z),g3⟩⟩
theorem dj.snoc {no:Addr→Prop} {H:Hp} {as:List Addr} {fs:List Fr} {a:Addr} {f:Fr} (h:dj H no as fs) (hf:FrAt H no a f):dj H no (as++[a]) (fs++[f]):=by
 refine ⟨by rw[aa2,aa2,h.1];rfl,λi f' hi=>?_⟩;by_cases c:i < fs.length
 ·rw[aae c] at hi;obtain ⟨a',g1,g2⟩:=h.2 i f' hi;exact ⟨a',by rw[aae (by rw[h.1];exact c)];exact g1,g2⟩
 ·rw[aac (by omega)] at hi;have hz:i - fs.length=0:=by
   rcases abr (i - fs.length) with g | g
   ·exact g
   ·rw[abg (by rw[aa9];omega)] at hi;cases hi
  rw[hz] at hi;cases hi
  exact ⟨a,by rw[aac (by rw[h.1];omega),h.1,hz];rfl,hf⟩
theorem dj.nil (H:Hp) (no:Addr→Prop):dj H no [] []:=⟨rfl,λj f h=>by simp at h⟩
noncomputable def ba (kinds:List Str) (sh:List V):List Str:=sh.filterMap λv=>match v with
 | .str z=>if z∈kinds then some z else none
 | _=>none
noncomputable def fm (p:Nat) (f:Fr):Ft Ky:=⟨(p,f.kind),f.own,f.hs⟩
noncomputable def kg (kinds:List Str) (ws:List V) (p:Nat) (r:Rl):Option Fr:=(dy kinds ws r.shape p ⟨[],[],[]⟩).map λu=>⟨r.name,r.kind,r.price,u.hs.zip (ba kinds r.shape)⟩
noncomputable def bp (kinds:List Str) (rs:List Rl) (ws:List V) (p:Nat):List Fr:=rs.filterMap (kg kinds ws p)
structure Rw where
 place:Nat
 kind:Str
 price:Int
 names:List Str
def RwAt (H:Hp) (no:Addr→Prop) (a:Addr) (r:Rw):Prop:=∃nl,¬no nl∧H a=some (.tup [.int (r.place:Int),.str r.kind,.int r.price,.ref nl])∧H nl=some (.lst (r.names.map V.str))
def cb (H:Hp) (no:Addr→Prop) (as:List Addr) (rs:List Rw):Prop:=as.length=rs.length∧∀(j:Nat) (r:Rw),rs[j]?=some r→∃a,as[j]?=some a∧RwAt H no a r
theorem cb.kx {no:Addr→Prop} {H H':Hp} {as:List Addr} {rs:List Rw} (h:cb H no as rs) (x:Kx no H H'):cb H' no as rs:=⟨h.1,λj f e=>by
 obtain ⟨a,g1,hl,g2,g3,g4⟩:=h.2 j f e;exact ⟨a,g1,hl,g2,x.t g3,x.l g2 g4⟩⟩
theorem cb.weak {no no':Addr→Prop} {H:Hp} {as:List Addr} {rs:List Rw} (h:cb H no as rs) (w:∀x,no' x→no x):cb H no' as rs:=⟨h.1,λj f e=>by
 obtain ⟨a,g1,hl,g2,g3⟩:=h.2 j f e;exact ⟨a,g1,hl,λz=>g2 (w _ z),g3⟩⟩
theorem cb.nil (H:Hp) (no:Addr→Prop):cb H no [] []:=⟨rfl,λj f h=>by simp at h⟩
theorem cb.append {no:Addr→Prop} {H:Hp} {as bs:List Addr} {rs qs:List Rw} (h:cb H no as rs) (h':cb H no bs qs):cb H no (as++bs) (rs++qs):=by
 refine ⟨by rw[aa2,aa2,h.1,h'.1],λi r hi=>?_⟩;by_cases c:i < rs.length
 ·rw[aae c] at hi;obtain ⟨a',g1,g2⟩:=h.2 i r hi;exact ⟨a',by rw[aae (by rw[h.1];exact c)];exact g1,g2⟩
 ·rw[aac (by omega)] at hi;obtain ⟨a',g1,g2⟩:=h'.2 _ r hi;exact ⟨a',by rw[aac (by rw[h.1];omega),h.1];exact g1,g2⟩
theorem cb.one {no:Addr→Prop} {H:Hp} {a:Addr} {r:Rw} (h:RwAt H no a r):cb H no [a] [r]:=⟨rfl,λj r' e=>by
 cases j with
 | zero=>cases e;exact ⟨a,rfl,h⟩
 | succ j=>simp at e⟩
noncomputable def namesW (fs:List Fr) (g:Ky→Option Int) (k:Str) (v:Int):List Str:=(fs.filter λf=>decide (f.kind=k∧cost g f.own f.hs=some v)).map (·.name)
noncomputable def dn (ks:List Str) (fs:List Fr) (p:Nat) (g:Ky→Option Int):List Rw:=ks.filterMap λk=>(g (p,k)).map λv=>⟨p,k,v,namesW fs g k v⟩
noncomputable def rowsOf (kinds:List Str) (rs:List Rl) (ws:List V) (g:Ky→Option Int):List Rw:=(aat ws.length).flatMap λp=>dn (cv kinds) (bp kinds rs ws p) p g
noncomputable def m8 (kinds:List Str) (rs:List Rl) (ws:List V):List (Ft Ky):=(aat ws.length).flatMap λp=>(bp kinds rs ws p).map (fm p)
def ou (K:PySem.W.Frag):Sp:=λvs H Q _=>∃(st kt ut:Addr) (sh:List V) (kinds:List Str) (u:Und),vs=[.ref st,.ref kt,.ref ut]∧SqT K H st sh∧SqT K H kt (kinds.map V.str)∧Kd H ut u∧Kinds kinds∧(∀v∈sh,isW v)∧sh.length≤1000∧u.hs.length=(ba kinds sh).length∧∀(l:Addr) (H':Hp),ak H H'→H l=none→mr H' l (u.hs.zip (ba kinds sh))→Q (.ref l) H'
def kq:Sp:=λvs H Q _=>∃(b wt:Addr) (kinds:List Str) (rs:List Rl) (ws:List V) (p:Nat),vs=[.ref b,.ref wt,.int (p:Int)]∧cy H b kinds rs∧H wt=some (.tup ws)∧Bk kinds rs∧Tw ws∧p < ws.length∧∀(l:Addr) (as:List Addr) (H':Hp),ak H H'→H l=none→H' l=some (.lst (as.map V.ref))→dj H' (λx=>H x≠none) as (bp kinds rs ws p)→Q (.ref l) H'
def jm:Sp:=λvs H Q _=>∃(own:Int) (hl d:Addr) (hs:List Ky) (g:Ky→Option Int) (n:Nat),vs=[.int own,.ref hl,.ref d]∧mr H hl hs∧dc H d g n∧Q (match cost g own hs with | none=>.non | some c=>.int c) H
def pb:Sp:=λvs H Q _=>∃(p:Nat) (fl d:Addr) (as:List Addr) (fs:List Fr) (g:Ky→Option Int) (n:Nat),vs=[.int (p:Int),.ref fl,.ref d]∧H fl=some (.lst (as.map V.ref))∧dj H (λ_=>False) as fs∧dc H d g n∧n+fs.length≤1000000∧(∀f∈fs,1≤f.own)∧(∀k v,g k=some v→1≤v)∧(∀k,k.1=p→g k=none)∧
 ∀(H':Hp) (g':Ky→Option Int),aq d H H'→dc H' d g' (n+fs.length)→jh (fs.map (fm p)) g'→(∀k,k.1≠p→g' k=g k)→(∀k v,k.1=p→g' k=some v→∃f∈fs.map (fm p),f.key=k∧∃c,cost g' f.own f.hs=some c∧c≤v)→(∀k v,g' k=some v→1≤v)→Q .non H'
def zj:Sp:=λvs H Q _=>∃(k:Str) (v:Int) (fl d:Addr) (as:List Addr) (fs:List Fr) (g:Ky→Option Int) (n:Nat),vs=[.str k,.int v,.ref fl,.ref d]∧H fl=some (.lst (as.map V.ref))∧dj H (λ_=>False) as fs∧fs.length≤1000∧dc H d g n∧∀(l:Addr) (H':Hp),ak H H'→H l=none→H' l=some (.lst ((namesW fs g k v).map V.str))→Q (.ref l) H'
def uh:Sp:=λvs H Q _=>∃(b fl d:Addr) (p:Nat) (kinds:List Str) (rs:List Rl) (as:List Addr) (fs:List Fr) (g:Ky→Option Int) (n:Nat),vs=[.ref b,.int (p:Int),.ref fl,.ref d]∧cy H b kinds rs∧kinds.length≤60∧H fl=some (.lst (as.map V.ref))∧dj H (λ_=>False) as fs∧fs.length≤1000∧dc H d g n∧∀(l:Addr) (bs:List Addr) (H':Hp),ak H H'→H l=none→H' l=some (.lst (bs.map V.ref))→cb H' (λx=>H x≠none) bs (dn (cv kinds) fs p g)→Q (.ref l) H'
def uc:Sp:=λvs H Q _=>∃(b wt:Addr) (kinds:List Str) (rs:List Rl) (ws:List V),vs=[.ref b,.ref wt]∧cy H b kinds rs∧H wt=some (.tup ws)∧Bk kinds rs∧Tw ws∧∀(l:Addr) (bs:List Addr) (H':Hp) (g:Ky→Option Int),ak H H'→H l=none→H' l=some (.lst (bs.map V.ref))→Tbl (m8 kinds rs ws) g→cb H' (λx=>H x≠none) bs (rowsOf kinds rs ws g)→Q (.ref l) H'
end Pc
namespace Pc
open PySem PySem.Spec L2 PyProof.Rows Fm
noncomputable def isH (kinds:List Str):V→Bool
 | .str z=>decide (z∈kinds)
 | _=>false
theorem o9 {kinds:List Str} {v:V} (hv:isW v):inV v (kinds.map V.str)=isH kinds v:=by
 obtain ⟨k,rfl⟩:=hv;cases k with
 | inl i=>
  show inV (.int i) (kinds.map V.str)=false
  induction kinds with
  | nil=>rfl
  | cons z r ih=>exact ih
 | inr z=>
  show inV (.str z) (kinds.map V.str)=decide (z∈kinds)
  by_cases h:z∈kinds
  ·rw[decide_eq_true h];exact t8 (List.mem_map.mpr ⟨z,h,rfl⟩)
  ·rw[decide_eq_false h];cases e:inV (.str z) (kinds.map V.str) with
   | false=>rfl
   | true=>
    obtain ⟨y,hy,e'⟩:=List.mem_map.mp (la e);cases e'
    exact absurd hy h
theorem ny {kinds:List Str} (hk:Kinds kinds) {v:V} (hv:isW v):cm kinds v=lH↔isH kinds v=true:=by
 obtain ⟨b1,b2,b3,_,_,_⟩:=lets;rcases gh (kinds:=kinds) hv with ⟨rfl,h⟩ | ⟨rfl,h⟩ | ⟨⟨z,hz,rfl⟩,h⟩ | ⟨h,hno⟩
 ·rw[h];refine ⟨λe=>absurd e b1,λe=>?_⟩;exact absurd rfl (hk _ (of_decide_eq_true (show decide (Str.ofString "any"∈kinds)=true from e))).2.1
 ·rw[h];refine ⟨λe=>absurd e b2,λe=>?_⟩;exact absurd rfl (hk _ (of_decide_eq_true (show decide (Str.ofString "var"∈kinds)=true from e))).2.2
 ·exact ⟨λ_=>decide_eq_true hz,λ_=>h⟩
 ·rw[h];refine ⟨λe=>absurd e b3,λe=>?_⟩;rw[o9 hv,e] at hno;cases hno
theorem Ek (kinds:List Str) (v:V) (r:List V):ba kinds (v::r)=(match v with | .str z=>if z∈kinds then [z] else [] | _=>[])++ba kinds r:=by
 unfold ba;rw[abv];cases v with
 | str z=>
  by_cases h:z∈kinds
  ·simp[h]
  ·simp[h]
 | _=>rfl
theorem jc (kinds:List Str):∀(sh:List V),(ba kinds sh).map V.str=sh.filter (isH kinds)
 | []=>rfl
 | v::r=>by
  rw[Ek,aaa,jc kinds r,aau];cases v with
  | str z=>
   by_cases h:z∈kinds
   ·simp[h,isH]
   ·simp[h,isH]
  | _=>simp[isH]
theorem Jg (kinds:List Str) (v:V) (r:List V):(ba kinds (v::r)).length=(if isH kinds v=true then 1 else 0)+(ba kinds r).length:=by
 have e:=congrArg ac0 (jc kinds (v::r));have e':=congrArg ac0 (jc kinds r);rw[aa1] at e e';rw[e,e',aau];by_cases h:isH kinds v=true
 ·rw[if_pos h,if_pos h,aal];omega
 ·rw[if_neg h,if_neg h];omega
theorem sf {kinds:List Str} {ws:List V} (hk:Kinds kinds):∀(sh:List V) (p:Nat) (u u':Und),(∀v∈sh,isW v)→dy kinds ws sh p u=some u'→u'.hs.length=u.hs.length+(ba kinds sh).length∧∀h∈u'.hs,h∈u.hs∨p≤h
 | [],p,u,u',_,h=>by
  have h:some u=some u':=h;cases h
  exact ⟨rfl,λ_ m=>.inl m⟩
 | v::r,p,u,u',hw,h=>by
  rw[m6] at h;by_cases c:lies (cm kinds v) v (ws.getD p .non)=true
  ·rw[if_pos c] at h;obtain ⟨i1,i2⟩:=sf hk r _ _ u' (λx m=>hw x (aaj _ m)) h;have hv:=hw v aan;rw[Jg];by_cases e:isH kinds v=true
   ·have e':=(ny hk hv).mpr e;have ep:u.put (cm kinds v) p (ws.getD p .non)=⟨u.hs++[p],u.ns,u.vs⟩:=by
     unfold Und.put;rw[if_pos e']
    rw[ep] at i1 i2;rw[if_pos e'] at i2;rw[if_pos e];have i1:u'.hs.length=(u.hs++[p]).length+(ba kinds r).length:=i1;rw[aa2,aa9] at i1;refine ⟨by omega,λh m=>?_⟩;have le:p≤endAt ws p:=ab2 _ _;rcases i2 h m with g | g
    ·rcases List.mem_append.mp (show h∈u.hs++[p] from g) with g | g
     ·exact .inl g
     ·rw[List.mem_singleton.mp g];exact .inr (aa6 _)
    ·exact .inr (by omega)
   ·have e':¬cm kinds v=lH:=λz=>e ((ny hk hv).mp z);have ep:(u.put (cm kinds v) p (ws.getD p .non)).hs=u.hs:=by
     unfold Und.put;rw[if_neg e'];split
     ·rfl
     split
     ·rfl
     ·rfl
    rw[ep] at i1 i2;rw[if_neg e'] at i2;rw[if_neg e];refine ⟨by omega,λh m=>?_⟩;rcases i2 h m with g | g
    ·exact .inl g
    ·exact .inr (by omega)
  ·rw[if_neg c] at h;cases h
theorem kz {kinds:List Str} {rs:List Rl} {ws:List V} (bk:Bk kinds rs) {p:Nat} {f:Fr} (h:f∈bp kinds rs ws p):1≤f.own∧f.kind∈kinds∧(∀k∈f.hs,p≤k.1)∧∃r∈rs,r.name=f.name∧r.kind=f.kind∧r.price=f.own∧∃u,dy kinds ws r.shape p ⟨[],[],[]⟩=some u∧f.hs=u.hs.zip (ba kinds r.shape):=by
 obtain ⟨r,hr,e⟩:=List.mem_filterMap.mp h;obtain ⟨u,hu,rfl⟩:=Option.map_eq_some_iff.mp e;refine ⟨bk.pr r hr,bk.rk r hr,λk hk=>?_,r,hr,rfl,rfl,rfl,u,hu,rfl⟩;have:=(sf bk.kd r.shape p _ u (bk.sh r hr).1 hu).2 k.1 (adl (show (k.1,k.2)∈u.hs.zip (ba kinds r.shape) from hk)).1;rcases this with g | g
 ·cases g
 ·exact g
theorem Lc (kinds:List Str) (rs:List Rl) (ws:List V) (p:Nat):(bp kinds rs ws p).length≤rs.length:=aby _ _
end Pc
namespace Pc
open PySem PySem.Spec L2 PyProof.Rows Fm
noncomputable def gOf (H:Hp) (d:Addr):Ky→Option Int:=λk=>match H d with
 | some (.dT kvs)=>match dh kvs (kyK k) with
  | some (.int i)=>some i
  | _=>none
 | _=>none
theorem zo {H:Hp} {d:Addr} {g:Ky→Option Int} {n:Nat} (h:dc H d g n):gOf H d=g:=by
 obtain ⟨kvs,h1,_,h3⟩:=h;funext k
 unfold gOf;rw[h1];show (match dh kvs (kyK k) with | some (.int i)=>some i | _=>none)=g k
 rw[h3 k];cases g k <;> rfl
structure SetI (p:Nat) (fs:List Fr) (g0:Ky→Option Int) (Ok:(Ky→Option Int)→Prop) (g:Ky→Option Int):Prop where
 ok:Ok g
 far:∀k,k.1≠p→g k=g0 k
 due:∀k v,k.1=p→g k=some v→∃f∈fs.map (fm p),f.key=k∧∃c,cost g f.own f.hs=some c∧c≤v
theorem SetI.put {p:Nat} {fs:List Fr} {g0:Ky→Option Int} {Ok:(Ky→Option Int)→Prop} {g:Ky→Option Int} (h:SetI p fs g0 Ok g) {f:Fr} (hf:f∈fs) {c:Int} (hc:cost g f.own f.hs=some c) (im:Imp g (p,f.kind) c) (ok':Ok (gb g (p,f.kind) c)):SetI p fs g0 Ok (gb g (p,f.kind) c):=by
 refine ⟨ok',λk hk=>?_,λk v hk hv=>?_⟩
 ·rw[dw λe=>hk (by rw[e])];exact h.far k hk
 ·have up:∀{f':Ft Ky} {c':Int},cost g f'.own f'.hs=some c'→∃x,cost (gb g (p,f.kind) c) f'.own f'.hs=some x∧x≤c':=λh=>sr (λk _ v hv=>im.le hv) (ac1 _) h;by_cases e:k=(p,f.kind)
  ·subst e;rw[cf] at hv;cases hv
   obtain ⟨x,hx,le⟩:=up (f':=fm p f) hc;exact ⟨fm p f,List.mem_map.mpr ⟨f,hf,rfl⟩,rfl,x,hx,le⟩
  ·rw[dw e] at hv;obtain ⟨f',hf',e',c',hc',le⟩:=h.due k v hk hv;obtain ⟨x,hx,le'⟩:=up hc';exact ⟨f',hf',e',x,hx,by omega⟩
def Mm (p:Nat) (g:Ky→Option Int) (f:Fr):Prop:=∀c,cost g f.own f.hs=some c→∃v,g (p,f.kind)=some v∧v≤c
theorem Iv {p:Nat} {fs:List Fr} {g:Ky→Option Int} (h:∀(j:Nat) (f:Fr),fs[j]?=some f→Mm p g f):jh (fs.map (fm p)) g:=λf' hf' c hc=>by
 obtain ⟨f,hf,rfl⟩:=List.mem_map.mp hf';obtain ⟨j,hj⟩:=List.mem_iff_getElem?.mp hf;exact h j f hj c hc
theorem cnt_up {p:Nat} {fs:List Fr} {g:Ky→Option Int} {f:Fr} (hf:f∈fs) {c:Int} {n:Nat}:(if (g (p,f.kind)).isSome then n+cnt (fs.map (fm p)) g else n+cnt (fs.map (fm p)) g+1)≤n+cnt (fs.map (fm p)) (gb g (p,f.kind) c):=by
 cases e:g (p,f.kind) with
 | none=>
  have:=t7 (c:=c) e (fs.map (fm p)) ⟨fm p f,List.mem_map.mpr ⟨f,hf,rfl⟩,rfl⟩;simp only[aco,aaz,if_false];omega
 | some v=>
  have:=j9 (g:=g) (g':=gb g (p,f.kind) c) (fs.map (fm p)) λf' _ e=>by
   by_cases q:f'.key=(p,f.kind)
   ·rw[q,cf];rfl
   ·rw[dw q];exact e
  simp only[aca,if_true];omega
theorem aq.tb {d:Addr} {H:Hp} (o:HO):aq d H (L2.upd H d o):=λb u n h=>by rw[af n];exact h
noncomputable def blAt (σ:List (Option V)):Nat:=match σ[3]? with
 | some (some (V.bl false))=>1
 | _=>0
end Pc
namespace Pc
open PySem PySem.Spec L2 PyProof.Rows Fm
structure xr (kinds:List Str) (rs:List Rl) (ws:List V) (p:Nat) (g:Ky→Option Int):Prop where
 at':∀k v,g k=some v→p≤k.1∧k.1 < ws.length
 st:∀q,p≤q→q < ws.length→jh ((bp kinds rs ws q).map (fm q)) g
 due:∀k v,g k=some v→∃f∈(bp kinds rs ws k.1).map (fm k.1),f.key=k∧∃c,cost g f.own f.hs=some c∧c≤v
 pos:∀k v,g k=some v→1≤v
theorem xr.start (kinds:List Str) (rs:List Rl) (ws:List V):xr kinds rs ws ws.length (λ_=>none):=⟨(λk v h=>nomatch h),(λq h1 h2=>by omega),(λk v h=>nomatch h),(λk v h=>nomatch h)⟩
theorem wz {kinds:List Str} {rs:List Rl} {ws:List V} (bk:Bk kinds rs) {p q:Nat} {g g':Ky→Option Int} (hq:p < q) (far:∀k,k.1≠p→g' k=g k) {f:Fr} (hf:f∈bp kinds rs ws q) (c:Int):cost g' c f.hs=cost g c f.hs:=vj λk hk=>far k (by have:=(kz bk hf).2.2.1 k hk;omega)
theorem xr.step {kinds:List Str} {rs:List Rl} {ws:List V} (bk:Bk kinds rs) {p:Nat} {g g':Ky→Option Int} (h:xr kinds rs ws (p+1) g) (hp:p < ws.length) (st:jh ((bp kinds rs ws p).map (fm p)) g') (far:∀k,k.1≠p→g' k=g k)
  (due:∀k v,k.1=p→g' k=some v→∃f∈(bp kinds rs ws p).map (fm p),f.key=k∧∃c,cost g' f.own f.hs=some c∧c≤v) (pos:∀k v,g' k=some v→1≤v):xr kinds rs ws p g':=by
 refine ⟨λk v hv=>?_,λq h1 h2=>?_,λk v hv=>?_,pos⟩
 ·by_cases e:k.1=p
  ·omega
  ·rw[far k e] at hv;have:=h.at' k v hv;omega
 ·by_cases e:q=p
  ·subst e;exact st
  ·intro f hf c hc;obtain ⟨f',hf',rfl⟩:=List.mem_map.mp hf;have hc:cost g' f'.own f'.hs=some c:=hc;rw[wz bk (show p < q by omega) far hf'] at hc;obtain ⟨v,hv,le⟩:=h.st q (by omega) h2 (fm q f') hf c hc;exact ⟨v,by rw[far _ (show q≠p from e)];exact hv,le⟩
 ·by_cases e:k.1=p
  ·obtain ⟨f,hf,e1,r⟩:=due k v e hv;rw[e];exact ⟨f,hf,e1,r⟩
  ·rw[far k e] at hv;obtain ⟨f,hf,e1,c,hc,le⟩:=h.due k v hv;obtain ⟨f',hf',rfl⟩:=List.mem_map.mp hf;have:=(h.at' k v hv).1;refine ⟨_,hf,e1,c,?_,le⟩;show cost g' f'.own f'.hs=some c
   rw[wz bk (show p < k.1 by omega) far hf'];exact hc
theorem Kb {kinds:List Str} {rs:List Rl} {ws:List V} (bk:Bk kinds rs) {p q:Nat} {g g':Ky→Option Int} (hq:p < q) (far:∀k,k.1≠p→g' k=g k) (ks:List Str):dn ks (bp kinds rs ws q) q g'=dn ks (bp kinds rs ws q) q g:=by
 unfold dn;have e:(λk=>(g' (q,k)).map λv=>(⟨q,k,v,namesW (bp kinds rs ws q) g' k v⟩:Rw))=λk=>(g (q,k)).map λv=>⟨q,k,v,namesW (bp kinds rs ws q) g k v⟩:=by
  funext k
  rw[far (q,k) (show q≠p by omega)];congr 1
  funext v
  congr 1
  unfold namesW;congr 1
  apply List.filter_congr
  intro f hf;rw[wz bk hq far hf]
 rw[e]
theorem xr.tbl {kinds:List Str} {rs:List Rl} {ws:List V} {g:Ky→Option Int} (h:xr kinds rs ws 0 g):Tbl (m8 kinds rs ws) g:=by
 refine ⟨λf hf c hc=>?_,λk v hv=>?_,h.pos⟩
 ·obtain ⟨q,hq,hf⟩:=List.mem_flatMap.mp hf;exact h.st q (aa8 _) (List.mem_range.mp hq) f hf c hc
 ·obtain ⟨f,hf,e,r⟩:=h.due k v hv;exact ⟨f,List.mem_flatMap.mpr ⟨k.1,List.mem_range.mpr (h.at' k v hv).2,hf⟩,e,r⟩
def gp (H0 H:Hp) (pl:Addr) (pa:List Addr) (kinds:List Str) (rs:List Rl) (ws:List V) (p:Nat) (g:Ky→Option Int):Prop:=pa.length=ws.length - p∧∀q,p≤q→q < ws.length→∃a bs,pa[ws.length - 1 - q]?=some a∧¬(H0 a≠none∨a=pl)∧H a=some (.lst (bs.map V.ref))∧cb H (λx=>H0 x≠none∨x=pl) bs (dn (cv kinds) (bp kinds rs ws q) q g)
theorem gp.kx {H0 H H':Hp} {pl:Addr} {pa:List Addr} {kinds:List Str} {rs:List Rl} {ws:List V} {p:Nat} {g:Ky→Option Int} (h:gp H0 H pl pa kinds rs ws p g) (x:Kx (λx=>H0 x≠none∨x=pl) H H'):gp H0 H' pl pa kinds rs ws p g:=⟨h.1,λq h1 h2=>by
 obtain ⟨a,bs,g1,g2,g3,g4⟩:=h.2 q h1 h2;exact ⟨a,bs,g1,g2,x.l g2 g3,g4.kx x⟩⟩
theorem gp.snoc {H0 H:Hp} {pl:Addr} {pa:List Addr} {kinds:List Str} {rs:List Rl} {ws:List V} {p:Nat} {g g':Ky→Option Int} (bk:Bk kinds rs) (h:gp H0 H pl pa kinds rs ws (p+1) g) (hp:p < ws.length) (far:∀k,k.1≠p→g' k=g k) {a:Addr} {bs:List Addr} (ha:¬(H0 a≠none∨a=pl)) (h1:H a=some (.lst (bs.map V.ref))) (h2:cb H (λx=>H0 x≠none∨x=pl) bs (dn (cv kinds) (bp kinds rs ws p) p g')):gp H0 H pl (pa++[a]) kinds rs ws p g':=by
 have hl:=h.1;refine ⟨by rw[aa2,aa9,hl];omega,λq h3 h4=>?_⟩;by_cases e:q=p
 ·subst e;exact ⟨a,bs,by rw[aac (by omega),hl,show ws.length - 1 - q - (ws.length - (q+1))=0 by omega];rfl,ha,h1,h2⟩
 ·obtain ⟨a',bs',g1,g2,g3,g4⟩:=h.2 q (by omega) h4;refine ⟨a',bs',by rw[aae (by omega)];exact g1,g2,g3,?_⟩;rw[Kb bk (show p < q by omega) far];exact g4
theorem xf (ks:List Str) (fs:List Fr) (p:Nat) (g:Ky→Option Int):(dn ks fs p g).length≤ks.length:=aby _ _
noncomputable def jl (kinds:List Str) (rs:List Rl) (ws:List V) (g:Ky→Option Int) (i:Nat):List Rw:=(aat i).flatMap λp=>dn (cv kinds) (bp kinds rs ws p) p g
theorem iw (kinds:List Str) (rs:List Rl) (ws:List V) (g:Ky→Option Int) (i:Nat):jl kinds rs ws g (i+1)=jl kinds rs ws g i++dn (cv kinds) (bp kinds rs ws i) i g:=by
 unfold jl;rw[aeb,aep];simp
theorem m4 (kinds:List Str) (rs:List Rl) (ws:List V) (g:Ky→Option Int) (hk:kinds.length≤60):∀i,(jl kinds rs ws g i).length≤60*i
 | 0=>aa6 _
 | i+1=>by
  rw[iw,aa2];have h1:=m4 kinds rs ws g hk i;have h2:=xf (cv kinds) (bp kinds rs ws i) i g;rw[qh] at h2;omega
end Pc
namespace Pc
open PySem PySem.Spec L2 PyProof.Rows Fm
theorem Dn {kinds:List Str} {rs:List Rl} {ws:List V} {g:Ky→Option Int} (T:Tbl (m8 kinds rs ws) g) {r:Rw} (h:r∈rowsOf kinds rs ws g):∃nm,r.names.head?=some nm:=by
 obtain ⟨p,hp,h⟩:=List.mem_flatMap.mp h;obtain ⟨k,hk,e⟩:=List.mem_filterMap.mp h;obtain ⟨v,hv,rfl⟩:=Option.map_eq_some_iff.mp e;obtain ⟨f,hf,e1,hc⟩:=T.exact hv;obtain ⟨p',_,hf⟩:=List.mem_flatMap.mp hf;obtain ⟨f',hf',rfl⟩:=List.mem_map.mp hf;have e1:(p',f'.kind)=(p,k):=e1;obtain ⟨rfl,rfl⟩:=acq e1;have hm:f'.name∈namesW (bp kinds rs ws p') g f'.kind v:=List.mem_map.mpr ⟨f',List.mem_filter.mpr ⟨hf',decide_eq_true ⟨rfl,hc⟩⟩,rfl⟩;show ∃nm,(namesW (bp kinds rs ws p') g f'.kind v).head?=some nm
 cases e:namesW (bp kinds rs ws p') g f'.kind v with
 | nil=>rw[e] at hm;cases hm
 | cons x xs=>exact ⟨x,rfl⟩
structure Tr where
 place:Int
 kind:Str
 price:Int
 name:Str
def xk (H:Hp) (ts:List Addr) (tab:List Tr):Prop:=ts.length=tab.length∧∀(j:Nat) (t:Tr),tab[j]?=some t→∃a,ts[j]?=some a∧H a=some (.tup [.int t.place,.str t.kind,.int t.price,.str t.name])
theorem xk.same {H H':Hp} {ts:List Addr} {tab:List Tr} (h:xk H ts tab) (s:ak H H'):xk H' ts tab:=⟨h.1,λj r e=>by
 obtain ⟨a,h1,h2⟩:=h.2 j r e;exact ⟨a,h1,s _ _ h2⟩⟩
def trOk (t:Tr) (r:Rw):Prop:=t.place=(r.place:Int)∧t.kind=r.kind∧t.price=r.price∧t.name∈r.names
def yf (tab:List Tr) (rows:List Rw):Prop:=tab.length=rows.length∧∀(j:Nat) (t:Tr) (r:Rw),tab[j]?=some t→rows[j]?=some r→trOk t r
def sj:Sp:=λvs H Q _=>∃(b wt tl:Addr) (kinds:List Str) (rs:List Rl) (ws:List V) (ts:List Addr) (tab:List Tr),vs=[.ref b,.ref wt,.ref tl]∧cy H b kinds rs∧H wt=some (.tup ws)∧Bk kinds rs∧Tw ws∧H tl=some (.lst (ts.map V.ref))∧xk H ts tab∧tab.length≤100000∧∀(H':Hp) (g:Ky→Option Int) (c:Bool),ak H H'→Tbl (m8 kinds rs ws) g→(c=true↔yf tab (rowsOf kinds rs ws g))→Q (.bl c) H'
end Pc
namespace Pc
open PySem PySem.Spec L2 PyProof.Rows Fm
theorem cb.get {no:Addr→Prop} {H:Hp} {as:List Addr} {rows:List Rw} (h:cb H no as rows) {i:Nat} {t:Addr} (ht:as[i]?=some t):∃r nl,rows[i]?=some r∧H t=some (.tup [.int (r.place:Int),.str r.kind,.int r.price,.ref nl])∧H nl=some (.lst (r.names.map V.str)):=by
 have hi:i < rows.length:=by rw[←h.1];exact (List.getElem?_eq_some_iff.mp ht).1
 obtain ⟨a,h1,nl,_,h3,h4⟩:=h.2 i _ (aa0 hi);obtain rfl:a=t:=aa3 (h1.symm.trans ht);exact ⟨_,nl,aa0 hi,h3,h4⟩
theorem Ex {kinds:List Str} {rs:List Rl} {ws:List V} {g:Ky→Option Int} (bk:Bk kinds rs) (tw:Tw ws):(rowsOf kinds rs ws g).length≤60000:=by
 have h1:=m4 kinds rs ws g bk.kl ws.length;have h2:=tw.len;have h1:(rowsOf kinds rs ws g).length≤60*ws.length:=h1;omega
theorem cut3 (a b c d:V):cn [a,b,c,d] none (some 3)=[a,b,c]:=kh [a,b,c,d] 3 (by show (3:Nat)≤4;decide)
theorem cut2 (a b c d:V):cn [a,b,c,d] none (some 2)=[a,b]:=kh [a,b,c,d] 2 (by show (2:Nat)≤4;decide)
end Pc
namespace Pc
open PySem PySem.Spec L2 PyProof.Rows Fm
noncomputable def ee (r:Rw):Ky:=(r.place,r.kind)
theorem j4 (fs:List Fr) (p:Nat) (g:Ky→Option Int):∀ks:List Str,(dn ks fs p g).map ee=(ks.filter λk=>(g (p,k)).isSome).map λk=>(p,k)
 | []=>rfl
 | k::ks=>by
  have ih:=j4 fs p g ks;unfold dn at ih ⊢;rw[abv,aau];cases e:g (p,k) with
  | none=>simpa using ih
  | some v=>
   show ee ⟨p,k,v,_⟩::_=_
   rw[if_pos (by rfl),ab0];congr 1
theorem El {kinds:List Str} (h:kinds.Nodup):(cv kinds).Nodup:=(gz kinds).nodup_iff.mpr h
theorem ly {α β:Type} {f:α→β} (hf:∀a b,f a=f b→a=b):∀{l:List α},l.Nodup→(l.map f).Nodup
 | [],_=>acv
 | a::l,h=>by
  obtain ⟨h1,h2⟩:=List.nodup_cons.mp h;rw[ab0];refine List.nodup_cons.mpr ⟨λm=>?_,ly hf h2⟩;obtain ⟨b,hb,e⟩:=List.mem_map.mp m;exact h1 (hf _ _ e ▸ hb)
theorem qb {kinds:List Str} (hk:kinds.Nodup) (rs:List Rl) (ws:List V) (g:Ky→Option Int):∀i,((jl kinds rs ws g i).map ee).Nodup∧∀k∈(jl kinds rs ws g i).map ee,k.1 < i
 | 0=>⟨acv,λk h=>nomatch h⟩
 | i+1=>by
  obtain ⟨h1,h2⟩:=qb hk rs ws g i;rw[iw,aaa,j4];have one:∀k∈((cv kinds).filter λk=>(g (i,k)).isSome).map (λk=>(i,k)),k.1=i:=λk hk=>by
   obtain ⟨z,_,rfl⟩:=List.mem_map.mp hk;rfl
  refine ⟨List.nodup_append.mpr ⟨h1,ly (λa b e=>(acq e).2) ((El hk).sublist aeq),λa ha b hb e=>?_⟩,λk hk=>?_⟩
  ·have:=h2 a ha;have:=one b hb;rw[e] at*;omega
  ·rcases List.mem_append.mp hk with m | m
   ·have:=h2 k m;omega
   ·have:=one k m;omega
theorem vb {kinds:List Str} {rs:List Rl} {ws:List V} {g:Ky→Option Int} {r:Rw} (h:r∈rowsOf kinds rs ws g):r.place < ws.length∧g (r.place,r.kind)=some r.price∧r.names=namesW (bp kinds rs ws r.place) g r.kind r.price:=by
 obtain ⟨p,hp,h⟩:=List.mem_flatMap.mp h;obtain ⟨k,hk,e⟩:=List.mem_filterMap.mp h;obtain ⟨v,hv,rfl⟩:=Option.map_eq_some_iff.mp e;exact ⟨List.mem_range.mp hp,hv,rfl⟩
theorem Cc {kinds:List Str} {rs:List Rl} {ws:List V} {g:Ky→Option Int} (bk:Bk kinds rs) (T:Tbl (m8 kinds rs ws) g) {k:Ky} {v:Int} (h:g k=some v):∃r∈rowsOf kinds rs ws g,r.place=k.1∧r.kind=k.2∧r.price=v:=by
 obtain ⟨f,hf,e,_⟩:=T.exact h;obtain ⟨p,hp,hf⟩:=List.mem_flatMap.mp hf;obtain ⟨f',hf',rfl⟩:=List.mem_map.mp hf;have e:(p,f'.kind)=k:=e;subst e;refine ⟨⟨p,f'.kind,v,namesW (bp kinds rs ws p) g f'.kind v⟩,List.mem_flatMap.mpr ⟨p,hp,List.mem_filterMap.mpr ⟨f'.kind,Iq.mpr (kz bk hf').2.1,?_⟩⟩,rfl,rfl,rfl⟩;rw[h];rfl
theorem yv:∀(ps acc:List (List Key×V)),((acc++ps).map (·.1)).Nodup→ko ps acc=acc++ps
 | [],acc,_=>(ab1 _).symm
 | p::ps,acc,h=>by
  have hn:dh acc p.1=none:=by
   cases e:dh acc p.1 with
   | none=>rfl
   | some v=>
    have hm:=Pf e;rw[aaa] at h;exact absurd rfl ((List.nodup_append.mp h).2.2 _ hm _ (List.mem_map.mpr ⟨p,aan,rfl⟩))
  show ko ps (putK acc p.1 p.2)=_
  rw[Cm p.2 hn,yv ps _ (by rw[aax];exact h),aax];rfl
theorem Fq {κ:Type} [DecidableEq κ]:∀{ps:List (κ×V)} {k:κ} {v:V},(ps.map (·.1)).Nodup→(k,v)∈ps→dh ps k=some v
 | [],_,_,_,h=>nomatch h
 | p::ps,k,v,nd,h=>by
  have nd:(p.1::ps.map (·.1)).Nodup:=nd;obtain ⟨n1,n2⟩:=List.nodup_cons.mp nd;rcases List.mem_cons.mp h with e | h
  ·rw[bx (by rw[←e]),←e]
  ·have ne:¬p.1=k:=λe=>n1 (e ▸ List.mem_map.mpr ⟨_,h,rfl⟩);rw[bz ne];exact Fq n2 h
theorem Ks {kinds:List Str} {rs:List Rl} {ws:List V} (bk:Bk kinds rs):∀f∈m8 kinds rs ws,1≤f.own:=λf hf=>by
 obtain ⟨p,_,hf⟩:=List.mem_flatMap.mp hf;obtain ⟨f',hf',rfl⟩:=List.mem_map.mp hf;exact (kz bk hf').1
def nz (K:PySem.W.Frag):Sp:=λvs H Q _=>∃(kt st:Addr) (kinds:List Str) (sh:List V),vs=[.ref kt,.ref st]∧SqT K H kt (kinds.map V.str)∧SqT K H st sh∧(∀v∈sh,isW v)∧sh.length≤1000∧∀(l:Addr) (H':Hp),ak H H'→H l=none→H' l=some (.lst ((ba kinds sh).map V.str))→Q (.ref l) H'
end Pc
namespace Pc
open PySem PySem.Spec L2 PyProof.Rows Fm
end Pc
namespace L2
theorem ob2 {α0 α1:Type} {p:α0→α1→Prop} {g:Prop} (h:∃a0 a1,p a0 a1) (k:∀a0 a1,p a0 a1→g):g:=by
 obtain ⟨a0,a1,h⟩:=h;exact k a0 a1 h
theorem ob3 {α0 α1 α2:Type} {p:α0→α1→α2→Prop} {g:Prop} (h:∃a0 a1 a2,p a0 a1 a2) (k:∀a0 a1 a2,p a0 a1 a2→g):g:=by
 obtain ⟨a0,a1,a2,h⟩:=h;exact k a0 a1 a2 h
theorem ob4 {α0 α1 α2 α3:Type} {p:α0→α1→α2→α3→Prop} {g:Prop} (h:∃a0 a1 a2 a3,p a0 a1 a2 a3) (k:∀a0 a1 a2 a3,p a0 a1 a2 a3→g):g:=by
 obtain ⟨a0,a1,a2,a3,h⟩:=h;exact k a0 a1 a2 a3 h
theorem ob5 {α0 α1 α2 α3 α4:Type} {p:α0→α1→α2→α3→α4→Prop} {g:Prop} (h:∃a0 a1 a2 a3 a4,p a0 a1 a2 a3 a4) (k:∀a0 a1 a2 a3 a4,p a0 a1 a2 a3 a4→g):g:=by
 obtain ⟨a0,a1,a2,a3,a4,h⟩:=h;exact k a0 a1 a2 a3 a4 h
theorem ob6 {α0 α1 α2 α3 α4 α5:Type} {p:α0→α1→α2→α3→α4→α5→Prop} {g:Prop} (h:∃a0 a1 a2 a3 a4 a5,p a0 a1 a2 a3 a4 a5) (k:∀a0 a1 a2 a3 a4 a5,p a0 a1 a2 a3 a4 a5→g):g:=by
 obtain ⟨a0,a1,a2,a3,a4,a5,h⟩:=h;exact k a0 a1 a2 a3 a4 a5 h
theorem ob7 {α0 α1 α2 α3 α4 α5 α6:Type} {p:α0→α1→α2→α3→α4→α5→α6→Prop} {g:Prop} (h:∃a0 a1 a2 a3 a4 a5 a6,p a0 a1 a2 a3 a4 a5 a6) (k:∀a0 a1 a2 a3 a4 a5 a6,p a0 a1 a2 a3 a4 a5 a6→g):g:=by
 obtain ⟨a0,a1,a2,a3,a4,a5,a6,h⟩:=h;exact k a0 a1 a2 a3 a4 a5 a6 h
theorem ob8 {α0 α1 α2 α3 α4 α5 α6 α7:Type} {p:α0→α1→α2→α3→α4→α5→α6→α7→Prop} {g:Prop} (h:∃a0 a1 a2 a3 a4 a5 a6 a7,p a0 a1 a2 a3 a4 a5 a6 a7) (k:∀a0 a1 a2 a3 a4 a5 a6 a7,p a0 a1 a2 a3 a4 a5 a6 a7→g):g:=by
 obtain ⟨a0,a1,a2,a3,a4,a5,a6,a7,h⟩:=h;exact k a0 a1 a2 a3 a4 a5 a6 a7 h
theorem ob10 {α0 α1 α2 α3 α4 α5 α6 α7 α8 α9:Type} {p:α0→α1→α2→α3→α4→α5→α6→α7→α8→α9→Prop} {g:Prop} (h:∃a0 a1 a2 a3 a4 a5 a6 a7 a8 a9,p a0 a1 a2 a3 a4 a5 a6 a7 a8 a9) (k:∀a0 a1 a2 a3 a4 a5 a6 a7 a8 a9,p a0 a1 a2 a3 a4 a5 a6 a7 a8 a9→g):g:=by
 obtain ⟨a0,a1,a2,a3,a4,a5,a6,a7,a8,a9,h⟩:=h;exact k a0 a1 a2 a3 a4 a5 a6 a7 a8 a9 h
open PySem PySem.Spec PyProof.Rows
theorem Bn {K:PySem.W.Frag} {n:Nat} {a:Addr} {x0 x1:V} {i0 i1:Nat} {σ:L2.St} {H:Hp} {Q:L2.St→Hp→Prop} (h:H a=some (.tup [x0,x1])) (hn:2=n) (q:Q ((σ.set i0 (some x0)).set i1 (some x1)) H):Ew K n (fq (cj i0) (fq (cj i1) gNil)) (.ref a) σ H Q:=⟨a,_,rfl,SqT.of h,hn,_,_,rfl,_,_,rfl,rfl,q⟩
theorem Ck {K:PySem.W.Frag} {n:Nat} {a:Addr} {x0 x1 x2 x3:V} {i0 i1 i2 i3:Nat} {σ:L2.St} {H:Hp} {Q:L2.St→Hp→Prop} (h:H a=some (.tup [x0,x1,x2,x3])) (hn:4=n) (q:Q ((((σ.set i0 (some x0)).set i1 (some x1)).set i2 (some x2)).set i3 (some x3)) H):Ew K n (fq (cj i0) (fq (cj i1) (fq (cj i2) (fq (cj i3) gNil)))) (.ref a) σ H Q:=⟨a,_,rfl,SqT.of h,hn,_,_,rfl,_,_,rfl,_,_,rfl,_,_,rfl,rfl,q⟩
theorem Mj {K:PySem.W.Frag} {n:Nat} {a:Addr} {x0 x1 x2 x3 x4:V} {i0 i1 i2 i3 i4:Nat} {σ:L2.St} {H:Hp} {Q:L2.St→Hp→Prop} (h:H a=some (.tup [x0,x1,x2,x3,x4])) (hn:5=n) (q:Q (((((σ.set i0 (some x0)).set i1 (some x1)).set i2 (some x2)).set i3 (some x3)).set i4 (some x4)) H):Ew K n (fq (cj i0) (fq (cj i1) (fq (cj i2) (fq (cj i3) (fq (cj i4) gNil))))) (.ref a) σ H Q:=⟨a,_,rfl,SqT.of h,hn,_,_,rfl,_,_,rfl,_,_,rfl,_,_,rfl,_,_,rfl,rfl,q⟩
end L2
namespace Pc
open PySem PySem.Spec L2 PyProof.Rows Fm
theorem Qs {K:PySem.W.Frag} {v:V} {kt:Addr} {kinds:List Str} {H:Hp} {Q:VK} {E:XK} (p0:isW v) (p1:SqT K H kt (kinds.map V.str)) (p2:Q (.str (cm kinds v)) H):(jk K) [v,.ref kt] H Q E:=⟨v,kt,kinds,rfl,p0,p1,p2⟩
theorem mkLies {l:Str} {v x:V} {H:Hp} {Q:VK} {E:XK} (p0:isW v) (p1:isW x) (p2:Q (.bl (lies l v x)) H):zw [.str l,v,x] H Q E:=⟨l,v,x,rfl,p0,p1,p2⟩
theorem mkLaid {K:PySem.W.Frag} {st kt wt:Addr} {sh:List V} {kinds:List Str} {ws:List V} {p n:Nat} {H:Hp} {Q:VK} {E:XK} (p0:SqT K H st sh) (p1:SqT K H kt (kinds.map V.str)) (p2:SqT K H wt ws) (p3:Kinds kinds) (p4:(∀v∈sh,isW v)) (p5:(∀v∈ws,isW v)) (p6:isTerm sh) (p7:eat 1 ((ws.drop p).map arV)=some n) (p8:sh.length≤1000) (p9:ws.length≤1000) (p10:∀H',ak H H'→told (dy kinds ws sh p ⟨[],[],[]⟩) H' Q):(Ai K) [.ref st,.ref kt,.ref wt,.int (p:Int)] H Q E:=⟨st,kt,wt,sh,kinds,ws,p,n,rfl,p0,p1,p2,p3,p4,p5,p6,p7,p8,p9,p10⟩
theorem mkEnds {K:PySem.W.Frag} {t:Addr} {ws:List V} {H:Hp} {Q:VK} {E:XK} (p0:SqT K H t ws) (p1:(∀v∈ws,isW v)) (p2:isTerm ws) (p3:ws.length≤1000) (p4:∀(l:Addr) (H':Hp),ak H H'→H l=none→H' l=some (.lst ((aat ws.length).map λq=>plV (endAt ws q)))→Q (.ref l) H'):(ze K) [.ref t] H Q E:=⟨t,ws,rfl,p0,p1,p2,p3,p4⟩
theorem Ow {K:PySem.W.Frag} {st kt wt et:Addr} {sh:List V} {kinds:List Str} {ws:List V} {p:Nat} {H:Hp} {Q:VK} {E:XK} (p0:SqT K H st sh) (p1:SqT K H kt (kinds.map V.str)) (p2:SqT K H wt ws) (p3:H et=some (.lst ((aat ws.length).map λq=>plV (endAt ws q)))) (p4:Kinds kinds) (p5:(∀v∈sh,isW v)) (p6:isTerm sh) (p7:sh.length≤1000) (p8:Tw ws) (p9:p < ws.length) (p10:∀H',ak H H'→told (dy kinds ws sh p ⟨[],[],[]⟩) H' Q):(ub K) [.ref kt,.ref st,.ref wt,.ref et,.int (p:Int)] H Q E:=⟨st,kt,wt,et,sh,kinds,ws,p,rfl,p0,p1,p2,p3,p4,p5,p6,p7,p8,p9,p10⟩
theorem Qk {d nl b:Addr} {ns:List Int} {zs:List Str} {m n:Nat} {H:Hp} {Q:VK} {E:XK} (p0:cu H d b ns n) (p1:cg H nl zs) (p2:1≤m) (p3:m≤120) (p4:n≤50000) (p5:∀(t:Addr) (n':Nat) (H':Hp) (ws:List V),aq d H H'→H' d=some (.lst [.ref b,.int (n':Int)])→n'≤n+m→H t=none→H' t=some (.tup ws)→Tw ws→ws.length≤m→Q (.ref t) H'):sk [.ref d,.ref nl,.int (m:Int)] H Q E:=⟨d,nl,b,ns,zs,m,n,rfl,p0,p1,p2,p3,p4,p5⟩
theorem Pn {d kt b:Addr} {ns:List Int} {kinds:List Str} {n:Nat} {H:Hp} {Q:VK} {E:XK} (p0:cu H d b ns n) (p1:H kt=some (.tup (kinds.map V.str))) (p2:Kinds kinds) (p3:1≤kinds.length) (p4:kinds.length≤20) (p5:n≤50000) (p6:∀(t:Addr) (n':Nat) (H':Hp) (sh:List V),aq d H H'→H' d=some (.lst [.ref b,.int (n':Int)])→n'≤n+12→H t=none→H' t=some (.tup sh)→jy kinds sh→Q (.ref t) H'):tf [.ref d,.ref kt] H Q E:=⟨d,kt,b,ns,kinds,n,rfl,p0,p1,p2,p3,p4,p5,p6⟩
theorem Qg {K:PySem.W.Frag} {kt st:Addr} {kinds:List Str} {sh:List V} {H:Hp} {Q:VK} {E:XK} (p0:H kt=some (.tup (kinds.map V.str))) (p1:H st=some (.tup sh)) (p2:Kinds kinds) (p3:jy kinds sh) (p4:∀(t:Addr) (ds:List V) (H':Hp),ak H H'→H' t=some (.tup ds)→Q (.ref t) H'):(tj K) [.ref kt,.ref st] H Q E:=⟨kt,st,kinds,sh,rfl,p0,p1,p2,p3,p4⟩
theorem mkBook {d nl b:Addr} {ns:List Int} {zs:List Str} {n:Nat} {H:Hp} {Q:VK} {E:XK} (p0:cu H d b ns n) (p1:cg H nl zs) (p2:n≤1000) (p3:∀(bt:Addr) (n':Nat) (H':Hp) (kinds:List Str) (rs:List Rl),aq d H H'→H' d=some (.lst [.ref b,.int (n':Int)])→n'≤n+1000→cy H' bt kinds rs→Bk kinds rs→1≤rs.length→Q (.ref bt) H'):y4 [.ref d,.ref nl] H Q E:=⟨d,nl,b,ns,zs,n,rfl,p0,p1,p2,p3⟩
theorem Mn {d b:Addr} {ns:List Int} {n:Nat} {H:Hp} {Q:VK} {E:XK} (p0:cu H d b ns n) (p1:n≤1000) (p2:∀(l:Addr) (H':Hp) (zs:List Str),aq d H H'→H' d=some (.lst [.ref b,.int ((n+1:Nat):Int)])→cg H' l zs→Q (.ref l) H'):oo [.ref d] H Q E:=⟨d,b,ns,n,rfl,p0,p1,p2⟩
theorem Ka {K:PySem.W.Frag} {st kt ut:Addr} {sh:List V} {kinds:List Str} {u:Und} {H:Hp} {Q:VK} {E:XK} (p0:SqT K H st sh) (p1:SqT K H kt (kinds.map V.str)) (p2:Kd H ut u) (p3:Kinds kinds) (p4:(∀v∈sh,isW v)) (p5:sh.length≤1000) (p6:u.hs.length=(ba kinds sh).length) (p7:∀(l:Addr) (H':Hp),ak H H'→H l=none→mr H' l (u.hs.zip (ba kinds sh))→Q (.ref l) H'):(ou K) [.ref st,.ref kt,.ref ut] H Q E:=⟨st,kt,ut,sh,kinds,u,rfl,p0,p1,p2,p3,p4,p5,p6,p7⟩
theorem Ja {b wt:Addr} {kinds:List Str} {rs:List Rl} {ws:List V} {p:Nat} {H:Hp} {Q:VK} {E:XK} (p0:cy H b kinds rs) (p1:H wt=some (.tup ws)) (p2:Bk kinds rs) (p3:Tw ws) (p4:p < ws.length) (p5:∀(l:Addr) (as:List Addr) (H':Hp),ak H H'→H l=none→H' l=some (.lst (as.map V.ref))→dj H' (λx=>H x≠none) as (bp kinds rs ws p)→Q (.ref l) H'):kq [.ref b,.ref wt,.int (p:Int)] H Q E:=⟨b,wt,kinds,rs,ws,p,rfl,p0,p1,p2,p3,p4,p5⟩
theorem Pd {own:Int} {hl d:Addr} {hs:List Ky} {g:Ky→Option Int} {n:Nat} {H:Hp} {Q:VK} {E:XK} (p0:mr H hl hs) (p1:dc H d g n) (p2:Q (match cost g own hs with | none=>.non | some c=>.int c) H):jm [.int own,.ref hl,.ref d] H Q E:=⟨own,hl,d,hs,g,n,rfl,p0,p1,p2⟩
theorem M5 {p:Nat} {fl d:Addr} {as:List Addr} {fs:List Fr} {g:Ky→Option Int} {n:Nat} {H:Hp} {Q:VK} {E:XK} (p0:H fl=some (.lst (as.map V.ref))) (p1:dj H (λ_=>False) as fs) (p2:dc H d g n) (p3:n+fs.length≤1000000) (p4:(∀f∈fs,1≤f.own)) (p5:(∀k v,g k=some v→1≤v)) (p6:(∀k,k.1=p→g k=none)) (p7:∀(H':Hp) (g':Ky→Option Int),aq d H H'→dc H' d g' (n+fs.length)→jh (fs.map (fm p)) g'→(∀k,k.1≠p→g' k=g k)→(∀k v,k.1=p→g' k=some v→∃f∈fs.map (fm p),f.key=k∧∃c,cost g' f.own f.hs=some c∧c≤v)→(∀k v,g' k=some v→1≤v)→Q .non H'):pb [.int (p:Int),.ref fl,.ref d] H Q E:=⟨p,fl,d,as,fs,g,n,rfl,p0,p1,p2,p3,p4,p5,p6,p7⟩
theorem mkWith {k:Str} {v:Int} {fl d:Addr} {as:List Addr} {fs:List Fr} {g:Ky→Option Int} {n:Nat} {H:Hp} {Q:VK} {E:XK} (p0:H fl=some (.lst (as.map V.ref))) (p1:dj H (λ_=>False) as fs) (p2:fs.length≤1000) (p3:dc H d g n) (p4:∀(l:Addr) (H':Hp),ak H H'→H l=none→H' l=some (.lst ((namesW fs g k v).map V.str))→Q (.ref l) H'):zj [.str k,.int v,.ref fl,.ref d] H Q E:=⟨k,v,fl,d,as,fs,g,n,rfl,p0,p1,p2,p3,p4⟩
theorem N4 {b fl d:Addr} {p:Nat} {kinds:List Str} {rs:List Rl} {as:List Addr} {fs:List Fr} {g:Ky→Option Int} {n:Nat} {H:Hp} {Q:VK} {E:XK} (p0:cy H b kinds rs) (p1:kinds.length≤60) (p2:H fl=some (.lst (as.map V.ref))) (p3:dj H (λ_=>False) as fs) (p4:fs.length≤1000) (p5:dc H d g n) (p6:∀(l:Addr) (bs:List Addr) (H':Hp),ak H H'→H l=none→H' l=some (.lst (bs.map V.ref))→cb H' (λx=>H x≠none) bs (dn (cv kinds) fs p g)→Q (.ref l) H'):uh [.ref b,.int (p:Int),.ref fl,.ref d] H Q E:=⟨b,fl,d,p,kinds,rs,as,fs,g,n,rfl,p0,p1,p2,p3,p4,p5,p6⟩
theorem Ou {b wt:Addr} {kinds:List Str} {rs:List Rl} {ws:List V} {H:Hp} {Q:VK} {E:XK} (p0:cy H b kinds rs) (p1:H wt=some (.tup ws)) (p2:Bk kinds rs) (p3:Tw ws) (p4:∀(l:Addr) (bs:List Addr) (H':Hp) (g:Ky→Option Int),ak H H'→H l=none→H' l=some (.lst (bs.map V.ref))→Tbl (m8 kinds rs ws) g→cb H' (λx=>H x≠none) bs (rowsOf kinds rs ws g)→Q (.ref l) H'):uc [.ref b,.ref wt] H Q E:=⟨b,wt,kinds,rs,ws,rfl,p0,p1,p2,p3,p4⟩
theorem Pr {b wt tl:Addr} {kinds:List Str} {rs:List Rl} {ws:List V} {ts:List Addr} {tab:List Tr} {H:Hp} {Q:VK} {E:XK} (p0:cy H b kinds rs) (p1:H wt=some (.tup ws)) (p2:Bk kinds rs) (p3:Tw ws) (p4:H tl=some (.lst (ts.map V.ref))) (p5:xk H ts tab) (p6:tab.length≤100000) (p7:∀(H':Hp) (g:Ky→Option Int) (c:Bool),ak H H'→Tbl (m8 kinds rs ws) g→(c=true↔yf tab (rowsOf kinds rs ws g))→Q (.bl c) H'):sj [.ref b,.ref wt,.ref tl] H Q E:=⟨b,wt,tl,kinds,rs,ws,ts,tab,rfl,p0,p1,p2,p3,p4,p5,p6,p7⟩
theorem J8 {K:PySem.W.Frag} {kt st:Addr} {kinds:List Str} {sh:List V} {H:Hp} {Q:VK} {E:XK} (p0:SqT K H kt (kinds.map V.str)) (p1:SqT K H st sh) (p2:(∀v∈sh,isW v)) (p3:sh.length≤1000) (p4:∀(l:Addr) (H':Hp),ak H H'→H l=none→H' l=some (.lst ((ba kinds sh).map V.str))→Q (.ref l) H'):(nz K) [.ref kt,.ref st] H Q E:=⟨kt,st,kinds,sh,rfl,p0,p1,p2,p3,p4⟩
theorem nh {d b:Addr} {ns:List Int} {n:Nat} {H:Hp} {Q:VK} {E:XK} (p0:cu H d b ns n) (p1:n≤100000) (p2:∀(c:Int) (H':Hp),aq d H H'→H' d=some (.lst [.ref b,.int ((n+1:Nat):Int)])→Q (.int c) H'):gn [.ref d] H Q E:=⟨d,b,ns,n,rfl,p0,p1,p2⟩
end Pc
namespace L2.Itm
open PySem PySem.Spec PyProof.Rows
section
variable {prog:Program} {w:World} {A:Around} {E:Value→Shared→Prop} {s:Shared} {d:Addr} {es:Array DictEntry} {ep:Nat} {o:Obj}
theorem x5 {Q:Value→Shared→Prop} (hd:(d==sysModules)=false) (r:Raw s.heap d es ep o) (q:Q (.ref s.heap.objs.size) { s with heap:=s.heap.push { cls:=.type "dict_keyiterator",data:=.fields #[.ref d,.int 0 0,.int es.size 0,.int ep 0] } }):
  wpAny (model prog w) A (pyIter (.ref d)) Q E s:=by
 refine wpAny_pyIter_slot r.typeIs PySem.F.slot_dict_iter (wpAny_call_entry PySem.F.slot_dict_iter r.typeIs PySem.F.entry_dict_iter ?_ (PySem.F.args_dict_iter_1 _));unfold Builtin.«dict.__iter__»;refine wpAny_bind ?_;unfold Builtin.Dict.dictSlotNone;refine wpAny_bind (wpAny_notOrdered_dict r.typeIs (?_:wpAny _ _ (pure (Value.ref d)) _ _ s));refine wpAny_pure (?_:wpAny _ _ (Builtin.Dict.showsAll d >>=_) _ _ s);unfold Builtin.Dict.showsAll;rw[if_neg (show ¬(d==sysModules)=true by rw[hd];decide)];refine wpAny_bind (wpAny_pure (wpAny_bind (wpAny_dictEntries r.there r.data (wpAny_bind (wpAny_dictEpoch r.there r.data ?_)))));refine wpAny_bind (wpAny_newObj_type (wpAny_pure ⟨_,rfl,"dict_keyiterator",_,⟨_,Heap.get?_push_size _ rfl,rfl⟩,PySem.F.slot_dict_keyiterator_next.lookup,?_⟩));simpa [rawInt] using q
theorem yw {it:Addr} {i:Nat} {e:DictEntry} {Q:Option Value→Shared→Prop} (hit:s.heap.IsKeyIter it d i es.size ep) (r:Raw s.heap d es ep o) (hx:es[i]?=some e)
  (q:∀h',h'.IsKeyIter it d (i+1) es.size ep→Heap.SameBut it s.heap h'→Q (some e.key) { s with heap:=h' }):wpAny (model prog w) A (pyNext (.ref it)) Q E s:=by
 obtain ⟨oi,ho,hc,hf⟩:=id hit;have hT:=hit.typeIs;have own:Builtin.Dict_items.ownsTuple "dict_keyiterator"=false:=by decide
 unfold pyNext;refine wpAny_bind (wpAny_attempt (wpAny_callSpecial?_slot (name:=Str.ofString "__next__") hT PySem.F.slot_dict_keyiterator_next (wpAny_call_entry PySem.F.slot_dict_keyiterator_next hT PySem.F.entry_dict_keyiterator_next ?_ (PySem.F.args_dict_keyiterator_next_1 _))));refine wpAny_bind (wpAny_pure (wpAny_bind (wpAny_bind ?_)));refine wpAny_bind (wpAny_typeNameOfWhole_keyiter hT (wpAny_pure (wpAny_bind (wpAny_fieldsOf ho hf ?_))));simp only[own,aaz,if_false];refine (show wpAny _ _ (if (Value.ref d==Value.none)=true then _ else _) _ _ s from ?_);rw[if_neg (show ¬(Value.ref d==Value.none)=true from λz=>by cases z)];refine wpAny_bind (wpAny_pure (wpAny_bind (wpAny_dictEntries r.there r.data ?_)));rw[if_neg (by simp)];refine wpAny_bind (wpAny_pure (wpAny_bind (wpAny_dictEpoch r.there r.data ?_)));rw[if_neg (by simp)];refine wpAny_pure ?_;simp only[show ¬((i:Int) < 0) by omega,if_false,ac8,hx];refine wpAny_bind ?_;refine wpAny_bind (wpAny_typeNameOfWhole_keyiter hT (wpAny_pure (wpAny_bind (wpAny_isOneOf_keyiter hT ?_))));refine (show wpAny _ _ (setField (.ref it) 1 (rawInt ((i:Int)+1)) >>=_) _ _ s from wpAny_bind (wpAny_setField ho hf (by simp) ?_));have hit':(s.heap.update it (Obj.mapFields (·.setIfInBounds 1 (rawInt ((i:Int)+1))))).IsKeyIter it d (i+1) es.size ep:=
  ⟨_,Heap.get?_update_self _ ho (Obj.isFreed_of_fields (Obj.data_mapFields hf _)),(Obj.cls_mapFields ..).trans hc,by rw[Obj.data_mapFields hf];simp[rawInt]⟩
 refine wpAny_bind (wpAny_holding (wpAny_bind (wpAny_isOneOf_keyiter (s:={ s with heap:=s.heap.update it (Obj.mapFields (·.setIfInBounds 1 (rawInt ((i:Int)+1)))) }) hit'.typeIs ?_)));exact (show wpAny _ _ (pure e.key) _ _ _ from wpAny_pure (wpAny_pure ⟨_,rfl,wpAny_pure (q _ hit' (Heap.SameBut.update ..))⟩))
theorem Ca {it:Addr} {i:Nat} {Q:Option Value→Shared→Prop} (hh:A.handled=none) (hit:s.heap.IsKeyIter it d i es.size ep) (r:Raw s.heap d es ep o) (hx:es.size≤i)
  (q:∀h',Heap.ExtBut it s.heap h'→Q none { s with heap:=h' }):wpAny (model prog w) A (pyNext (.ref it)) Q E s:=by
 obtain ⟨oi,ho,hc,hf⟩:=id hit;have hT:=hit.typeIs;have own:Builtin.Dict_items.ownsTuple "dict_keyiterator"=false:=by decide
 unfold pyNext;refine wpAny_bind (wpAny_attempt (wpAny_callSpecial?_slot (name:=Str.ofString "__next__") hT PySem.F.slot_dict_keyiterator_next (wpAny_call_entry PySem.F.slot_dict_keyiterator_next hT PySem.F.entry_dict_keyiterator_next ?_ (PySem.F.args_dict_keyiterator_next_1 _))));refine wpAny_bind (wpAny_pure (wpAny_bind (wpAny_bind ?_)));refine wpAny_bind (wpAny_typeNameOfWhole_keyiter hT (wpAny_pure (wpAny_bind (wpAny_fieldsOf ho hf ?_))));simp only[own,aaz,if_false];refine (show wpAny _ _ (if (Value.ref d==Value.none)=true then _ else _) _ _ s from ?_);rw[if_neg (show ¬(Value.ref d==Value.none)=true from λz=>by cases z)];refine wpAny_bind (wpAny_pure (wpAny_bind (wpAny_dictEntries r.there r.data ?_)));rw[if_neg (by simp)];refine wpAny_bind (wpAny_pure (wpAny_bind (wpAny_dictEpoch r.there r.data ?_)));rw[if_neg (by simp)];refine wpAny_pure ?_;simp only[show ¬((i:Int) < 0) by omega,if_false,ac8,adf hx];refine wpAny_bind ?_;refine wpAny_bind (wpAny_typeNameOfWhole_keyiter hT (wpAny_pure ?_));refine (show wpAny _ _ (setField (.ref it) 0 .none >>=_) _ _ s from wpAny_bind (wpAny_setField ho hf (by simp) ?_));refine (show wpAny _ _ (newExc (.type "StopIteration") [] >>=_) _ _ _ from wpAny_bind ?_);simp only[newExc,newTuple];refine wpAny_bind (wpAny_newObj_type (wpAny_bind (m:=firstArgMember _ _) (wpAny_of_eq (a:=Value.none) (by first | rfl | (simp only[firstArgMember];rfl)) (wpAny_newObj_type ?_ (by size_fits)))) (by size_fits));simp only[raiseNew];refine wpAny_bind (wpAny_handled ?_);rw[show A.in1.handled=none from hh];refine wpAny_bind (wpAny_pure (wpAny_throw ?_));exact wpAny_bind (wpAny_isInstance (T:="StopIteration") (b:=true) ⟨_,Heap.get?_push_size _ rfl,rfl⟩ isSubtype_stop (wpAny_pure (q _ (((Heap.SameBut.update ..).extBut.push _).push _))))
end
end L2.Itm
namespace L2
open PySem PySem.Spec PyProof.Rows Itm
noncomputable def Itq (a:Addr) (o:Obj) (kvs:List (List Key×V)):It:=
 ⟨λi H=>i < kvs.length∧H a=some (.frz o (.dT kvs)),λi H x H'=>H'=H∧∃t k v,kvs[i]?=some (k,v)∧H t=some (.tup (k.map kV))∧x=.ref t,λi H=>i=kvs.length∧H a=some (.frz o (.dT kvs))⟩
theorem Eo {P:Program} {w:World} {K:PySem.W.Frag} {tg:Expr} (a it:Addr) (o:Obj) (kvs:List (List Key×V)):Turn P w K tg (Itq a o kvs) [it] it (λi h=>∃es ep,o.data=.dict es ep∧h.IsKeyIter it a i es.size ep) where
 mem:=by simp
 obj:=λi h st b hb=>by
  have e:b=it:=by simpa using hb
  subst e;obtain ⟨_,_,_,o',e',c',d'⟩:=st;exact ⟨o',e',λv z=>by rw[d'] at z;cases z⟩
 keep:=λi h h' st k=>by
  obtain ⟨es,ep,hd,o',ho',r'⟩:=st;exact ⟨es,ep,hd,o',k it (by simp) o' ho',r'⟩
 item:=by
  intro X hP hw hK hc i pins s σ H E I hf st hg;subst hP hw hK;obtain ⟨hi,ha⟩:=hg;obtain ⟨es,ep,hdat,raw,hsz,get⟩:=Aa I.hok ha;obtain ⟨es',ep',hd',hit⟩:=st;rw[hdat] at hd';cases hd'
  have hkv:kvs[i]?=some (kvs[i].1,kvs[i].2):=aa0 hi;obtain ⟨t,u,j,he,ht,ru⟩:=get i _ _ hkv;obtain ⟨f0,f1,f2,f3,f4,f5⟩:=hf it (by simp);refine yw hit raw he λh' st' sb=>?_;have I1:Inv X pins σ H { s with heap:=h' }:=I.turned (t':=s.toks) (λb o' hb e'=>(sb.2 b hb).trans e') f0 f1 f3 f4 f5;obtain ⟨o',e',c',d'⟩:=id st';exact ⟨_,rfl,xv (s:={ s with heap:=h' }) e' c' d' (by decide) ⟨.ref t,H,I1,rfl,⟨rfl,t,_,_,hkv,ht,rfl⟩,⟨es,ep,hdat,st'⟩,λb hb=>(hf b hb).1⟩⟩
 done:=by
  intro X hP hw hK hc i pins s σ H E I hf st hg;subst hP hw hK;obtain ⟨hi,ha⟩:=hg;obtain ⟨es,ep,hdat,raw,hsz,get⟩:=Aa I.hok ha;obtain ⟨es',ep',hd',hit⟩:=st;rw[hdat] at hd';cases hd'
  obtain ⟨f0,f1,f2,f3,f4,f5⟩:=hf it (by simp);exact Ca (I.ok.hd hc) hit raw (by omega) λh' eb=>⟨rfl,I.turned (t':=s.toks) (λb o' hb e'=>eb b o' hb e') f0 f1 f3 f4 f5⟩
 self:=λ_ _ _ _ _ st h=>by
  obtain ⟨_,_,_,hit⟩:=st;exact wpAny_pyIter_keyiter hit h
def Lg (tl:TE):TI:=λσ H R=>tl σ H λx H1=>∃a kvs,x=.ref a∧H1 a=some (.dT kvs)∧∀o,R (Itq a o kvs) (upd H1 a (.frz o (.dT kvs)))
section
variable {X:Cx} {tg:Expr}
theorem Ml {l:Expr} {tl:TE} (hl:PE X l tl):PI X tg l (Lg tl):=by
 intro pins s σ H R I h;refine thn (hl pins s σ H _ I h) λv s1 ⟨x,H1,I1,r1,a,kvs,e,ha,q⟩=>?_;subst e;cases (show v=Value.ref a from r1)
 obtain ⟨o,es,ep,hdat,raw,I2⟩:=I1.Fx ha;have hd:=(J4 I1.hok ha).2.1;refine x5 hd raw ?_;refine ⟨s1.heap.objs.size,[s1.heap.objs.size],_,_,_,rfl,I2.kept (t':=s1.toks) λb o' e'=>Heap.get?_push_of_some _ e',Eo a _ o kvs,⟨es,ep,hdat,_,Heap.get?_push_size _ rfl,rfl,rfl⟩,λb hb=>?_,q o⟩;rw[List.mem_singleton.mp hb];exact I2.xc (aa6 _) (I2.hok.fresh (aa6 _))
end
end L2
namespace gc
open PySem PyProof.Rows
class Rk where
 ρ:Value→Int
 P:Value→Prop
 kd:SortKind
variable [Rk]
noncomputable def K (xs:Array Keyed) (i:Nat):Int:=match xs[i]? with
 | some p=>Rk.ρ p.1
 | none=>0
def IntKeys (xs:Array Keyed):Prop:=∀p,p∈xs.toList→Rk.P p.1
def SortedTo (xs:Array Keyed) (k:Nat):Prop:=∀i j,i≤j→j < k→K xs i≤K xs j
class LtR (prog:Program) (w:World) (A:Around) (E:Value→Shared→Prop) (s:Shared):Prop where
 lt:∀(st:SortSt) (x y p q:Value) (Q:Option Bool→SortSt→Prop),Rk.P x→Rk.P y→kindOf st=Rk.kd→Q (some (decide (Rk.ρ x < Rk.ρ y))) st→wpS (model prog w) A E s (lt' (x,p) (y,q)) Q st
theorem K_congr {xs ys:Array Keyed} {i j:Nat} (h:xs[i]?=ys[j]?):K xs i=K ys j:=by unfold K;rw[h]
theorem K_bubble {xs:Array Keyed} {src d:Nat} (hs:src < xs.size) (hd:d≤src) (k:Nat):
  K (bubble xs src d) k=if k=src - d then K xs src else if src - d < k∧k≤src then K xs (k - 1) else K xs k:=by
 have e:=getElem?_bubble hs d hd k;by_cases h1:k=src - d
 ·rw[if_pos h1] at e ⊢;exact K_congr e
 ·rw[if_neg h1] at e ⊢;by_cases h2:src - d < k∧k≤src
  ·rw[if_pos h2] at e ⊢;exact K_congr e
  ·rw[if_neg h2] at e ⊢;exact K_congr e
theorem K_mirror {xs:Array Keyed} {i j:Nat} (hj:j≤xs.size) (k:Nat):
  K (mirror xs i j ((j - i) / 2)) k=if i≤k∧k < j then K xs (i+j - 1 - k) else K xs k:=by
 have e:=getElem?_mirror_all (i:=i) hj k;by_cases h1:i≤k∧k < j
 ·rw[if_pos h1] at e ⊢;exact K_congr e
 ·rw[if_neg h1] at e ⊢;exact K_congr e
theorem K_mirror_equal {xs:Array Keyed} {i j:Nat} (hj:j≤xs.size) (heq:∀k,i≤k→k < j→K xs k=K xs (j - 1)) (k:Nat):
  K (mirror xs i j ((j - i) / 2)) k=K xs k:=by
 rw[K_mirror hj];split
 ·rw[heq _ (by omega) (by omega),heq k (by omega) (by omega)]
 ·rfl
structure TB (a₀:Array Keyed) (st:SortSt):Prop where
 perm:(arrOf st).Perm a₀
 kind:kindOf st=Rk.kd
 failed:failedOf st=none
theorem TB.size {a₀:Array Keyed} {st:SortSt} (h:TB a₀ st):(arrOf st).size=a₀.size:=h.perm.size_eq
theorem TB.setArr {a₀:Array Keyed} {st:SortSt} (h:TB a₀ st) {xs:Array Keyed} (hp:xs.Perm (arrOf st)):TB a₀ (setArr st xs):=⟨hp.trans h.perm,h.kind,h.failed⟩
theorem y9 {xs:Array Keyed} (h0:IntKeys xs) {i:Nat} (hi:i < xs.size):∃x q,xs[i]?=some (x,q)∧Rk.P x∧Rk.ρ x=K xs i:=by
 have e:xs[i]?=some xs[i]:=getElem?_pos _ i hi;refine ⟨xs[i].1,xs[i].2,e,h0 _ (by simp),?_⟩;unfold K;rw[e]
theorem IntKeys.perm {xs ys:Array Keyed} (h:IntKeys ys) (p:xs.Perm ys):IntKeys xs:=λq hq=>h q ((Array.perm_iff_toList_perm.mp p).mem_iff.mp hq)
def Seg (xs:Array Keyed) (lo hi:Nat):Prop:=∀i j,lo≤i→i≤j→j < hi→K xs i≤K xs j
def Dsc (xs:Array Keyed) (lo hi:Nat):Prop:=∀i j,lo≤i→i≤j→j < hi→K xs j≤K xs i
theorem Seg.one (xs:Array Keyed) (lo:Nat):Seg xs lo (lo+1):=λi j h1 h2 h3=>by
 have:i=j:=by omega
 subst this;exact ac1 _
theorem Seg.more {xs:Array Keyed} {lo hi:Nat} (h:Seg xs lo hi) (hl:lo < hi) (e:K xs (hi - 1)≤K xs hi):Seg xs lo (hi+1):=λi j h1 h2 h3=>by
 by_cases hj:j < hi
 ·exact h i j h1 h2 hj
 ·have hj':j=hi:=by omega
  subst hj';by_cases hi':i=j
  ·subst hi';exact ac1 _
  ·exact abz (h i (j - 1) h1 (by omega) (by omega)) e
theorem Dsc.more {xs:Array Keyed} {lo hi:Nat} (h:Dsc xs lo hi) (hl:lo < hi) (e:K xs hi≤K xs (hi - 1)):Dsc xs lo (hi+1):=λi j h1 h2 h3=>by
 by_cases hj:j < hi
 ·exact h i j h1 h2 hj
 ·have hj':j=hi:=by omega
  subst hj';by_cases hi':i=j
  ·subst hi';exact ac1 _
  ·exact abz e (h i (j - 1) h1 (by omega) (by omega))
theorem Seg.congr {xs ys:Array Keyed} {lo hi:Nat} (h:Seg xs lo hi) (e:∀k,lo≤k→k < hi→K ys k=K xs k):Seg ys lo hi:=λi j h1 h2 h3=>by
 rw[e i h1 (by omega),e j (by omega) h3];exact h i j h1 h2 h3
theorem Dsc.congr {xs ys:Array Keyed} {lo hi:Nat} (h:Dsc xs lo hi) (e:∀k,lo≤k→k < hi→K ys k=K xs k):Dsc ys lo hi:=λi j h1 h2 h3=>by
 rw[e i h1 (by omega),e j (by omega) h3];exact h i j h1 h2 h3
theorem Dsc.turn {xs:Array Keyed} {lo hi:Nat} (h:Dsc xs lo hi) (hs:hi≤xs.size):Seg (mirror xs lo hi ((hi - lo) / 2)) lo hi:=λi j h1 h2 h3=>by
 rw[K_mirror hs,K_mirror hs,if_pos ⟨h1,by omega⟩,if_pos ⟨by omega,h3⟩];exact h _ _ (by omega) (by omega) (by omega)
theorem Eb {xs:Array Keyed} {lo hi:Nat} (hs:hi≤xs.size) {k:Nat} (hk:k < lo):K (mirror xs lo hi ((hi - lo) / 2)) k=K xs k:=by
 rw[K_mirror hs,if_neg (by omega)]
structure Kept (lo:Nat) (st st':SortSt):Prop where
 pend:pendingOf st'=pendingOf st
 low:∀k,k < lo→K (arrOf st') k=K (arrOf st) k
theorem Kept.refl (lo:Nat) (st:SortSt):Kept lo st st:=⟨rfl,λ_ _=>rfl⟩
theorem Kept.arr {lo:Nat} {st:SortSt} {xs:Array Keyed} (e:∀k,k < lo→K xs k=K (arrOf st) k):Kept lo st (setArr st xs):=⟨rfl,e⟩
theorem Kept.trans {lo:Nat} {a b c:SortSt} (h:Kept lo a b) (g:Kept lo b c):Kept lo a c:=⟨g.pend.trans h.pend,λk hk=>(g.low k hk).trans (h.low k hk)⟩
section
variable {prog:Program} {w:World} {A:Around} {E:Value→Shared→Prop} {s:Shared} {a₀:Array Keyed} [LtR prog w A E s]
theorem pf {st:SortSt} {i j:Nat} {Q:Option Bool→SortSt→Prop} (hB:TB a₀ st) (h0:IntKeys a₀) (hi:i < a₀.size) (hj:j < a₀.size)
  (h:Q (some (decide (K (arrOf st) i < K (arrOf st) j))) st):wpS (model prog w) A E s (ltAt' i j) Q st:=by
 have hx:=IntKeys.perm h0 hB.perm;obtain ⟨x,p,e1,h1,r1⟩:=y9 hx (i:=i) (by rw[hB.size];exact hi);obtain ⟨y,q,e2,h2,r2⟩:=y9 hx (i:=j) (by rw[hB.size];exact hj);rw[ltAt'_eq];refine wpS_bind (wpS_get ?_);show wpS _ _ _ _ (elem' (arrOf st) i >>=λx=>elem' (arrOf st) j >>=λy=>lt' x y) Q st
 rw[elem'_eq,elem'_eq,e1,e2];refine wpS_bind (wpS_pure (wpS_bind (wpS_pure ?_)));exact LtR.lt st x y p q Q h1 h2 hB.kind (by rw[r1,r2];exact h)
theorem Kt {st:SortSt} {lo a nrem:Nat} {Q:AscSt→SortSt→Prop} (h0:IntKeys a₀) (hn:lo+nrem≤a₀.size) (ha:1≤a) (han:a≤nrem) (hB:TB a₀ st) (hs:Seg (arrOf st) lo (lo+a))
  (h:∀n,a≤n→n≤nrem→Seg (arrOf st) lo (lo+n)→(n=nrem∨K (arrOf st) (lo+n) < K (arrOf st) (lo+n - 1))→Q (none,n) st):
  wpS (model prog w) A E s (forIn [a:nrem] ((none,a):AscSt) λ_ r=>do
   let __x ←ltAt' (lo+r.snd) (lo+r.snd - 1)
   match __x with
   | some smaller=>if smaller=true then pure (ForInStep.done (none,r.snd)) else pure (ForInStep.yield (none,r.snd+1))
   | _=>pure (ForInStep.done (some none,r.snd))) Q st:=by
 refine wpS_forRange (I:=λx c st'=>st'=st∧c=(none,x)∧Seg (arrOf st) lo (lo+x)) ?step ?fin ⟨rfl,rfl,hs⟩;case fin=>
  rintro c st' ⟨rfl,rfl,hs'⟩;rw[show max a nrem=nrem by omega] at hs' ⊢;exact h nrem han (aa6 _) hs' (.inl rfl)
 case step=>
  rintro x c st' hax hxn ⟨rfl,rfl,hs'⟩;dsimp only;refine wpS_bind (pf hB h0 (by omega) (by omega) ?_);by_cases hless:K (arrOf st') (lo+x) < K (arrOf st') (lo+x - 1)
  ·simp only[hless,decide_true,if_true];exact wpS_pure (h x hax (by omega) hs' (.inr hless))
  ·simp only[hless,decide_false,aaz,if_false];exact wpS_pure ⟨rfl,rfl,hs'.more (by omega) (Int.not_lt.mp hless)⟩
end
end gc
namespace gc
open PySem PyProof.Rows
variable [Rk]
noncomputable def ascL (lo a nrem:Nat):StateT SortSt Sem AscSt:=
 forIn [a:nrem] ((none,a):AscSt) λ_ r=>do
   let __x ←ltAt' (lo+r.snd) (lo+r.snd - 1)
   match __x with
   | some smaller=>if smaller=true then pure (ForInStep.done (none,r.snd)) else pure (ForInStep.yield (none,r.snd+1))
   | _=>pure (ForInStep.done (some none,r.snd))
noncomputable def Cd (lo n nrem:Nat):StateT SortSt Sem (Option Nat):=do
 reverseSlice' lo (lo+n)
 let r ←ascL lo n nrem
 match r.fst with
 | some x=>pure x
 | none=>pure (some r.snd)
noncomputable def dscL (lo n nrem:Nat):StateT SortSt Sem DescSt:=
 forIn [n:nrem] ((none,n,0):DescSt) λ_ r=>do
  let __x ←ltAt' (lo+r.snd.fst) (lo+r.snd.fst - 1)
  match __x with
  | some smaller=>
   if smaller=true then
    if r.snd.snd > 0 then do
     reverseSlice' (lo+r.snd.fst - (r.snd.snd+1)) (lo+r.snd.fst)
     pure (ForInStep.yield (none,r.snd.fst+1,0))
    else pure (ForInStep.yield (none,r.snd.fst+1,0))
   else do
    let __x ←ltAt' (lo+r.snd.fst - 1) (lo+r.snd.fst)
    match __x with
    | some larger=>
     if larger=true then pure (ForInStep.done (none,r.snd.fst,r.snd.snd))
     else pure (ForInStep.yield (none,r.snd.fst+1,r.snd.snd+1))
    | _=>pure (ForInStep.done (some none,r.snd.fst,r.snd.snd))
  | _=>pure (ForInStep.done (some none,r.snd.fst,r.snd.snd))
noncomputable def dscP (lo n nrem:Nat):StateT SortSt Sem (Option Nat):=do
 liftM (rule "list.sort.descending-run")
 let r ←dscL lo (n+1) nrem
 match r.fst with
 | some x=>pure x
 | none=>
  if r.snd.snd > 0 then do
   reverseSlice' (lo+r.snd.fst - (r.snd.snd+1)) (lo+r.snd.fst)
   Cd lo r.snd.fst nrem
  else Cd lo r.snd.fst nrem
theorem count_eq (lo nrem:Nat):countRun' lo nrem=(do
  let r ←ascL lo 1 nrem
  match r.fst with
  | some x=>pure x
  | none=>
   if (r.snd==nrem)=true then pure (some r.snd)
   else if r.snd > 1 then do
    let __x ←ltAt' lo (lo+r.snd - 1)
    match __x with
    | some rose=>if rose=true then pure (some r.snd) else do
      reverseSlice' lo (lo+r.snd)
      dscP lo r.snd nrem
    | _=>pure none
   else dscP lo r.snd nrem):=by
 rw[countRun'_eq];unfold dscP Cd dscL ascL;refine bind_congr (m:=StateT SortSt Sem) λr=>?_;obtain ⟨r,n⟩:=r;cases r with
 | some r=>rfl
 | none=>
  dsimp only;split
  ·rfl
  ·split
   ·congr 1
    funext x
    cases x with
    | none=>rfl
    | some rose=>
     dsimp only;split
     ·rfl
     ·congr 1
      funext _r
      congr 1;funext _u;congr 1;congr 1;funext s2;obtain ⟨r2,n2,q2⟩:=s2
      cases r2 with
      | some r2=>rfl
      | none=>
       dsimp only;split
       ·congr 1;funext _v;congr 1;funext _w;congr 1;funext s3;obtain ⟨r3,n3⟩:=s3;cases r3 <;> rfl
       ·congr 1;funext _w;congr 1;funext s3;obtain ⟨r3,n3⟩:=s3;cases r3 <;> rfl
   ·congr 1;funext _u;congr 1;congr 1;funext s2;obtain ⟨r2,n2,q2⟩:=s2
    cases r2 with
    | some r2=>rfl
    | none=>
     dsimp only;split
     ·congr 1;funext _v;congr 1;funext _w;congr 1;funext s3;obtain ⟨r3,n3⟩:=s3;cases r3 <;> rfl
     ·congr 1;funext _w;congr 1;funext s3;obtain ⟨r3,n3⟩:=s3;cases r3 <;> rfl
section
variable {prog:Program} {w:World} {A:Around} {E:Value→Shared→Prop} {s:Shared} {a₀:Array Keyed} [LtR prog w A E s]
theorem Fl {st:SortSt} {lo n nrem:Nat} {Q:Option Nat→SortSt→Prop} (h0:IntKeys a₀) (hn:lo+nrem≤a₀.size) (h1:1≤n) (hnn:n≤nrem) (hB:TB a₀ st) (hd:Dsc (arrOf st) lo (lo+n))
  (h:∀m st',TB a₀ st'→Kept lo st st'→1≤m→m≤nrem→Seg (arrOf st') lo (lo+m)→Q (some m) st'):wpS (model prog w) A E s (Cd lo n nrem) Q st:=by
 unfold Cd;have hsz:lo+n≤(arrOf st).size:=by rw[hB.size];omega
 refine wpS_bind (wpS_reverse ?_);have hB':TB a₀ (setArr st (mirror (arrOf st) lo (lo+n) ((lo+n - lo) / 2))):=hB.setArr (mirror_perm _ _ _ _);refine wpS_bind (Kt h0 hn h1 hnn hB' (hd.turn hsz) λm hm1 hm2 hsm _=>wpS_pure (h m _ hB' ⟨rfl,λk hk=>Eb hsz hk⟩ (by omega) hm2 hsm))
theorem wp_dsc {st:SortSt} {lo n nrem:Nat} {Q:DescSt→SortSt→Prop} (h0:IntKeys a₀) (hn:lo+nrem≤a₀.size) (h1:1≤n) (hnn:n≤nrem) (hB:TB a₀ st) (hd:Dsc (arrOf st) lo (lo+n))
  (h:∀m neq st',TB a₀ st'→Kept lo st st'→n≤m→m≤nrem→Dsc (arrOf st') lo (lo+m)→neq+1≤m→(∀i,lo+m - (neq+1)≤i→i < lo+m→K (arrOf st') i=K (arrOf st') (lo+m - 1))→Q (none,m,neq) st'):
  wpS (model prog w) A E s (dscL lo n nrem) Q st:=by
 unfold dscL;refine wpS_forRange (I:=λx c st'=>∃neq,c=(none,x,neq)∧TB a₀ st'∧Kept lo st st'∧Dsc (arrOf st') lo (lo+x)∧neq+1≤x∧
   (∀i,lo+x - (neq+1)≤i→i < lo+x→K (arrOf st') i=K (arrOf st') (lo+x - 1))) ?step ?fin ⟨0,rfl,hB,Kept.refl _ _,hd,by omega,λi h1 h2=>by congr 1;omega⟩
 case fin=>
  rintro c st' ⟨neq,rfl,hB',hk,hs',hq,he⟩;rw[show max n nrem=nrem by omega] at hs' hq he ⊢;exact h nrem neq st' hB' hk hnn (aa6 _) hs' hq he
 case step=>
  rintro x c st' hax hxn ⟨neq,rfl,hB',hk,hs',hq,he⟩;dsimp only;have hsz:lo+x≤(arrOf st').size:=by rw[hB'.size];omega
  refine wpS_bind (pf hB' h0 (by omega) (by omega) ?_);by_cases hless:K (arrOf st') (lo+x) < K (arrOf st') (lo+x - 1)
  ·simp only[hless,decide_true,if_true];have d1:Dsc (arrOf st') lo (lo+(x+1)):=hs'.more (by omega) (abl hless);by_cases hneq:neq > 0
   ·rw[if_pos hneq];have eq:=K_mirror_equal hsz he;exact wpS_bind (wpS_reverse (wpS_pure ⟨0,rfl,hB'.setArr (mirror_perm _ _ _ _),hk.trans (Kept.arr λk _=>eq k),d1.congr λk _ _=>eq k,by omega,λi h1 h2=>by congr 1;omega⟩))
   ·rw[if_neg hneq];exact wpS_pure ⟨0,rfl,hB',hk,d1,by omega,λi h1 h2=>by congr 1;omega⟩
  ·simp only[hless,decide_false,aaz,if_false];refine wpS_bind (pf hB' h0 (by omega) (by omega) ?_);by_cases hlarger:K (arrOf st') (lo+x - 1) < K (arrOf st') (lo+x)
   ·simp only[hlarger,decide_true,if_true];exact wpS_pure (h x neq st' hB' hk hax (by omega) hs' hq he)
   ·simp only[hlarger,decide_false,aaz,if_false];have heqx:K (arrOf st') (lo+x)=K (arrOf st') (lo+x - 1):=by omega
    refine wpS_pure ⟨neq+1,rfl,hB',hk,hs'.more (by omega) (by omega),by omega,λi h1 h2=>?_⟩;rw[show lo+(x+1) - 1=lo+x by omega];by_cases hix:i=lo+x
    ·subst hix;rfl
    ·rw[heqx];exact he i (by omega) (by omega)
theorem Gr {st:SortSt} {lo n nrem:Nat} {Q:Option Nat→SortSt→Prop} (h0:IntKeys a₀) (hn:lo+nrem≤a₀.size) (hnn:n+1≤nrem) (hB:TB a₀ st) (hs:Dsc (arrOf st) lo (lo+(n+1)))
  (h:∀m st',TB a₀ st'→Kept lo st st'→1≤m→m≤nrem→Seg (arrOf st') lo (lo+m)→Q (some m) st'):wpS (model prog w) A E s (dscP lo n nrem) Q st:=by
 unfold dscP;refine wpS_bind (wpS_lift (wpAny_rule ⟨rfl,?_⟩));refine wpS_bind (wp_dsc h0 hn (by omega) hnn hB hs λm neq st' hB' hk hm1 hm2 hs' hq he=>?_);dsimp only;have hsz:lo+m≤(arrOf st').size:=by rw[hB'.size];omega
 by_cases hneq:neq > 0
 ·rw[if_pos hneq];have eq:=K_mirror_equal hsz he;exact wpS_bind (wpS_reverse (Fl h0 hn (by omega) hm2 (hB'.setArr (mirror_perm _ _ _ _)) (hs'.congr λk _ _=>eq k) λm' st2 t2 k2=>h m' st2 t2 ((hk.trans (Kept.arr λk _=>eq k)).trans k2)))
 ·rw[if_neg hneq];exact Fl h0 hn (by omega) hm2 hB' hs' λm' st2 t2 k2=>h m' st2 t2 (hk.trans k2)
theorem L4 {st:SortSt} {lo nrem:Nat} {Q:Option Nat→SortSt→Prop} (h0:IntKeys a₀) (hn:lo+nrem≤a₀.size) (h1:1≤nrem) (hB:TB a₀ st)
  (h:∀m st',TB a₀ st'→Kept lo st st'→1≤m→m≤nrem→Seg (arrOf st') lo (lo+m)→Q (some m) st'):wpS (model prog w) A E s (countRun' lo nrem) Q st:=by
 rw[count_eq];refine wpS_bind (Kt h0 hn (aa6 1) h1 hB (Seg.one _ _) λn hn1 hn2 hsn hor=>?_);dsimp only;by_cases hnn:n=nrem
 ·rw[if_pos (by simpa using hnn)];exact wpS_pure (h n st hB (Kept.refl _ _) hn1 hn2 hsn)
 ·rw[if_neg (by simpa using hnn)];have hlt:K (arrOf st) (lo+n) < K (arrOf st) (lo+n - 1):=hor.resolve_left hnn;by_cases hgt:n > 1
  ·rw[if_pos hgt];refine wpS_bind (pf hB h0 (by omega) (by omega) ?_);by_cases hrose:K (arrOf st) lo < K (arrOf st) (lo+n - 1)
   ·simp only[hrose,decide_true,if_true];exact wpS_pure (h n st hB (Kept.refl _ _) hn1 hn2 hsn)
   ·simp only[hrose,decide_false,aaz,if_false];have hsz:lo+n≤(arrOf st).size:=by rw[hB.size];omega
    have hall:∀k,lo≤k→k < lo+n→K (arrOf st) k=K (arrOf st) (lo+n - 1):=by
     intro k hk1 hk;have a1:=hsn lo k (by omega) hk1 hk;have a2:=hsn k (lo+n - 1) hk1 (by omega) (by omega);omega
    have eq:=K_mirror_equal hsz hall;refine wpS_bind (wpS_reverse (Gr h0 hn (by omega) (hB.setArr (mirror_perm _ _ _ _)) ?_ λm' st2 t2 k2=>h m' st2 t2 ((Kept.arr λk _=>eq k).trans k2)));have d0:Dsc (arrOf st) lo (lo+n):=λi j h1 h2 h3=>by rw[hall i h1 (by omega),hall j (by omega) h3];exact ac1 _
    exact (d0.more (by omega) (abl hlt)).congr λk _ _=>eq k
  ·rw[if_neg hgt];have hn1':n=1:=by omega
   subst hn1';refine Gr h0 hn (by omega) hB ?_ h;have d0:Dsc (arrOf st) lo (lo+1):=λi j h1 h2 h3=>by
    have:i=j:=by omega
    subst this;exact ac1 _
   exact d0.more (by omega) (abl hlt)
end
end gc
namespace gc
open PySem PyProof.Rows
variable [Rk]
section
variable {prog:Program} {w:World} {A:Around} {E:Value→Shared→Prop} {s:Shared} {a₀:Array Keyed} [LtR prog w A E s]
theorem G9 {st:SortSt} {lo n ok:Nat} {Q:Bool→SortSt→Prop} (h0:IntKeys a₀) (hn:lo+n≤a₀.size) (hok:ok≤n) (h1:1≤ok) (hB:TB a₀ st) (hs:Seg (arrOf st) lo (lo+ok))
  (h:∀st',TB a₀ st'→Kept lo st st'→Seg (arrOf st') lo (lo+n)→Q true st'):wpS (model prog w) A E s (binarySort' lo n ok) Q st:=by
 rw[binarySort'_eq];refine wpS_bind (wpS_mono (wpS_forRange (I:=λk c st'=>c=(none,())∧TB a₀ st'∧Kept lo st st'∧Seg (arrOf st') lo (lo+min k n))
  (Q:=λc st'=>c=(none,())∧TB a₀ st'∧Kept lo st st'∧Seg (arrOf st') lo (lo+n)) ?step ?fin ?init) ?post)
 case post=>
  rintro c st' ⟨rfl,hB',hk,hs'⟩;exact wpS_pure (h st' hB' hk hs')
 case init=>exact ⟨rfl,hB,Kept.refl _ _,by rw[show min (max ok 1) n=ok by omega];exact hs⟩
 case fin=>
  rintro c st' ⟨hc,hB',hk,hs'⟩;refine ⟨hc,hB',hk,?_⟩;rwa [show min (max (max ok 1) n) n=n by omega] at hs'
 case step=>
  rintro k c st' hak hkn ⟨rfl,hB',hkp,hs'⟩;rw[show min k n=k by omega] at hs';have hk:lo+k < a₀.size:=by omega
  refine wpS_bind (wpS_mono (wpS_forRange (I:=λx c st''=>st''=st'∧∃l r,c=(none,l,r)∧l≤r∧r≤k∧r - l≤k - x∧
    (∀i,i < l→K (arrOf st') (lo+i)≤K (arrOf st') (lo+k))∧(∀i,r≤i→i < k→K (arrOf st') (lo+k) < K (arrOf st') (lo+i)))
   (Q:=λc st''=>st''=st'∧∃l r,c=(none,l,r)∧l≤k∧
    (∀i,i < l→K (arrOf st') (lo+i)≤K (arrOf st') (lo+k))∧(∀i,l≤i→i < k→K (arrOf st') (lo+k) < K (arrOf st') (lo+i))) ?istep ?ifin ?iinit) ?ipost)
  case iinit=>exact ⟨rfl,0,k,rfl,by omega,by omega,by omega,λi hi=>by omega,λi h1 h2=>by omega⟩
  case ifin=>
   rintro c st'' ⟨rfl,l,r,rfl,hlr,hrk,hm,hlo,hhi⟩;have:l=r:=by omega
   subst this;exact ⟨rfl,l,l,rfl,hrk,hlo,hhi⟩
  case istep=>
   rintro x c st'' _ hxk ⟨rfl,l,r,rfl,hlr,hrk,hm,hlo,hhi⟩;dsimp only;by_cases hge:l≥r
   ·rw[if_pos hge];have:l=r:=by omega
    subst this;exact wpS_pure ⟨rfl,l,l,rfl,hrk,hlo,hhi⟩
   ·rw[if_neg hge];refine wpS_bind (pf hB' h0 hk (by omega) ?_);by_cases hless:K (arrOf st'') (lo+k) < K (arrOf st'') (lo+(l+r) / 2)
    ·simp only[hless,decide_true,if_true];refine wpS_pure ⟨rfl,l,(l+r) / 2,rfl,by omega,by omega,by omega,hlo,λi h1 h2=>?_⟩;exact Int.lt_of_lt_of_le hless (hs' _ _ (by omega) (by omega) (by omega))
    ·simp only[hless,decide_false,aaz,if_false];refine wpS_pure ⟨rfl,(l+r) / 2+1,r,rfl,by omega,by omega,by omega,λi h1=>?_,hhi⟩;exact abz (hs' (lo+i) (lo+(l+r) / 2) (by omega) (by omega) (by omega)) (Int.not_lt.mp hless)
  case ipost=>
   rintro c st'' ⟨rfl,l,r,rfl,hlk,hlo,hhi⟩;show wpS _ _ _ _ (do moveDown' (lo+k) (lo+l);pure (ForInStep.yield (none,()))) _ _
   rw[moveDown'_eq];have hks:lo+k < (arrOf st'').size:=by rw[hB'.size];exact hk
   have ed:lo+k - (lo+l)=k - l:=by omega
   rw[ed];have es:lo+k - (k - l)=lo+l:=by omega
   refine wpS_bind (wpS_modify (wpS_pure ⟨rfl,hB'.setArr (bubble_perm _ _ _),hkp.trans (Kept.arr λj hj=>?_),?_⟩))
   ·rw[K_bubble hks (by omega),es,if_neg (by omega),if_neg (by omega)]
   ·rw[show min (k+1) n=k+1 by omega];intro i j hi hij hj;show K (bubble (arrOf st'') (lo+k) (k - l)) i≤K (bubble (arrOf st'') (lo+k) (k - l)) j
    rw[K_bubble hks (by omega),K_bubble hks (by omega),es];have low:∀i,lo≤i→i < lo+l→K (arrOf st'') i≤K (arrOf st'') (lo+k):=λi h1 h2=>by
     have:=hlo (i - lo) (by omega);rwa [show lo+(i - lo)=i by omega] at this
    have high:∀i,lo+l≤i→i < lo+k→K (arrOf st'') (lo+k) < K (arrOf st'') i:=λi h1 h2=>by
     have:=hhi (i - lo) (by omega) (by omega);rwa [show lo+(i - lo)=i by omega] at this
    repeat' split
    all_goals first
     | (exfalso;omega)
     | exact ac1 _
     | exact low _ (by omega) (by omega)
     | exact abl (high _ (by omega) (by omega))
     | exact hs' _ _ (by omega) (by omega) (by omega)
end
end gc
namespace gc
open PySem PyProof.Rows
variable [Rk]
noncomputable def Po:Bool→Keyed→Array Keyed→Nat→Nat→Nat→StateT SortSt Sem (Option Nat):=sortPriv% PySem.Builtin.gallop
noncomputable def gm (p:Keyed):Int:=Rk.ρ p.1
noncomputable def bey (left:Bool) (key:Int) (arr:Array Keyed) (i:Nat):Bool:=if left then decide (K arr i < key) else !decide (key < K arr i)
section
variable {prog:Program} {w:World} {A:Around} {E:Value→Shared→Prop} {s:Shared} [LtR prog w A E s]
theorem Ge {st:SortSt} {a b:Int} {x y:Value} {p q:Value} {Q:Option Bool→SortSt→Prop} (h1:Rk.P x) (r1:Rk.ρ x=a) (h2:Rk.P y) (r2:Rk.ρ y=b) (hk:kindOf st=Rk.kd) (h:Q (some (decide (a < b))) st):wpS (model prog w) A E s (lt' (x,p) (y,q)) Q st:=
 LtR.lt st x y p q Q h1 h2 hk (by rw[r1,r2];exact h)
theorem Gw {st:SortSt} {arr:Array Keyed} {i:Nat} {x:Keyed} {Q:Keyed→SortSt→Prop} (e:arr[i]?=some x) (h:Q x st):wpS (model prog w) A E s (elem' arr i) Q st:=by
 rw[elem'_eq,e];exact wpS_pure h
theorem fk {st:SortSt} {left:Bool} {c:Int} {x₀ kp:Value} {arr:Array Keyed} {base n hint:Nat} {Q:Option Nat→SortSt→Prop} (hx₀:Rk.P x₀) (hc₀:Rk.ρ x₀=c) (hk:kindOf st=Rk.kd) (hI:IntKeys arr) (hsz:base+n≤arr.size) (hh:hint < n)
  (hs:Seg arr base (base+n))
  (h:∀k,k≤n→(∀i,i < k→bey left c arr (base+i)=true)→(∀i,k≤i→i < n→bey left c arr (base+i)=false)→Q (some k) st):
  wpS (model prog w) A E s (Po left (x₀,kp) arr base n hint) Q st:=by
 have mono:∀i j,i≤j→j < n→bey left c arr (base+j)=true→bey left c arr (base+i)=true:=λi j hij hj hb=>by
  have hK:=hs (base+i) (base+j) (by omega) (by omega) (by omega);unfold bey at hb ⊢;cases left with
  | true=>
   have:K arr (base+j) < c:=of_decide_eq_true hb;exact decide_eq_true (by omega)
  | false=>
   have hb:(!decide (c < K arr (base+j)))=true:=hb;show (!decide (c < K arr (base+i)))=true
   rw[af1,decide_eq_false_iff_not] at hb ⊢;omega
 have monoF:∀i j,i≤j→j < n→bey left c arr (base+i)=false→bey left c arr (base+j)=false:=λi j hij hj hb=>by
  cases e:bey left c arr (base+j) with
  | false=>rfl
  | true=>rw[mono i j hij hj e] at hb;cases hb
 have ask:∀{β:Type} (i:Nat) {Q':β→SortSt→Prop} {f:Option Bool→StateT SortSt Sem β},i < n→wpS (model prog w) A E s (f (some (bey left c arr (base+i)))) Q' st→wpS (model prog w) A E s ((do
   let x ←elem' arr (base+i)
   if left=true then lt' x (x₀,kp) else do
    let __x ←lt' (x₀,kp) x
    pure (__x.map (!·)):StateT SortSt Sem (Option Bool)) >>=f) Q' st:=λ{β} i {Q' f} hi hf=>by
  obtain ⟨y,q,e,hy,ry⟩:=y9 hI (i:=base+i) (by omega);refine wpS_bind (wpS_bind (Gw e ?_));unfold bey at hf;cases left with
  | true=>exact Ge hy ry hx₀ hc₀ hk hf
  | false=>exact wpS_bind (Ge hx₀ hc₀ hy ry hk (wpS_pure hf))
 refine ask hint hh ?_;dsimp only;cases e0:bey left c arr (base+hint) with
 | true=>
  rw[if_pos rfl];refine wpS_bind (wpS_mono (wpS_forRange (I:=λx c' st'=>st'=st∧∃g1 g2,c'=(none,g1,g2)∧x+1≤g2∧g1 < g2∧hint+g1 < n∧bey left c arr (base+(hint+g1))=true)
   (Q:=λc' st'=>st'=st∧∃g1 g2,c'=(none,g1,g2)∧g1 < g2∧hint+g1 < n∧bey left c arr (base+(hint+g1))=true∧(g2≥n - hint∨(hint+g2 < n∧bey left c arr (base+(hint+g2))=false))) ?_ ?_ ⟨rfl,0,1,rfl,by omega,by omega,by omega,e0⟩) ?_)
  ·rintro x c' st' _ hx ⟨rfl,g1,g2,rfl,h1,h2,h3,h4⟩;dsimp only;by_cases hge:g2≥n - hint
   ·rw[if_pos hge];exact wpS_pure ⟨rfl,g1,g2,rfl,h2,h3,h4,.inl hge⟩
   ·rw[if_neg hge];refine ask (hint+g2) (by omega) ?_;dsimp only;cases e:bey left c arr (base+(hint+g2)) with
    | true=>
     rw[if_neg (by decide)];exact wpS_pure ⟨rfl,_,_,rfl,by omega,by omega,by omega,e⟩
    | false=>
     rw[if_pos (by decide)];exact wpS_pure ⟨rfl,g1,g2,rfl,h2,h3,h4,.inr ⟨by omega,e⟩⟩
  ·rintro c' st' ⟨rfl,g1,g2,rfl,h1,h2,h3,h4⟩;exact ⟨rfl,g1,g2,rfl,h2,h3,h4,.inl (by omega)⟩
  ·rintro c' st' ⟨rfl,g1,g2,rfl,h2,h3,h4,h5⟩;dsimp only;have hLo:∀i,i < hint+g1+1→bey left c arr (base+i)=true:=λi hi=>mono i (hint+g1) (by omega) h3 h4;have hHi:∀i,hint+min g2 (n - hint)≤i→i < n→bey left c arr (base+i)=false:=λi hi hn=>by
    rcases h5 with h5 | ⟨h5,h6⟩
    ·exfalso
     omega
    ·exact monoF (hint+g2) i (by omega) hn h6
   have hLH:hint+g1+1≤hint+min g2 (n - hint):=by omega
   have hHn:hint+min g2 (n - hint)≤n:=by omega
   refine wpS_bind (wpS_mono (wpS_forRange (I:=λx c2 st2=>st2=st'∧∃l r,c2=(none,l,r)∧l≤r∧r≤n∧r - l≤n - x∧(∀i,i < l→bey left c arr (base+i)=true)∧(∀i,r≤i→i < n→bey left c arr (base+i)=false))
    (Q:=λc2 st2=>st2=st'∧∃r,c2=(none,r,r)∧r≤n∧(∀i,i < r→bey left c arr (base+i)=true)∧(∀i,r≤i→i < n→bey left c arr (base+i)=false)) ?_ ?_ ⟨rfl,_,_,rfl,hLH,hHn,by omega,hLo,hHi⟩) ?_)
   ·rintro x c' st' _ hx ⟨rfl,l,r,rfl,hlr,hrn,hm,h1,h2⟩;dsimp only;by_cases hge:l≥r
    ·rw[if_pos hge];have:l=r:=by omega
     subst this;exact wpS_pure ⟨rfl,l,rfl,hrn,h1,h2⟩
    ·rw[if_neg hge];refine ask (l+(r - l) / 2) (by omega) ?_;dsimp only;cases e:bey left c arr (base+(l+(r - l) / 2)) with
     | true=>
      rw[if_pos rfl];exact wpS_pure ⟨rfl,_,_,rfl,by omega,hrn,by omega,λi hi=>mono i _ (by omega) (by omega) e,h2⟩
     | false=>
      rw[if_neg aab];exact wpS_pure ⟨rfl,_,_,rfl,by omega,by omega,by omega,h1,λi hi hn=>monoF _ i hi hn e⟩
   ·rintro c' st' ⟨rfl,l,r,rfl,hlr,hrn,hm,h1,h2⟩;have:l=r:=by omega
    subst this;exact ⟨rfl,l,rfl,hrn,h1,h2⟩
   ·rintro c' st' ⟨rfl,r,rfl,hrn,h1,h2⟩;exact wpS_pure (h r hrn h1 h2)
 | false=>
  rw[if_neg aab];refine wpS_bind (wpS_mono (wpS_forRange (I:=λx c' st'=>st'=st∧∃g1 g2,c'=(none,g1,g2)∧x+1≤g2∧g1 < g2∧g1≤hint∧bey left c arr (base+(hint - g1))=false)
   (Q:=λc' st'=>st'=st∧∃g1 g2,c'=(none,g1,g2)∧g1 < g2∧g1≤hint∧bey left c arr (base+(hint - g1))=false∧(g2≥hint+1∨(g2≤hint∧bey left c arr (base+(hint - g2))=true))) ?_ ?_ ⟨rfl,0,1,rfl,by omega,by omega,by omega,e0⟩) ?_)
  ·rintro x c' st' _ hx ⟨rfl,g1,g2,rfl,h1,h2,h3,h4⟩;dsimp only;by_cases hge:g2≥hint+1
   ·rw[if_pos hge];exact wpS_pure ⟨rfl,g1,g2,rfl,h2,h3,h4,.inl hge⟩
   ·rw[if_neg hge];refine ask (hint - g2) (by omega) ?_;dsimp only;cases e:bey left c arr (base+(hint - g2)) with
    | true=>
     rw[if_pos rfl];exact wpS_pure ⟨rfl,g1,g2,rfl,h2,h3,h4,.inr ⟨by omega,e⟩⟩
    | false=>
     rw[if_neg aab];exact wpS_pure ⟨rfl,_,_,rfl,by omega,by omega,by omega,e⟩
  ·rintro c' st' ⟨rfl,g1,g2,rfl,h1,h2,h3,h4⟩;exact ⟨rfl,g1,g2,rfl,h2,h3,h4,.inl (by omega)⟩
  ·rintro c' st' ⟨rfl,g1,g2,rfl,h2,h3,h4,h5⟩;dsimp only;have hLo:∀i,i < hint+1 - min g2 (hint+1)→bey left c arr (base+i)=true:=λi hi=>by
    rcases h5 with h5 | ⟨h5,h6⟩
    ·exfalso
     omega
    ·exact mono i (hint - g2) (by omega) (by omega) h6
   have hHi:∀i,hint - g1≤i→i < n→bey left c arr (base+i)=false:=λi hi hn=>monoF (hint - g1) i hi hn h4;have hLH:hint+1 - min g2 (hint+1)≤hint - g1:=by omega
   have hHn:hint - g1≤n:=by omega
   refine wpS_bind (wpS_mono (wpS_forRange (I:=λx c2 st2=>st2=st'∧∃l r,c2=(none,l,r)∧l≤r∧r≤n∧r - l≤n - x∧(∀i,i < l→bey left c arr (base+i)=true)∧(∀i,r≤i→i < n→bey left c arr (base+i)=false))
    (Q:=λc2 st2=>st2=st'∧∃r,c2=(none,r,r)∧r≤n∧(∀i,i < r→bey left c arr (base+i)=true)∧(∀i,r≤i→i < n→bey left c arr (base+i)=false)) ?_ ?_ ⟨rfl,_,_,rfl,hLH,hHn,by omega,hLo,hHi⟩) ?_)
   ·rintro x c' st' _ hx ⟨rfl,l,r,rfl,hlr,hrn,hm,h1,h2⟩;dsimp only;by_cases hge:l≥r
    ·rw[if_pos hge];have:l=r:=by omega
     subst this;exact wpS_pure ⟨rfl,l,rfl,hrn,h1,h2⟩
    ·rw[if_neg hge];refine ask (l+(r - l) / 2) (by omega) ?_;dsimp only;cases e:bey left c arr (base+(l+(r - l) / 2)) with
     | true=>
      rw[if_pos rfl];exact wpS_pure ⟨rfl,_,_,rfl,by omega,hrn,by omega,λi hi=>mono i _ (by omega) (by omega) e,h2⟩
     | false=>
      rw[if_neg aab];exact wpS_pure ⟨rfl,_,_,rfl,by omega,by omega,by omega,h1,λi hi hn=>monoF _ i hi hn e⟩
   ·rintro c' st' ⟨rfl,l,r,rfl,hlr,hrn,hm,h1,h2⟩;have:l=r:=by omega
    subst this;exact ⟨rfl,l,rfl,hrn,h1,h2⟩
   ·rintro c' st' ⟨rfl,r,rfl,hrn,h1,h2⟩;exact wpS_pure (h r hrn h1 h2)
end
end gc
namespace gc
open PySem PyProof.Rows
variable [Rk]
def Srt (l:List Keyed):Prop:=l.Pairwise λx y=>gm x≤gm y
structure Out (o ra rb all:List Keyed):Prop where
 perm:(o++ra++rb).Perm all
 srt:Srt o
 sa:Srt ra
 sb:Srt rb
 low:∀x∈o,∀y,y∈ra∨y∈rb→gm x≤gm y
theorem Srt.split {l:List Keyed} (h:Srt l) (k:Nat):Srt (l.take k)∧Srt (l.drop k)∧∀x∈l.take k,∀y∈l.drop k,gm x≤gm y:=by
 have e:l.take k++l.drop k=l:=aba k l;unfold Srt at h ⊢;rw[←e,ab9] at h;exact ⟨h.1,h.2.1,h.2.2⟩
theorem Out.Mv {o ra rb all:List Keyed} (h:Out o ra rb all) (k:Nat) (hk:∀x∈ra.take k,∀y∈rb,gm x≤gm y):Out (o++ra.take k) (ra.drop k) rb all:=by
 obtain ⟨s1,s2,s3⟩:=h.sa.split k;refine ⟨?_,?_,s2,h.sb,λx hx y hy=>?_⟩
 ·rw[aax o,aba];exact h.perm
 ·unfold Srt;rw[ab9];exact ⟨h.srt,s1,λx hx y hy=>h.low x hx y (.inl (abk hy))⟩
 ·rcases List.mem_append.mp hx with k1 | k1
  ·exact h.low x k1 y (hy.imp ac7 id)
  ·rcases hy with hy | hy
   ·exact s3 x k1 y hy
   ·exact hk x k1 y hy
theorem Out.K5 {o ra rb all:List Keyed} (h:Out o ra rb all) (k:Nat) (hk:∀x∈rb.take k,∀y∈ra,gm x≤gm y):Out (o++rb.take k) ra (rb.drop k) all:=by
 obtain ⟨s1,s2,s3⟩:=h.sb.split k;refine ⟨?_,?_,h.sa,s2,λx hx y hy=>?_⟩
 ·refine ad6 ?_ h.perm;conv=>rhs;rw[←aba k rb]
  rw[aax,aax,aax];refine acy o ?_;rw[←aax,←aax];exact acr _ acz
 ·unfold Srt;rw[ab9];exact ⟨h.srt,s1,λx hx y hy=>h.low x hx y (.inr (abk hy))⟩
 ·rcases List.mem_append.mp hx with k1 | k1
  ·exact h.low x k1 y (hy.imp id ac7)
  ·rcases hy with hy | hy
   ·exact hk x k1 y hy
   ·exact s3 x k1 y hy
theorem Out.done {o ra rb all:List Keyed} (h:Out o ra rb all) (he:ra=[]∨rb=[]):(o++ra++rb).Perm all∧Srt (o++ra++rb):=by
 refine ⟨h.perm,?_⟩;unfold Srt;rcases he with rfl | rfl
 ·rw[ab1,ab9];exact ⟨h.srt,h.sb,λx hx y hy=>h.low x hx y (.inr hy)⟩
 ·rw[ab1,ab9];exact ⟨h.srt,h.sa,λx hx y hy=>h.low x hx y (.inl hy)⟩
theorem Out.last {o ra rb all:List Keyed} (h:Out o ra rb all) (he:∀y∈rb,∀x∈ra,gm y≤gm x):(o++rb++ra).Perm all∧Srt (o++rb++ra):=by
 refine ⟨?_,?_⟩
 ·refine ad6 ?_ h.perm;rw[aax,aax];exact acy o acz
 ·unfold Srt;rw[ab9,ab9];refine ⟨⟨h.srt,h.sb,λx hx y hy=>h.low x hx y (.inr hy)⟩,h.sa,λx hx y hy=>?_⟩;rcases List.mem_append.mp hx with k | k
  ·exact h.low x k y (.inl hy)
  ·exact he x k y hy
structure Lk (st st':SortSt):Prop where
 kind:kindOf st'=kindOf st
 arr:arrOf st'=arrOf st
 pend:pendingOf st'=pendingOf st
 failed:failedOf st'=failedOf st
theorem Lk.refl (st:SortSt):Lk st st:=⟨rfl,rfl,rfl,rfl⟩
theorem Lk.trans {a b c:SortSt} (h:Lk a b) (g:Lk b c):Lk a c:=⟨g.kind.trans h.kind,g.arr.trans h.arr,g.pend.trans h.pend,g.failed.trans h.failed⟩
noncomputable def setG':Nat→StateT SortSt Sem Unit:=sortPriv% PySem.Builtin.setMinGallop
theorem Li (g:Nat):setG' g=modify λs=>SortSt.mk' (kindOf s) (arrOf s) (pendingOf s) g (failedOf s):=rfl
noncomputable def Mu:Array Keyed→Array Keyed→StateT SortSt Sem (Array Keyed):=sortPriv% PySem.Builtin.mergeLo
end gc
namespace gc
open PySem PyProof.Rows
variable [Rk]
theorem drop_cons {a:Array Keyed} {i:Nat} {x:Keyed} (e:a[i]?=some x):a.toList.drop i=x::a.toList.drop (i+1):=by
 have e':a.toList[i]?=some x:=by rw[aao];exact e
 obtain ⟨h,rfl⟩:=List.getElem?_eq_some_iff.mp e';exact aav h
theorem zh {a:Array Keyed} {i:Nat} {x:Keyed} (e:a[i]?=some x):K a i=gm x:=by
 unfold K;rw[e];rfl
theorem pe {a:Array Keyed} {i:Nat} {x:Keyed} (h:x∈a.toList.drop i):∃j,i≤j∧j < a.size∧gm x=K a j:=by
 obtain ⟨k,hk,e⟩:=ad4 h;rw[aah] at hk;have hl:a.toList.length=a.size:=aag;refine ⟨i+k,by omega,by omega,?_⟩;refine (zh ?_).symm;rw[←aao,←e,adz];exact aa0 (by omega)
theorem o7 {a:Array Keyed} {i:Nat} {x:Keyed} (h:x∈a.toList.take i):∃j,j < i∧j < a.size∧gm x=K a j:=by
 obtain ⟨k,hk,e⟩:=ad4 h;rw[aaw] at hk;have hl:a.toList.length=a.size:=aag;refine ⟨k,by omega,by omega,?_⟩;refine (zh ?_).symm;rw[←aao,←e,ae0];exact aa0 (by omega)
theorem mem_mid {a:Array Keyed} {i k:Nat} {x:Keyed} (h:x∈(a.toList.drop i).take k):∃j,i≤j∧j < i+k∧j < a.size∧gm x=K a j:=by
 obtain ⟨m,hm,e⟩:=ad4 h;rw[aaw,aah] at hm;have hl:a.toList.length=a.size:=aag;refine ⟨i+m,by omega,by omega,by omega,?_⟩;refine (zh ?_).symm;rw[←aao,←e,ae0,adz];exact aa0 (by omega)
theorem y3 {a:Array Keyed} (h:Seg a 0 a.size):Srt a.toList:=by
 unfold Srt;rw[List.pairwise_iff_getElem];intro i j hi hj hij;have hl:a.toList.length=a.size:=aag;have e1:a[i]?=some a.toList[i]:=by rw[←aao];exact aa0 hi
 have e2:a[j]?=some a.toList[j]:=by rw[←aao];exact aa0 hj
 rw[←zh e1,←zh e2];exact h i j (by omega) (by omega) (by omega)
theorem cx (a:Array Keyed) (i j:Nat):(a.extract i j).toList=(a.toList.drop i).take (j - i):=by
 rw[Array.toList_extract,List.extract_eq_take_drop]
def Inv (a b out:Array Keyed) (ia ib:Nat):Prop:=Out out.toList (a.toList.drop ia) (b.toList.drop ib) (a.toList++b.toList)
def Good (a b r:Array Keyed):Prop:=r.toList.Perm (a.toList++b.toList)∧Srt r.toList
section
variable {a b out:Array Keyed} {ia ib:Nat}
theorem Inv.start (ha:Seg a 0 a.size) (hb:Seg b 0 b.size):Inv a b #[] 0 0:=⟨ads _,acs,y3 ha,y3 hb,λx hx=>nomatch hx⟩
theorem Inv.as (h:Inv a b out ia ib) (hb:Seg b 0 b.size) (k:Nat) (hk:∀j,ia≤j→j < ia+k→K a j≤K b ib):Inv a b (out++a.extract ia (ia+k)) (ia+k) ib:=by
 have z:=Out.Mv h k λx hx y hy=>by
  obtain ⟨j,h1,h2,h3,e⟩:=mem_mid hx;obtain ⟨m,g1,g2,e2⟩:=pe hy;rw[e,e2];exact abz (hk j h1 h2) (hb ib m (by omega) g1 g2)
 unfold Inv;rw[ab4,cx,show ia+k - ia=k by omega,←acg];exact z
theorem Inv.bs (h:Inv a b out ia ib) (ha:Seg a 0 a.size) (k:Nat) (hk:∀j,ib≤j→j < ib+k→K b j≤K a ia):Inv a b (out++b.extract ib (ib+k)) ia (ib+k):=by
 have z:=Out.K5 h k λx hx y hy=>by
  obtain ⟨j,h1,h2,h3,e⟩:=mem_mid hx;obtain ⟨m,g1,g2,e2⟩:=pe hy;rw[e,e2];exact abz (hk j h1 h2) (ha ia m (by omega) g1 g2)
 unfold Inv;rw[ab4,cx,show ib+k - ib=k by omega,←acg];exact z
theorem Gn {a:Array Keyed} {i:Nat} {x:Keyed} (e:a[i]?=some x):out.push x=out++a.extract i (i+1):=by
 apply Array.toList_inj.mp
 rw[adb,ab4,cx,drop_cons e,show i+1 - i=1 by omega];rfl
theorem Inv.a1 (h:Inv a b out ia ib) (hb:Seg b 0 b.size) {x:Keyed} (e:a[ia]?=some x) (hk:K a ia≤K b ib):Inv a b (out.push x) (ia+1) ib:=by
 rw[Gn e];exact h.as hb 1 λj h1 h2=>by
  have:j=ia:=by omega
  subst this;exact hk
theorem Inv.b1 (h:Inv a b out ia ib) (ha:Seg a 0 a.size) {x:Keyed} (e:b[ib]?=some x) (hk:K b ib≤K a ia):Inv a b (out.push x) ia (ib+1):=by
 rw[Gn e];exact h.bs ha 1 λj h1 h2=>by
  have:j=ib:=by omega
  subst this;exact hk
theorem sm (a:Array Keyed) (i:Nat):(a.extract i a.size).toList=a.toList.drop i:=by
 rw[cx];exact abu (by rw[aah,aag];omega)
theorem Inv.fin (h:Inv a b out ia ib) (e:ia=a.size∨ib=b.size):Good a b (out++a.extract ia a.size++b.extract ib b.size):=by
 unfold Good;rw[ab4,ab4,sm,sm];refine Out.done h (e.imp ?_ ?_)
 ·intro e;exact adg (by rw[aag];omega)
 ·intro e;exact adg (by rw[aag];omega)
theorem Inv.last (h:Inv a b out ia ib) (e:ia+1=a.size) (hl:∀j,j < b.size→K b j≤K a (a.size - 1)):Good a b (out++b.extract ib b.size++a.extract ia a.size):=by
 unfold Good;rw[ab4,ab4,sm,sm];refine Out.last h λy hy x hx=>?_;obtain ⟨j,h1,h2,e1⟩:=pe hx;obtain ⟨m,g1,g2,e2⟩:=pe hy;rw[e1,e2,show j=a.size - 1 by omega];exact hl m g2
end
section
variable {prog:Program} {w:World} {A:Around} {E:Value→Shared→Prop} {s:Shared} [LtR prog w A E s]
theorem bg {α:Type} {c:Prop} [Decidable c] {x y:StateT SortSt Sem α} {Q:α→SortSt→Prop} {st:SortSt} (h1:c→wpS (model prog w) A E s x Q st) (h2:¬c→wpS (model prog w) A E s y Q st):wpS (model prog w) A E s (if c then x else y) Q st:=by
 by_cases h:c
 ·rw[if_pos h];exact h1 h
 ·rw[if_neg h];exact h2 h
theorem tm {st:SortSt} {g:Nat} {Q:Unit→SortSt→Prop} (h:∀st',Lk st st'→Q () st'):wpS (model prog w) A E s (setG' g) Q st:=by
 rw[Li];exact wpS_modify (h _ ⟨rfl,rfl,rfl,rfl⟩)
theorem ax {st:SortSt} {arr:Array Keyed} {i:Nat} {Q:Keyed→SortSt→Prop} (hI:IntKeys arr) (hi:i < arr.size) (h:∀x q,arr[i]?=some (x,q)→Rk.P x→Rk.ρ x=K arr i→Q (x,q) st):wpS (model prog w) A E s (elem' arr i) Q st:=by
 obtain ⟨x,q,e,h1,h2⟩:=y9 hI hi;exact Gw e (h x q e h1 h2)
theorem Seg.from {a:Array Keyed} {i n:Nat} (h:Seg a 0 a.size) (e:i+n=a.size):Seg a i (i+n):=λx y h1 h2 h3=>h x y (by omega) h2 (by omega)
theorem Fh {c:Int} {arr:Array Keyed} {i:Nat}:bey false c arr i=true↔K arr i≤c:=by
 unfold bey;rw[if_neg aab,af1,decide_eq_false_iff_not,Int.not_lt]
theorem vx {c:Int} {arr:Array Keyed} {i:Nat}:bey true c arr i=true↔K arr i < c:=by
 unfold bey;rw[if_pos rfl,decide_eq_true_iff]
theorem zu {c:Int} {arr:Array Keyed} {i:Nat}:bey false c arr i=false↔c < K arr i:=by
 unfold bey;rw[if_neg aab,Bool.not_eq_false',decide_eq_true_iff]
theorem ml {c:Int} {arr:Array Keyed} {i:Nat}:bey true c arr i=false↔c≤K arr i:=by
 unfold bey;rw[if_pos rfl,decide_eq_false_iff_not,Int.not_lt]
def Mid (a b:Array Keyed) (st:SortSt) (n:Nat) (r:Option (Array Keyed)) (o:Array Keyed) (i j:Nat) (st':SortSt):Prop:=
 Lk st st'∧((∃x,r=some x∧Good a b x)∨(r=none∧Inv a b o i j∧i+1 < a.size∧j < b.size∧n≤i+j))
theorem Ey {st:SortSt} {a b:Array Keyed} {Q:Array Keyed→SortSt→Prop} (hk:kindOf st=Rk.kd) (IA:IntKeys a) (IB:IntKeys b) (na:1≤a.size) (nb:1≤b.size) (sa:Seg a 0 a.size) (sb:Seg b 0 b.size)
  (hf:K b 0≤K a 0) (hl:∀j,j < b.size→K b j≤K a (a.size - 1))
  (h:∀r st',Lk st st'→Good a b r→Q r st'):wpS (model prog w) A E s (Mu a b) Q st:=by
 refine wpS_bind (wpS_lift (wpAny_rule ⟨rfl,?_⟩));dsimp only;refine wpS_bind (ax IB (by omega) λt0 p0 e0 mP0 mR0=>?_);have hI:Inv a b #[(t0,p0)] 0 1:=(Inv.start sa sb).b1 sa e0 hf;by_cases z1:1=b.size
 ·rw[if_pos (by simpa using z1)];exact wpS_pure (h _ _ (Lk.refl _) (hI.fin (.inr z1)))
 rw[if_neg (by simpa using z1)];by_cases z2:0+1=a.size
 ·rw[if_pos (by simpa using z2)];exact wpS_pure (h _ _ (Lk.refl _) (hI.last z2 hl))
 rw[if_neg (by simpa using z2)];refine wpS_bind (wpS_get ?_);refine wpS_bind (wpS_mono (wpS_forRange (I:=λx c st'=>∃o i j g,c=(none,o,i,j,g)∧Lk st st'∧Inv a b o i j∧i+1 < a.size∧j < b.size∧x≤i+j)
  (Q:=λc st'=>Lk st st'∧∃x,c.1=some x∧Good a b x) ?step ?fin ⟨_,_,_,_,rfl,Lk.refl _,hI,by omega,by omega,by omega⟩) ?post)
 case post=>
  rintro c st' ⟨l,x,e,g⟩;rw[e];exact wpS_pure (h _ _ l g)
 case fin=>
  rintro c st' ⟨o,i,j,g,rfl,l,_,h1,h2,h3⟩;exfalso
  omega
 case step=>
  rintro x c st1 _ hx ⟨out,ia,ib,g,rfl,l1,hI,ha,hb,hn⟩;dsimp only;refine wpS_bind (wpS_mono (wpS_forRange (I:=λy c st'=>∃o i j ac bc,c=(none,o,i,j,ac,bc)∧Lk st st'∧Inv a b o i j∧i+1 < a.size∧j < b.size∧ia+ib+y≤i+j)
   (Q:=λc st'=>∃r o i j ac bc,c=(r,o,i,j,ac,bc)∧Mid a b st (ia+ib+1) r o i j st') ?step1 ?fin1 ⟨_,_,_,_,_,rfl,l1,hI,ha,hb,by omega⟩) ?post1)
  case fin1=>
   rintro c st' ⟨o,i,j,ac,bc,rfl,l,_,h1,h2,h3⟩;exfalso
   omega
  case step1=>
   rintro y c st2 _ hy ⟨out,ia2,ib2,ac,bc,rfl,l2,hI,ha2,hb2,hn2⟩;dsimp only;refine wpS_bind (ax IB hb2 λt1 p1 e1 mP1 mR1=>?_);refine wpS_bind (ax IA (by omega) λt2 p2 e2 mP2 mR2=>?_);refine wpS_bind (Ge mP1 mR1 mP2 mR2 (l2.kind.trans hk) ?_);dsimp only;by_cases hw:K b ib2 < K a ia2
   ·rw[if_pos (by simpa using hw)];refine wpS_bind (ax IB hb2 λt3 p3 e3 mP3 mR3=>?_);have hI2:=hI.b1 sa e3 (abl hw);by_cases z3:ib2+1=b.size
    ·rw[if_pos (by simpa using z3)];exact wpS_pure ⟨_,_,_,_,_,_,rfl,l2,.inl ⟨_,rfl,hI2.fin (.inr z3)⟩⟩
    ·rw[if_neg (by simpa using z3)];split
     ·exact wpS_pure ⟨_,_,_,_,_,_,rfl,l2,.inr ⟨rfl,hI2,by omega,by omega,by omega⟩⟩
     ·exact wpS_pure ⟨_,_,_,_,_,rfl,l2,hI2,by omega,by omega,by omega⟩
   ·rw[if_neg (by simpa using hw)];refine wpS_bind (ax IA (by omega) λt3 p3 e3 mP3 mR3=>?_);have hI2:=hI.a1 sb e3 (Int.not_lt.mp hw);by_cases z3:ia2+1+1=a.size
    ·rw[if_pos (by simpa using z3)];exact wpS_pure ⟨_,_,_,_,_,_,rfl,l2,.inl ⟨_,rfl,hI2.last z3 hl⟩⟩
    ·rw[if_neg (by simpa using z3)];split
     ·exact wpS_pure ⟨_,_,_,_,_,_,rfl,l2,.inr ⟨rfl,hI2,by omega,by omega,by omega⟩⟩
     ·exact wpS_pure ⟨_,_,_,_,_,rfl,l2,hI2,by omega,by omega,by omega⟩
  case post1=>
   rintro c st2 ⟨r,out2,ia2,ib2,ac,bc,rfl,l2,⟨x2,rfl,hg⟩ | ⟨rfl,hI2,ha2,hb2,hn2⟩⟩
   ·exact wpS_pure ⟨l2,x2,rfl,hg⟩
   dsimp only;refine wpS_bind (wpS_lift (wpAny_rule ⟨rfl,?_⟩));refine wpS_bind (wpS_mono (wpS_forRange (I:=λy c st'=>∃o i j g ac bc,c=(none,o,i,j,g,ac,bc)∧Lk st st'∧Inv a b o i j∧i+1 < a.size∧j < b.size∧ia2+ib2+y≤i+j)
    (Q:=λc st'=>∃r o i j g ac bc,c=(r,o,i,j,g,ac,bc)∧Mid a b st (ia2+ib2) r o i j st') ?step2 ?fin2 ⟨_,_,_,_,_,_,rfl,l2,hI2,ha2,hb2,by omega⟩) ?post2)
   case fin2=>
    rintro c st' ⟨o,i,j,g,ac,bc,rfl,l,_,h1,h2,h3⟩;exfalso
    omega
   case post2=>
    rintro c st' ⟨r,o,i,j,g,ac,bc,rfl,l,⟨x2,rfl,hg⟩ | ⟨rfl,hI4,ha4,hb4,hn4⟩⟩
    ·exact wpS_pure ⟨l,x2,rfl,hg⟩
    ·dsimp only;exact wpS_bind (tm λst5 l5=>wpS_pure ⟨_,_,_,_,rfl,l.trans l5,hI4,ha4,hb4,by omega⟩)
   case step2=>
    rintro y c st3 _ hy ⟨out,ia,ib,g,ac,bc,rfl,l3,hI,ha3,hb3,hn3⟩;dsimp only;refine bg (λ_=>?_) (λ_=>?_);all_goals
     refine wpS_bind (tm λst2 l2=>?_);have l2:=l3.trans l2;refine wpS_bind (ax IB hb3 λt0 q0 e0 mP0 mR0=>?_);refine wpS_bind (fk mP0 mR0 (l2.kind.trans hk) IA (by omega) (by omega) (Seg.from sa (by omega)) λk h1 h2 h3=>?_);dsimp only;by_cases k0:k > 0
     ·rw[if_pos k0];have hI2:=hI.as sb k λj g1 g2=>by
       have:=Fh.mp (h2 (j - ia) (by omega));rwa [show ia+(j - ia)=j by omega] at this
      by_cases z1:ia+k+1=a.size
      ·rw[if_pos (by simpa using z1)];exact wpS_pure ⟨_,_,_,_,_,_,_,rfl,l2,.inl ⟨_,rfl,hI2.last z1 hl⟩⟩
      rw[if_neg (by simpa using z1)];by_cases z2:ia+k=a.size
      ·rw[if_pos (by simpa using z2)];exact wpS_pure ⟨_,_,_,_,_,_,_,rfl,l2,.inl ⟨_,rfl,hI2.fin (.inl z2)⟩⟩
      rw[if_neg (by simpa using z2)];have hle:=abl (zu.mp (h3 k (by omega) (by omega)));refine wpS_bind (ax IB (by omega) λt1 q1 e1 mP1 mR1=>?_);have hI3:=hI2.b1 sa e1 hle;by_cases z3:ib+1=b.size
      ·rw[if_pos (by simpa using z3)];exact wpS_pure ⟨_,_,_,_,_,_,_,rfl,l2,.inl ⟨_,rfl,hI3.fin (.inr z3)⟩⟩
      ·rw[if_neg (by simpa using z3)];refine wpS_bind (ax IA (by omega) λt2 q2 e2 mP2 mR2=>?_);refine wpS_bind (fk mP2 mR2 (l2.kind.trans hk) IB (by omega) (by omega) (Seg.from sb (by omega)) λk2 g1 g2 g3=>?_);dsimp only;by_cases k20:k2 > 0
       ·rw[if_pos k20];have hI3:=hI3.bs sa k2 λj h1 h2=>by
         have:=vx.mp (g2 (j - (ib+1)) (by omega));rw[show ib+1+(j - (ib+1))=j by omega] at this;omega
        by_cases z4:ib+1+k2=b.size
        ·rw[if_pos (by simpa using z4)];exact wpS_pure ⟨_,_,_,_,_,_,_,rfl,l2,.inl ⟨_,rfl,hI3.fin (.inr z4)⟩⟩
        ·rw[if_neg (by simpa using z4)];have hge:=ml.mp (g3 k2 (by omega) (by omega));refine wpS_bind (ax IA (by omega) λt3 q3 e3 mP3 mR3=>?_);have hI4:=hI3.a1 sb e3 hge;refine bg (λz5=>?_) (λz5=>?_)
         ·exact wpS_pure ⟨_,_,_,_,_,_,_,rfl,l2,.inl ⟨_,rfl,hI4.last (eq_of_beq z5) hl⟩⟩
         ·rw[beq_iff_eq] at z5;refine bg (λ_=>?_) (λ_=>?_)
          ·exact wpS_pure ⟨_,_,_,_,_,_,_,rfl,l2,.inr ⟨rfl,hI4,by omega,by omega,by omega⟩⟩
          ·exact wpS_pure ⟨_,_,_,_,_,_,rfl,l2,hI4,by omega,by omega,by omega⟩
       ·rw[if_neg k20];obtain rfl:k2=0:=by omega
        have hge:=ml.mp (g3 0 (by omega) (by omega));refine wpS_bind (ax IA (by omega) λt3 q3 e3 mP3 mR3=>?_);have hI4:=hI3.a1 sb e3 hge;refine bg (λz5=>?_) (λz5=>?_)
        ·exact wpS_pure ⟨_,_,_,_,_,_,_,rfl,l2,.inl ⟨_,rfl,hI4.last (eq_of_beq z5) hl⟩⟩
        ·rw[beq_iff_eq] at z5;refine bg (λ_=>?_) (λ_=>?_)
         ·exact wpS_pure ⟨_,_,_,_,_,_,_,rfl,l2,.inr ⟨rfl,hI4,by omega,by omega,by omega⟩⟩
         ·exact wpS_pure ⟨_,_,_,_,_,_,rfl,l2,hI4,by omega,by omega,by omega⟩
     ·rw[if_neg k0];obtain rfl:k=0:=by omega
      have hI2:=hI;have hle:=abl (zu.mp (h3 0 (by omega) (by omega)));refine wpS_bind (ax IB (by omega) λt1 q1 e1 mP1 mR1=>?_);have hI3:=hI2.b1 sa e1 hle;by_cases z3:ib+1=b.size
      ·rw[if_pos (by simpa using z3)];exact wpS_pure ⟨_,_,_,_,_,_,_,rfl,l2,.inl ⟨_,rfl,hI3.fin (.inr z3)⟩⟩
      ·rw[if_neg (by simpa using z3)];refine wpS_bind (ax IA (by omega) λt2 q2 e2 mP2 mR2=>?_);refine wpS_bind (fk mP2 mR2 (l2.kind.trans hk) IB (by omega) (by omega) (Seg.from sb (by omega)) λk2 g1 g2 g3=>?_);dsimp only;by_cases k20:k2 > 0
       ·rw[if_pos k20];have hI3:=hI3.bs sa k2 λj h1 h2=>by
         have:=vx.mp (g2 (j - (ib+1)) (by omega));rw[show ib+1+(j - (ib+1))=j by omega] at this;omega
        by_cases z4:ib+1+k2=b.size
        ·rw[if_pos (by simpa using z4)];exact wpS_pure ⟨_,_,_,_,_,_,_,rfl,l2,.inl ⟨_,rfl,hI3.fin (.inr z4)⟩⟩
        ·rw[if_neg (by simpa using z4)];have hge:=ml.mp (g3 k2 (by omega) (by omega));refine wpS_bind (ax IA (by omega) λt3 q3 e3 mP3 mR3=>?_);have hI4:=hI3.a1 sb e3 hge;refine bg (λz5=>?_) (λz5=>?_)
         ·exact wpS_pure ⟨_,_,_,_,_,_,_,rfl,l2,.inl ⟨_,rfl,hI4.last (eq_of_beq z5) hl⟩⟩
         ·rw[beq_iff_eq] at z5;refine bg (λ_=>?_) (λ_=>?_)
          ·exact wpS_pure ⟨_,_,_,_,_,_,_,rfl,l2,.inr ⟨rfl,hI4,by omega,by omega,by omega⟩⟩
          ·exact wpS_pure ⟨_,_,_,_,_,_,rfl,l2,hI4,by omega,by omega,by omega⟩
       ·rw[if_neg k20];obtain rfl:k2=0:=by omega
        have hge:=ml.mp (g3 0 (by omega) (by omega));refine wpS_bind (ax IA (by omega) λt3 q3 e3 mP3 mR3=>?_);have hI4:=hI3.a1 sb e3 hge;refine bg (λz5=>?_) (λz5=>?_)
        ·exact wpS_pure ⟨_,_,_,_,_,_,_,rfl,l2,.inl ⟨_,rfl,hI4.last (eq_of_beq z5) hl⟩⟩
        ·rw[beq_iff_eq] at z5;refine bg (λ_=>?_) (λ_=>?_)
         ·exact wpS_pure ⟨_,_,_,_,_,_,_,rfl,l2,.inr ⟨rfl,hI4,by omega,by omega,by omega⟩⟩
         ·exact wpS_pure ⟨_,_,_,_,_,_,rfl,l2,hI4,by omega,by omega,by omega⟩
end
end gc
namespace gc
open PySem PyProof.Rows
variable [Rk]
noncomputable def Mi:Array Keyed→Array Keyed→StateT SortSt Sem (Array Keyed):=sortPriv% PySem.Builtin.mergeHi
structure Ouh (o ra rb all:List Keyed):Prop where
 perm:(ra++rb++o).Perm all
 srt:Srt o
 sa:Srt ra
 sb:Srt rb
 high:∀x∈o,∀y,y∈ra∨y∈rb→gm y≤gm x
theorem Ouh.Mv {o ra rb all:List Keyed} (h:Ouh o ra rb all) (k:Nat) (hk:∀x∈ra.drop k,∀y∈rb,gm y≤gm x):Ouh (ra.drop k++o) (ra.take k) rb all:=by
 obtain ⟨s1,s2,s3⟩:=h.sa.split k;refine ⟨?_,?_,s1,h.sb,λx hx y hy=>?_⟩
 ·refine ad6 ?_ h.perm;conv=>rhs;rw[←aba k ra]
  rw[←aax];refine acr o ?_;rw[aax,aax];exact acy _ acz
 ·unfold Srt;rw[ab9];exact ⟨s2,h.srt,λx hx y hy=>h.high y hy x (.inl (ac7 hx))⟩
 ·rcases List.mem_append.mp hx with k1 | k1
  ·rcases hy with hy | hy
   ·exact s3 y hy x k1
   ·exact hk x k1 y hy
  ·exact h.high x k1 y (hy.imp abk id)
theorem Ouh.K5 {o ra rb all:List Keyed} (h:Ouh o ra rb all) (k:Nat) (hk:∀x∈rb.drop k,∀y∈ra,gm y≤gm x):Ouh (rb.drop k++o) ra (rb.take k) all:=by
 obtain ⟨s1,s2,s3⟩:=h.sb.split k;refine ⟨?_,?_,h.sa,s1,λx hx y hy=>?_⟩
 ·refine ad6 ?_ h.perm;conv=>rhs;rw[←aba k rb]
  rw[←aax,←aax]
 ·unfold Srt;rw[ab9];exact ⟨s2,h.srt,λx hx y hy=>h.high y hy x (.inr (ac7 hx))⟩
 ·rcases List.mem_append.mp hx with k1 | k1
  ·rcases hy with hy | hy
   ·exact hk x k1 y hy
   ·exact s3 y hy x k1
  ·exact h.high x k1 y (hy.imp id abk)
theorem Ouh.done {o ra rb all:List Keyed} (h:Ouh o ra rb all) (he:ra=[]∨rb=[]):(ra++rb++o).Perm all∧Srt (ra++rb++o):=by
 refine ⟨h.perm,?_⟩;unfold Srt;rcases he with rfl | rfl
 ·rw[ad5,ab9];exact ⟨h.sb,h.srt,λx hx y hy=>h.high y hy x (.inr hx)⟩
 ·rw[ab1,ab9];exact ⟨h.sa,h.srt,λx hx y hy=>h.high y hy x (.inl hx)⟩
theorem Ouh.first {o ra rb all:List Keyed} (h:Ouh o ra rb all) (he:∀y∈rb,∀x∈ra,gm y≤gm x):(rb++ra++o).Perm all∧Srt (rb++ra++o):=by
 refine ⟨?_,?_⟩
 ·refine ad6 ?_ h.perm;exact acr o acz
 ·unfold Srt;rw[ab9,ab9];refine ⟨⟨h.sb,h.sa,he⟩,h.srt,λx hx y hy=>?_⟩;rcases List.mem_append.mp hx with k | k
  ·exact h.high y hy x (.inr k)
  ·exact h.high y hy x (.inl k)
def gg (a b out:Array Keyed) (na nb:Nat):Prop:=Ouh out.toList.reverse (a.toList.take na) (b.toList.take nb) (a.toList++b.toList)
theorem Fs {a:Array Keyed} {i k:Nat} {x:Keyed} (h:x∈(a.toList.take k).drop i):∃j,i≤j∧j < k∧j < a.size∧gm x=K a j:=by
 obtain ⟨m,hm,e⟩:=ad4 h;rw[aah,aaw] at hm;have hl:a.toList.length=a.size:=aag;refine ⟨i+m,by omega,by omega,by omega,?_⟩;refine (zh ?_).symm;rw[←aao,←e,adz,ae0];exact aa0 (by omega)
theorem Gx (a:Array Keyed) (i k:Nat):(a.extract i k).toList=(a.toList.take k).drop i:=by
 rw[cx,List.drop_take]
section
variable {a b out:Array Keyed} {na nb:Nat}
theorem gg.start (ha:Seg a 0 a.size) (hb:Seg b 0 b.size):gg a b #[] a.size b.size:=by
 have e1:a.toList.take a.size=a.toList:=abu (by rw[aag];omega);have e2:b.toList.take b.size=b.toList:=abu (by rw[aag];omega);unfold gg;rw[e1,e2];exact ⟨by show (a.toList++b.toList++[]).Perm _;rw[ab1],acs,y3 ha,y3 hb,λx hx=>nomatch hx⟩
theorem gg.as (h:gg a b out na nb) (hb:Seg b 0 b.size) (hnb:1≤nb) (hnb2:nb≤b.size) (k:Nat) (hkn:k≤na) (hk:∀j,k≤j→j < na→K b (nb - 1)≤K a j):gg a b (out++(a.extract k na).reverse) k nb:=by
 have z:=Ouh.Mv h k λx hx y hy=>by
  obtain ⟨j,h1,h2,h3,e⟩:=Fs hx;obtain ⟨m,g1,g2,e2⟩:=o7 hy;rw[e,e2];exact abz (hb m (nb - 1) (by omega) (by omega) (by omega)) (hk j h1 h2)
 unfold gg;rw[ab4,acf,aer,aem,Gx];rw[List.take_take,show min k na=k by omega] at z;exact z
theorem gg.bs (h:gg a b out na nb) (ha:Seg a 0 a.size) (hna:1≤na) (hna2:na≤a.size) (k:Nat) (hkn:k≤nb) (hk:∀j,k≤j→j < nb→K a (na - 1)≤K b j):gg a b (out++(b.extract k nb).reverse) na k:=by
 have z:=Ouh.K5 h k λx hx y hy=>by
  obtain ⟨j,h1,h2,h3,e⟩:=Fs hx;obtain ⟨m,g1,g2,e2⟩:=o7 hy;rw[e,e2];exact abz (ha m (na - 1) (by omega) (by omega) (by omega)) (hk j h1 h2)
 unfold gg;rw[ab4,acf,aer,aem,Gx];rw[List.take_take,show min k nb=k by omega] at z;exact z
theorem Bm {a:Array Keyed} {i:Nat} {x:Keyed} (hi:1≤i) (e:a[i - 1]?=some x):out.push x=out++(a.extract (i - 1) i).reverse:=by
 apply Array.toList_inj.mp
 rw[adb,ab4,acf,cx,drop_cons e,show i - (i - 1)=1 by omega];rfl
theorem gg.a1 (h:gg a b out na nb) (hb:Seg b 0 b.size) (hnb:1≤nb) (hnb2:nb≤b.size) {x:Keyed} (hna:1≤na) (e:a[na - 1]?=some x) (hk:K b (nb - 1)≤K a (na - 1)):gg a b (out.push x) (na - 1) nb:=by
 rw[Bm hna e];exact h.as hb hnb hnb2 _ (by omega) λj h1 h2=>by
  have:j=na - 1:=by omega
  subst this;exact hk
theorem gg.b1 (h:gg a b out na nb) (ha:Seg a 0 a.size) (hna:1≤na) (hna2:na≤a.size) {x:Keyed} (hnb:1≤nb) (e:b[nb - 1]?=some x) (hk:K a (na - 1)≤K b (nb - 1)):gg a b (out.push x) na (nb - 1):=by
 rw[Bm hnb e];exact h.bs ha hna hna2 _ (by omega) λj h1 h2=>by
  have:j=nb - 1:=by omega
  subst this;exact hk
theorem ky (a:Array Keyed) (i:Nat):(a.extract 0 i).toList=a.toList.take i:=by
 rw[cx];rfl
theorem gg.fin (h:gg a b out na nb) (e:na=0∨nb=0):Good a b (a.extract 0 na++b.extract 0 nb++out.reverse):=by
 unfold Good;rw[ab4,ab4,ky,ky,acf];refine Ouh.done h (e.imp ?_ ?_)
 ·rintro rfl;rfl
 ·rintro rfl;rfl
theorem gg.first (h:gg a b out na nb) (e:nb=1) (hl:∀j,j < a.size→K b 0≤K a j):Good a b (b.extract 0 nb++a.extract 0 na++out.reverse):=by
 unfold Good;rw[ab4,ab4,ky,ky,acf];refine Ouh.first h λy hy x hx=>?_
 obtain ⟨j,h1,h2,e1⟩:=o7 hx;obtain ⟨m,g1,g2,e2⟩:=o7 hy;rw[e1,e2,show m=0 by omega];exact hl j h2
end
section
variable {prog:Program} {w:World} {A:Around} {E:Value→Shared→Prop} {s:Shared} [LtR prog w A E s]
def MidH (a b:Array Keyed) (st:SortSt) (n:Nat) (r:Option (Array Keyed)) (o:Array Keyed) (i j:Nat) (st':SortSt):Prop:=
 Lk st st'∧((∃x,r=some x∧Good a b x)∨(r=none∧gg a b o i j∧1≤i∧i≤a.size∧2≤j∧j≤b.size∧i+j≤n))
theorem Seg.to {a:Array Keyed} {n:Nat} (h:Seg a 0 a.size) (e:n≤a.size):Seg a 0 (0+n):=λx y h1 h2 h3=>h x y (by omega) h2 (by omega)
theorem Es {st:SortSt} {a b:Array Keyed} {Q:Array Keyed→SortSt→Prop} (hk:kindOf st=Rk.kd) (IA:IntKeys a) (IB:IntKeys b) (na:1≤a.size) (nb:1≤b.size) (sa:Seg a 0 a.size) (sb:Seg b 0 b.size)
  (hf:K b 0≤K a 0) (hl:∀j,j < b.size→K b j≤K a (a.size - 1))
  (h:∀r st',Lk st st'→Good a b r→Q r st'):wpS (model prog w) A E s (Mi a b) Q st:=by
 have hf':∀j,j < a.size→K b 0≤K a j:=λj hj=>abz hf (sa 0 j (by omega) (by omega) hj);refine wpS_bind (wpS_lift (wpAny_rule ⟨rfl,?_⟩));dsimp only;refine wpS_bind (ax IA (by omega) λt0 p0 e0 mP0 mR0=>?_);have hI:gg a b #[(t0,p0)] (a.size - 1) b.size:=(gg.start sa sb).a1 sb (by omega) (by omega) (by omega) e0 (hl (b.size - 1) (by omega));by_cases z1:a.size - 1=0
 ·rw[if_pos (by simpa using z1)];exact wpS_pure (h _ _ (Lk.refl _) (hI.fin (.inl z1)))
 rw[if_neg (by simpa using z1)];by_cases z2:b.size=1
 ·rw[if_pos (by simpa using z2)];exact wpS_pure (h _ _ (Lk.refl _) (hI.first z2 hf'))
 rw[if_neg (by simpa using z2)];refine wpS_bind (wpS_get ?_);refine wpS_bind (wpS_mono (wpS_forRange (I:=λx c st'=>∃o i j g,c=(none,i,j,o,g)∧Lk st st'∧gg a b o i j∧1≤i∧i≤a.size∧2≤j∧j≤b.size∧i+j+x≤a.size+b.size)
  (Q:=λc st'=>Lk st st'∧∃x,c.1=some x∧Good a b x) ?step ?fin ?init) ?post)
 case init=>exact ⟨_,_,_,_,rfl,Lk.refl _,hI,by omega,by omega,by omega,by omega,by omega⟩
 case post=>
  rintro c st' ⟨l,x,e,g⟩;rw[e];exact wpS_pure (h _ _ l g)
 case fin=>
  rintro c st' ⟨o,i,j,g,rfl,l,_,h1,h2,h3,h4,h5⟩;exfalso
  omega
 case step=>
  rintro x c st1 _ hx ⟨out,na,nb,g,rfl,l1,hI,ha,ha',hb,hb',hn⟩;dsimp only;refine wpS_bind (wpS_mono (wpS_forRange (I:=λy c st'=>∃o i j ac bc,c=(none,i,j,o,ac,bc)∧Lk st st'∧gg a b o i j∧1≤i∧i≤a.size∧2≤j∧j≤b.size∧i+j+y≤na+nb)
   (Q:=λc st'=>∃r o i j ac bc,c=(r,i,j,o,ac,bc)∧MidH a b st (na+nb - 1) r o i j st') ?step1 ?fin1 ⟨_,_,_,_,_,rfl,l1,hI,ha,ha',hb,hb',by omega⟩) ?post1)
  case fin1=>
   rintro c st' ⟨o,i,j,ac,bc,rfl,l,_,h1,h2,h3,h4,h5⟩;exfalso
   omega
  case step1=>
   rintro y c st2 _ hy ⟨out,na2,nb2,ac,bc,rfl,l2,hI,ha2,ha2',hb2,hb2',hn2⟩;dsimp only;refine wpS_bind (ax IB (by omega) λt1 p1 e1 mP1 mR1=>?_);refine wpS_bind (ax IA (by omega) λt2 p2 e2 mP2 mR2=>?_);refine wpS_bind (Ge mP1 mR1 mP2 mR2 (l2.kind.trans hk) ?_);dsimp only;by_cases hw:K b (nb2 - 1) < K a (na2 - 1)
   ·rw[if_pos (by simpa using hw)];refine wpS_bind (ax IA (by omega) λt3 p3 e3 mP3 mR3=>?_);have hI2:=hI.a1 sb (by omega) (by omega) (by omega) e3 (abl hw);refine bg (λz3=>?_) (λz3=>?_)
    ·exact wpS_pure ⟨_,_,_,_,_,_,rfl,l2,.inl ⟨_,rfl,hI2.fin (.inl (eq_of_beq z3))⟩⟩
    ·rw[beq_iff_eq] at z3;refine bg (λ_=>?_) (λ_=>?_)
     ·exact wpS_pure ⟨_,_,_,_,_,_,rfl,l2,.inr ⟨rfl,hI2,by omega,by omega,by omega,by omega,by omega⟩⟩
     ·exact wpS_pure ⟨_,_,_,_,_,rfl,l2,hI2,by omega,by omega,by omega,by omega,by omega⟩
   ·rw[if_neg (by simpa using hw)];refine wpS_bind (ax IB (by omega) λt3 p3 e3 mP3 mR3=>?_);have hI2:=hI.b1 sa (by omega) (by omega) (by omega) e3 (Int.not_lt.mp hw);refine bg (λz3=>?_) (λz3=>?_)
    ·exact wpS_pure ⟨_,_,_,_,_,_,rfl,l2,.inl ⟨_,rfl,hI2.first (eq_of_beq z3) hf'⟩⟩
    ·rw[beq_iff_eq] at z3;refine bg (λ_=>?_) (λ_=>?_)
     ·exact wpS_pure ⟨_,_,_,_,_,_,rfl,l2,.inr ⟨rfl,hI2,by omega,by omega,by omega,by omega,by omega⟩⟩
     ·exact wpS_pure ⟨_,_,_,_,_,rfl,l2,hI2,by omega,by omega,by omega,by omega,by omega⟩
  case post1=>
   rintro c st2 ⟨r,out2,na2,nb2,ac,bc,rfl,l2,⟨x2,rfl,hg⟩ | ⟨rfl,hI2,ha2,ha2',hb2,hb2',hn2⟩⟩
   ·exact wpS_pure ⟨l2,x2,rfl,hg⟩
   dsimp only;refine wpS_bind (wpS_lift (wpAny_rule ⟨rfl,?_⟩));refine wpS_bind (wpS_mono (wpS_forRange (I:=λy c st'=>∃o i j g ac bc,c=(none,i,j,o,g,ac,bc)∧Lk st st'∧gg a b o i j∧1≤i∧i≤a.size∧2≤j∧j≤b.size∧i+j+y≤na2+nb2)
    (Q:=λc st'=>∃r o i j g ac bc,c=(r,i,j,o,g,ac,bc)∧MidH a b st (na2+nb2) r o i j st') ?step2 ?fin2 ⟨_,_,_,_,_,_,rfl,l2,hI2,ha2,ha2',hb2,hb2',by omega⟩) ?post2)
   case fin2=>
    rintro c st' ⟨o,i,j,g,ac,bc,rfl,l,_,h1,h2,h3,h4,h5⟩;exfalso
    omega
   case post2=>
    rintro c st' ⟨r,o,i,j,g,ac,bc,rfl,l,⟨x2,rfl,hg⟩ | ⟨rfl,hI4,ha4,ha4',hb4,hb4',hn4⟩⟩
    ·exact wpS_pure ⟨l,x2,rfl,hg⟩
    ·dsimp only;exact wpS_bind (tm λst5 l5=>wpS_pure ⟨_,_,_,_,rfl,l.trans l5,hI4,ha4,ha4',hb4,hb4',by omega⟩)
   case step2=>
    rintro y c st3 _ hy ⟨out,na,nb,g,ac,bc,rfl,l3,hI,ha3,ha3',hb3,hb3',hn3⟩;dsimp only;refine bg (λ_=>?_) (λ_=>?_);all_goals
     refine wpS_bind (tm λst2 l2=>?_);have l2:=l3.trans l2;refine wpS_bind (ax IB (by omega) λt0 q0 e0 mP0 mR0=>?_);refine wpS_bind (fk mP0 mR0 (l2.kind.trans hk) IA (by omega) (by omega) (Seg.to sa (by omega)) λk h1 h2 h3=>?_);dsimp only;by_cases k0:na - k > 0
     ·rw[if_pos k0];have hI2:=hI.as sb (by omega) (by omega) k h1 λj g1 g2=>by
       have:=zu.mp (h3 j (by omega) (by omega));rw[abt] at this;exact abl this
      refine bg (λz1=>?_) (λz1=>?_)
      ·exact wpS_pure ⟨_,_,_,_,_,_,_,rfl,l2,.inl ⟨_,rfl,hI2.fin (.inl (eq_of_beq z1))⟩⟩
      rw[beq_iff_eq] at z1;have hle:=Fh.mp (h2 (k - 1) (by omega));rw[abt] at hle;refine wpS_bind (ax IB (by omega) λt1 q1 e1 mP1 mR1=>?_);have hI3:=hI2.b1 sa (by omega) (by omega) (by omega) e1 hle;refine bg (λz3=>?_) (λz3=>?_)
      ·exact wpS_pure ⟨_,_,_,_,_,_,_,rfl,l2,.inl ⟨_,rfl,hI3.first (eq_of_beq z3) hf'⟩⟩
      ·rw[beq_iff_eq] at z3;refine wpS_bind (ax IA (by omega) λt2 q2 e2 mP2 mR2=>?_);refine wpS_bind (fk mP2 mR2 (l2.kind.trans hk) IB (by omega) (by omega) (Seg.to sb (by omega)) λk2 g1 g2 g3=>?_);dsimp only;by_cases k20:nb - 1 - k2 > 0
       ·rw[if_pos k20];have hI3:=hI3.bs sa (by omega) (by omega) k2 g1 λj h1 h2=>by
         have:=ml.mp (g3 j (by omega) (by omega));rwa [abt] at this
        refine bg (λz4=>?_) (λz4=>?_)
        ·exact wpS_pure ⟨_,_,_,_,_,_,_,rfl,l2,.inl ⟨_,rfl,hI3.first (eq_of_beq z4) hf'⟩⟩
        ·rw[beq_iff_eq] at z4;refine bg (λz5=>?_) (λz5=>?_)
         ·exact wpS_pure ⟨_,_,_,_,_,_,_,rfl,l2,.inl ⟨_,rfl,hI3.fin (.inr (eq_of_beq z5))⟩⟩
         ·rw[beq_iff_eq] at z5;have hge:=abl (vx.mp (g2 (k2 - 1) (by omega)));rw[abt] at hge;refine wpS_bind (ax IA (by omega) λt3 q3 e3 mP3 mR3=>?_);have hI4:=hI3.a1 sb (by omega) (by omega) (by omega) e3 hge;refine bg (λz5=>?_) (λz5=>?_)
          ·exact wpS_pure ⟨_,_,_,_,_,_,_,rfl,l2,.inl ⟨_,rfl,hI4.fin (.inl (eq_of_beq z5))⟩⟩
          ·rw[beq_iff_eq] at z5;refine bg (λ_=>?_) (λ_=>?_)
           ·exact wpS_pure ⟨_,_,_,_,_,_,_,rfl,l2,.inr ⟨rfl,hI4,by omega,by omega,by omega,by omega,by omega⟩⟩
           ·exact wpS_pure ⟨_,_,_,_,_,_,rfl,l2,hI4,by omega,by omega,by omega,by omega,by omega⟩
       ·rw[if_neg k20];obtain rfl:k2=nb - 1:=by omega
        have hge:=abl (vx.mp (g2 (nb - 1 - 1) (by omega)));rw[abt] at hge;refine wpS_bind (ax IA (by omega) λt3 q3 e3 mP3 mR3=>?_);have hI4:=hI3.a1 sb (by omega) (by omega) (by omega) e3 hge;refine bg (λz5=>?_) (λz5=>?_)
        ·exact wpS_pure ⟨_,_,_,_,_,_,_,rfl,l2,.inl ⟨_,rfl,hI4.fin (.inl (eq_of_beq z5))⟩⟩
        ·rw[beq_iff_eq] at z5;refine bg (λ_=>?_) (λ_=>?_)
         ·exact wpS_pure ⟨_,_,_,_,_,_,_,rfl,l2,.inr ⟨rfl,hI4,by omega,by omega,by omega,by omega,by omega⟩⟩
         ·exact wpS_pure ⟨_,_,_,_,_,_,rfl,l2,hI4,by omega,by omega,by omega,by omega,by omega⟩
     ·rw[if_neg k0];obtain rfl:k=na:=by omega
      have hI2:=hI;have hle:=Fh.mp (h2 (k - 1) (by omega));rw[abt] at hle;refine wpS_bind (ax IB (by omega) λt1 q1 e1 mP1 mR1=>?_);have hI3:=hI2.b1 sa (by omega) (by omega) (by omega) e1 hle;refine bg (λz3=>?_) (λz3=>?_)
      ·exact wpS_pure ⟨_,_,_,_,_,_,_,rfl,l2,.inl ⟨_,rfl,hI3.first (eq_of_beq z3) hf'⟩⟩
      ·rw[beq_iff_eq] at z3;refine wpS_bind (ax IA (by omega) λt2 q2 e2 mP2 mR2=>?_);refine wpS_bind (fk mP2 mR2 (l2.kind.trans hk) IB (by omega) (by omega) (Seg.to sb (by omega)) λk2 g1 g2 g3=>?_);dsimp only;by_cases k20:nb - 1 - k2 > 0
       ·rw[if_pos k20];have hI3:=hI3.bs sa (by omega) (by omega) k2 g1 λj h1 h2=>by
         have:=ml.mp (g3 j (by omega) (by omega));rwa [abt] at this
        refine bg (λz4=>?_) (λz4=>?_)
        ·exact wpS_pure ⟨_,_,_,_,_,_,_,rfl,l2,.inl ⟨_,rfl,hI3.first (eq_of_beq z4) hf'⟩⟩
        ·rw[beq_iff_eq] at z4;refine bg (λz5=>?_) (λz5=>?_)
         ·exact wpS_pure ⟨_,_,_,_,_,_,_,rfl,l2,.inl ⟨_,rfl,hI3.fin (.inr (eq_of_beq z5))⟩⟩
         ·rw[beq_iff_eq] at z5;have hge:=abl (vx.mp (g2 (k2 - 1) (by omega)));rw[abt] at hge;refine wpS_bind (ax IA (by omega) λt3 q3 e3 mP3 mR3=>?_);have hI4:=hI3.a1 sb (by omega) (by omega) (by omega) e3 hge;refine bg (λz5=>?_) (λz5=>?_)
          ·exact wpS_pure ⟨_,_,_,_,_,_,_,rfl,l2,.inl ⟨_,rfl,hI4.fin (.inl (eq_of_beq z5))⟩⟩
          ·rw[beq_iff_eq] at z5;refine bg (λ_=>?_) (λ_=>?_)
           ·exact wpS_pure ⟨_,_,_,_,_,_,_,rfl,l2,.inr ⟨rfl,hI4,by omega,by omega,by omega,by omega,by omega⟩⟩
           ·exact wpS_pure ⟨_,_,_,_,_,_,rfl,l2,hI4,by omega,by omega,by omega,by omega,by omega⟩
       ·rw[if_neg k20];obtain rfl:k2=nb - 1:=by omega
        have hge:=abl (vx.mp (g2 (nb - 1 - 1) (by omega)));rw[abt] at hge;refine wpS_bind (ax IA (by omega) λt3 q3 e3 mP3 mR3=>?_);have hI4:=hI3.a1 sb (by omega) (by omega) (by omega) e3 hge;refine bg (λz5=>?_) (λz5=>?_)
        ·exact wpS_pure ⟨_,_,_,_,_,_,_,rfl,l2,.inl ⟨_,rfl,hI4.fin (.inl (eq_of_beq z5))⟩⟩
        ·rw[beq_iff_eq] at z5;refine bg (λ_=>?_) (λ_=>?_)
         ·exact wpS_pure ⟨_,_,_,_,_,_,_,rfl,l2,.inr ⟨rfl,hI4,by omega,by omega,by omega,by omega,by omega⟩⟩
         ·exact wpS_pure ⟨_,_,_,_,_,_,rfl,l2,hI4,by omega,by omega,by omega,by omega,by omega⟩
end
end gc
namespace gc
open PySem PyProof.Rows
variable [Rk]
theorem wp_set {σ:Type} {M:Model} {A:Around} {E:Value→Shared→Prop} {s:Shared} {Q:PUnit→σ→Prop} {st st':σ} (h:Q ⟨⟩ st'):wpS M A E s (set st':StateT σ Sem PUnit) Q st:=by
 unfold wpS;rw[StateT.run_set];exact wpAny_pure ⟨rfl,h⟩
noncomputable def laid (s:Nat) (l:List Keyed) (n:Nat) (xs:Array Keyed):Array Keyed:=(l.zipIdx n).foldl (λa (p,j)=>a.setIfInBounds (s+j) p) xs
theorem zr (s:Nat):∀(l:List Keyed) (n:Nat) (xs:Array Keyed),s+n+l.length≤xs.size→(laid s l n xs).size=xs.size∧∀i,(laid s l n xs)[i]?=if s+n≤i∧i < s+n+l.length then l[i - (s+n)]? else xs[i]?
 | [],n,xs,h=>⟨rfl,λi=>by rw[if_neg (by rw[acn];omega)];rfl⟩
 | p::l,n,xs,h=>by
  rw[aal] at h;have e:laid s (p::l) n xs=laid s l (n+1) (xs.setIfInBounds (s+n) p):=rfl;obtain ⟨z1,z2⟩:=zr s l (n+1) (xs.setIfInBounds (s+n) p) (by rw[ad9];omega);rw[e];refine ⟨z1.trans ad9,λi=>?_⟩;rw[z2,aal];by_cases h1:s+(n+1)≤i∧i < s+(n+1)+l.length
  ·rw[if_pos h1,if_pos (by omega),show i - (s+n)=(i - (s+(n+1)))+1 by omega,ada]
  ·rw[if_neg h1];by_cases h2:i=s+n
   ·subst h2;rw[if_pos (by omega),show s+n - (s+n)=0 by omega,Array.getElem?_setIfInBounds_self_of_lt (by omega)];rfl
   ·rw[if_neg (by omega),Array.getElem?_setIfInBounds_ne (by omega)]
theorem Hs {lo mid hi:Nat} {xs M:Array Keyed} (h1:lo≤mid) (h2:mid≤hi) (h3:hi≤xs.size) (hM:Good (xs.extract lo mid) (xs.extract mid hi) M):M.size=hi - lo∧(laid lo M.toList 0 xs).Perm xs:=by
 have hl:xs.toList.length=xs.size:=aag;have hm:M.toList.length=M.size:=aag;have e:(xs.extract lo mid).toList++(xs.extract mid hi).toList=(xs.toList.drop lo).take (hi - lo):=by
  rw[cx,cx,show hi - lo=(mid - lo)+(hi - mid) by omega,List.take_add,acg,show lo+(mid - lo)=mid by omega]
 have sz:M.size=hi - lo:=by
  have:=hM.1.length_eq;rw[e,aaw,aah] at this;omega
 refine ⟨sz,?_⟩;rw[Array.perm_iff_toList_perm];have ey:(laid lo M.toList 0 xs).toList=xs.toList.take lo++(M.toList++xs.toList.drop hi):=by
  obtain ⟨z1,z2⟩:=zr lo M.toList 0 xs (by omega);apply acd
  intro i;rw[aao,z2,hm,sz];rw[aen,aen,aaw,hm,sz,show min lo xs.toList.length=lo by omega];by_cases g1:i < lo
  ·rw[if_neg (by omega),if_pos g1,aex,if_pos g1,aao]
  ·rw[if_neg g1];by_cases g2:i < hi
   ·rw[if_pos (by omega),if_pos (by omega)];rfl
   ·rw[if_neg (by omega),if_neg (by omega),acp,aao];congr 1
    omega
 rw[ey];have ex:xs.toList=xs.toList.take lo++((xs.toList.drop lo).take (hi - lo)++xs.toList.drop hi):=by
  conv=>lhs;rw[←aba lo xs.toList,←aba (hi - lo) (xs.toList.drop lo),acg,show lo+(hi - lo)=hi by omega]
 conv=>rhs;rw[ex,←e]
 exact acy _ (acr _ hM.1)
theorem K_laid {lo:Nat} {xs M:Array Keyed} (h:lo+M.size≤xs.size) (i:Nat):K (laid lo M.toList 0 xs) i=if lo≤i∧i < lo+M.size then K M (i - lo) else K xs i:=by
 have hm:M.toList.length=M.size:=aag;obtain ⟨z1,z2⟩:=zr lo M.toList 0 xs (by omega);unfold K;rw[z2,hm,Nat.add_zero];by_cases g:lo≤i∧i < lo+M.size
 ·rw[if_pos g,if_pos g,aao]
 ·rw[if_neg g,if_neg g]
theorem seg_of {M:Array Keyed} (h:Srt M.toList):Seg M 0 M.size:=λi j _ h2 h3=>by
 by_cases e:i=j
 ·subst e;exact ac1 _
 have hm:M.toList.length=M.size:=aag;have e1:M[i]?=some M.toList[i]:=by rw[←aao];exact aa0 (by omega)
 have e2:M[j]?=some M.toList[j]:=by rw[←aao];exact aa0 (by omega)
 rw[zh e1,zh e2];exact List.pairwise_iff_getElem.mp h i j (by omega) (by omega) (by omega)
theorem Ik {xs M:Array Keyed} {sa na nb k n2:Nat} (h:sa+na+nb≤xs.size) (hna:1≤na) (hnb:1≤nb) (s1:Seg xs sa (sa+na)) (s2:Seg xs (sa+na) (sa+na+nb)) (hk:k≤na) (hn2:n2≤nb)
  (g1:∀i,i < k→K xs (sa+i)≤K xs (sa+na)) (g2:∀i,n2≤i→i < nb→K xs (sa+na - 1)≤K xs (sa+na+i))
  (hM:Good (xs.extract (sa+k) (sa+na)) (xs.extract (sa+na) (sa+na+n2)) M):
  (laid (sa+k) M.toList 0 xs).Perm xs∧(∀i,i < sa∨sa+na+nb≤i→K (laid (sa+k) M.toList 0 xs) i=K xs i)∧Seg (laid (sa+k) M.toList 0 xs) sa (sa+(na+nb)):=by
 obtain ⟨sz,pm⟩:=Hs (by omega) (by omega) (by omega) hM;have KL:=K_laid (lo:=sa+k) (xs:=xs) (M:=M) (by omega);have sM:=seg_of hM.2;have hl:xs.toList.length=xs.size:=aag;have hm:M.toList.length=M.size:=aag;have from_:∀m,m < M.size→∃j,sa+k≤j∧j < sa+na+n2∧K M m=K xs j:=λm hm'=>by
  have e1:M[m]?=some M.toList[m]:=by rw[←aao];exact aa0 (by omega)
  have mem:M.toList[m]∈M.toList:=ab3 _;have mem:=hM.1.mem_iff.mp mem;rw[zh e1];rcases List.mem_append.mp mem with q | q
  ·rw[cx] at q;obtain ⟨j,j1,j2,j3,e⟩:=mem_mid q;exact ⟨j,by omega,by omega,e⟩
  ·rw[cx] at q;obtain ⟨j,j1,j2,j3,e⟩:=mem_mid q;exact ⟨j,by omega,by omega,e⟩
 refine ⟨pm,λi hi=>by rw[KL,if_neg (by omega)],λi j h1 h2 h3=>?_⟩;have low:∀i j,sa≤i→i < sa+k→i≤j→j < sa+na+nb→K xs i≤K xs j:=λi j h1 h2 h3 h4=>by
  by_cases hj:j < sa+na
  ·exact s1 i j h1 h3 hj
  ·have:=g1 (i - sa) (by omega);rw[show sa+(i - sa)=i by omega] at this;exact abz this (s2 _ j (by omega) (by omega) (by omega))
 have high:∀i j,sa≤i→i≤j→sa+na+n2≤j→j < sa+na+nb→K xs i≤K xs j:=λi j h1 h2 h3 h4=>by
  by_cases hi:i < sa+na
  ·have:=g2 (j - (sa+na)) (by omega) (by omega);rw[show sa+na+(j - (sa+na))=j by omega] at this;exact abz (s1 i _ h1 (by omega) (by omega)) this
  ·exact s2 i j (by omega) h2 (by omega)
 rw[KL,KL];by_cases c1:sa+k≤i∧i < sa+k+M.size
 ·rw[if_pos c1];by_cases c2:sa+k≤j∧j < sa+k+M.size
  ·rw[if_pos c2];exact sM _ _ (by omega) (by omega) (by omega)
  ·rw[if_neg c2];obtain ⟨m,m1,m2,e⟩:=from_ (i - (sa+k)) (by omega);rw[e];exact high m j (by omega) (by omega) (by omega) (by omega)
 ·rw[if_neg c1];by_cases c2:sa+k≤j∧j < sa+k+M.size
  ·rw[if_pos c2];obtain ⟨m,m1,m2,e⟩:=from_ (j - (sa+k)) (by omega);rw[e];exact low i m (by omega) (by omega) (by omega) (by omega)
  ·rw[if_neg c2];by_cases c3:i < sa+k
   ·exact low i j (by omega) c3 h2 (by omega)
   ·exact high i j (by omega) h2 (by omega) (by omega)
theorem Fu (xs:Array Keyed) {i j m:Nat} (hj:j≤xs.size) (hm:m < j - i):K (xs.extract i j) m=K xs (i+m):=by
 have hl:xs.toList.length=xs.size:=aag;unfold K;rw[←aao,cx,aex,if_pos hm,acp,aao]
theorem uf {xs:Array Keyed} (h:IntKeys xs) (i j:Nat):IntKeys (xs.extract i j):=λp hp=>by
 rw[cx] at hp;exact h p (ac7 (abk hp))
theorem tq {xs:Array Keyed} {i j:Nat} (hj:j≤xs.size) (h:Seg xs i j):Seg (xs.extract i j) 0 (xs.extract i j).size:=λx y h1 h2 h3=>by
 rw[adv] at h3;rw[Fu xs hj (by omega),Fu xs hj (by omega)];exact h _ _ (by omega) (by omega) (by omega)
section
variable {prog:Program} {w:World} {A:Around} {E:Value→Shared→Prop} {s:Shared} {a₀:Array Keyed} [LtR prog w A E s]
theorem Du {st:SortSt} {i:Nat} {Q:Bool→SortSt→Prop} {p1 p2:List (Nat×Nat×Nat)} {sa na pw sb nb q:Nat} (h0:IntKeys a₀) (hB:TB a₀ st)
  (hp:(pendingOf st).toList=p1++(sa,na,pw)::(sb,nb,q)::p2) (hi:p1.length=i) (hs:sb=sa+na) (hna:1≤na) (hnb:1≤nb) (hsz:sb+nb≤a₀.size)
  (s1:Seg (arrOf st) sa (sa+na)) (s2:Seg (arrOf st) sb (sb+nb))
  (h:∀st',TB a₀ st'→(pendingOf st').toList=p1++(sa,na+nb,pw)::p2→(∀j,j < sa∨sa+(na+nb)≤j→K (arrOf st') j=K (arrOf st) j)→Seg (arrOf st') sa (sa+(na+nb))→Q true st'):
  wpS (model prog w) A E s (mergeAt' i) Q st:=by
 subst hs;have hx:=IntKeys.perm h0 hB.perm;have hz:=hB.size;have e1:(pendingOf st)[i]?=some (sa,na,pw):=by
  rw[←aao,hp,aac (by omega),hi,acx];rfl
 have e2:(pendingOf st)[i+1]?=some (sa+na,nb,q):=by
  rw[←aao,hp,aac (by omega),hi,show i+1 - i=1 by omega];rfl
 have e3:(((pendingOf st).setIfInBounds i (sa,na+nb,pw)).eraseIdxIfInBounds (i+1)).toList=p1++(sa,na+nb,pw)::p2:=by
  have lp:(pendingOf st).size=i+2+p2.length:=by
   rw[←aag,hp,aa2,aal,aal];omega
  rw[Array.eraseIdxIfInBounds,dif_pos (by rw[ad9];omega),Array.toList_eraseIdx,Array.toList_setIfInBounds,hp];subst hi;rw[aef _ _ (aa6 _),acx,List.eraseIdx_append_of_length_le (by omega),show p1.length+1 - p1.length=1 by omega];rfl
 refine wpS_bind (wpS_get ?_);dsimp only;rw[e1,e2];dsimp only;refine wpS_bind (wp_set ?_);refine wpS_bind (ax (arr:=arrOf st) hx (by omega) λt0 q0 x0 mP0 mR0=>?_);refine wpS_bind (fk (arr:=arrOf st) mP0 mR0 hB.kind hx (by omega) (by omega) s1 λk h1 h2 h3=>?_);dsimp only;have B1:TB a₀ (setPending st (((pendingOf st).setIfInBounds i (sa,na+nb,pw)).eraseIdxIfInBounds (i+1))):=⟨hB.perm,hB.kind,hB.failed⟩;have g1:∀i,i < k→K (arrOf st) (sa+i)≤K (arrOf st) (sa+na):=λi hi=>Fh.mp (h2 i hi);refine bg (λz=>?_) (λz=>?_)
 ·have z:na - k=0:=eq_of_beq z;refine wpS_pure (h _ B1 e3 (λ_ _=>rfl) λx y c1 c2 c3=>?_);show K (arrOf st) x≤K (arrOf st) y
  by_cases c4:y < sa+na
  ·exact s1 x y c1 c2 c4
  ·by_cases c5:x < sa+na
   ·have:=g1 (x - sa) (by omega);rw[show sa+(x - sa)=x by omega] at this;exact abz this (s2 _ y (by omega) (by omega) (by omega))
   ·exact s2 x y (by omega) c2 (by omega)
 rw[beq_iff_eq] at z;refine wpS_bind (ax (arr:=arrOf st) hx (by omega) λt1 q1 x1 mP1 mR1=>?_);refine wpS_bind (fk (arr:=arrOf st) mP1 mR1 hB.kind hx (by omega) (by omega) s2 λn2 k1 k2 k3=>?_);dsimp only;have elast:sa+k+(na - k) - 1=sa+na - 1:=by omega
 rw[elast] at k2 k3;have g2:∀i,n2≤i→i < nb→K (arrOf st) (sa+na - 1)≤K (arrOf st) (sa+na+i):=λi c1 c2=>ml.mp (k3 i c1 c2);refine bg (λz2=>?_) (λz2=>?_)
 ·have z2:n2=0:=eq_of_beq z2;refine wpS_pure (h _ B1 e3 (λ_ _=>rfl) λx y c1 c2 c3=>?_);show K (arrOf st) x≤K (arrOf st) y
  by_cases c4:y < sa+na
  ·exact s1 x y c1 c2 c4
  ·by_cases c5:x < sa+na
   ·have:=g2 (y - (sa+na)) (by omega) (by omega);rw[show sa+na+(y - (sa+na))=y by omega] at this;exact abz (s1 x _ (by omega) (by omega) (by omega)) this
   ·exact s2 x y (by omega) c2 (by omega)
 rw[beq_iff_eq] at z2;have zx:((arrOf st).extract (sa+k) (sa+na)).size=na - k:=by rw[adv];omega
 have zy:((arrOf st).extract (sa+na) (sa+na+n2)).size=n2:=by rw[adv];omega
 have KX:∀m,m < na - k→K ((arrOf st).extract (sa+k) (sa+na)) m=K (arrOf st) (sa+k+m):=λm hm=>Fu _ (by omega) (by omega);have KY:∀m,m < n2→K ((arrOf st).extract (sa+na) (sa+na+n2)) m=K (arrOf st) (sa+na+m):=λm hm=>Fu _ (by omega) (by omega);have sx:Seg (arrOf st) (sa+k) (sa+na):=λx y c1 c2 c3=>s1 x y (by omega) c2 c3;have sy:Seg (arrOf st) (sa+na) (sa+na+n2):=λx y c1 c2 c3=>s2 x y (by omega) c2 (by omega);have hf:K ((arrOf st).extract (sa+na) (sa+na+n2)) 0≤K ((arrOf st).extract (sa+k) (sa+na)) 0:=by
  rw[KX 0 (by omega),KY 0 (by omega)];exact abl (zu.mp (h3 k (by omega) (by omega)))
 have hl:∀j,j < ((arrOf st).extract (sa+na) (sa+na+n2)).size→K ((arrOf st).extract (sa+na) (sa+na+n2)) j≤K ((arrOf st).extract (sa+k) (sa+na)) (((arrOf st).extract (sa+k) (sa+na)).size - 1):=λj hj=>by
  rw[zy] at hj;rw[zx,KX _ (by omega),KY j hj,show sa+k+(na - k - 1)=sa+na - 1 by omega];exact abl (vx.mp (k2 j hj))
 have fin:∀M st',Lk (setPending st (((pendingOf st).setIfInBounds i (sa,na+nb,pw)).eraseIdxIfInBounds (i+1))) st'→Good ((arrOf st).extract (sa+k) (sa+na)) ((arrOf st).extract (sa+na) (sa+na+n2)) M→
   wpS (model prog w) A E s (do
    modify λs=>setArr s (laid (sa+k) M.toList 0 (arrOf s))
    let x ←get
    pure (failedOf x).isNone:StateT SortSt Sem Bool) Q st':=λM st' l g=>by
  obtain ⟨m1,m2,m3⟩:=Ik (by omega) hna hnb s1 s2 h1 k1 g1 g2 g;refine wpS_bind (wpS_modify (wpS_bind (wpS_get ?_)));have ea:arrOf st'=arrOf st:=l.arr;have ef:failedOf st'=none:=l.failed.trans hB.failed;have er:(failedOf (setArr st' (laid (sa+k) M.toList 0 (arrOf st')))).isNone=true:=by
   show (failedOf st').isNone=true
   rw[ef];rfl
  rw[er];refine wpS_pure (h _ ⟨?_,l.kind.trans hB.kind,ef⟩ ?_ ?_ ?_)
  ·show (laid (sa+k) M.toList 0 (arrOf st')).Perm a₀
   rw[ea];exact m1.trans hB.perm
  ·show (pendingOf st').toList=_
   rw[l.pend];exact e3
  ·show ∀j,_→K (laid (sa+k) M.toList 0 (arrOf st')) j=_
   rw[ea];exact λj hj=>m2 j (by omega)
  ·show Seg (laid (sa+k) M.toList 0 (arrOf st')) _ _
   rw[ea];exact m3
 refine bg (λ_=>wpS_bind ?_) (λ_=>wpS_bind ?_)
 ·exact Ey (a:=(arrOf st).extract (sa+k) (sa+na)) (b:=(arrOf st).extract (sa+na) (sa+na+n2)) hB.kind (uf hx _ _) (uf hx _ _) (by omega) (by omega) (tq (by omega) sx) (tq (by omega) sy) hf hl λM st' l g=>fin M st' l g
 ·exact Es (a:=(arrOf st).extract (sa+k) (sa+na)) (b:=(arrOf st).extract (sa+na) (sa+na+n2)) hB.kind (uf hx _ _) (uf hx _ _) (by omega) (by omega) (tq (by omega) sx) (tq (by omega) sy) hf hl λM st' l g=>fin M st' l g
end
end gc
namespace gc
open PySem PyProof.Rows
variable [Rk]
def Runs (xs:Array Keyed):Nat→List (Nat×Nat×Nat)→Nat→Prop
 | lo,[],hi=>lo=hi
 | lo,t::r,hi=>t.1=lo∧1≤t.2.1∧Seg xs lo (lo+t.2.1)∧Runs xs (lo+t.2.1) r hi
theorem Runs.app {xs:Array Keyed} {hi:Nat} {q:List (Nat×Nat×Nat)}:∀{p:List (Nat×Nat×Nat)} {lo:Nat},Runs xs lo (p++q) hi↔∃m,Runs xs lo p m∧Runs xs m q hi
 | [],lo=>⟨λh=>⟨lo,rfl,h⟩,λ⟨m,h1,h2⟩=>by cases h1;exact h2⟩
 | t::p,lo=>by
  show (_∧_∧_∧Runs xs _ (p++q) hi)↔∃m,(_∧_∧_∧Runs xs _ p m)∧_
  rw[Runs.app (p:=p)];exact ⟨λ⟨a,b,c,m,d,e⟩=>⟨m,⟨a,b,c,d⟩,e⟩,λ⟨m,⟨a,b,c,d⟩,e⟩=>⟨a,b,c,m,d,e⟩⟩
theorem Runs.le {xs:Array Keyed} {hi:Nat}:∀{p:List (Nat×Nat×Nat)} {lo:Nat},Runs xs lo p hi→lo+p.length≤hi
 | [],lo,h=>by cases h;exact aa6 _
 | t::p,lo,⟨_,h1,_,h2⟩=>by
  have:=h2.le;rw[aal];omega
theorem Runs.congr {xs ys:Array Keyed} {hi:Nat}:∀{p:List (Nat×Nat×Nat)} {lo:Nat},Runs xs lo p hi→(∀k,lo≤k→k < hi→K ys k=K xs k)→Runs ys lo p hi
 | [],lo,h,_=>h
 | t::p,lo,⟨h0,h1,h2,h3⟩,e=>⟨h0,h1,h2.congr λk k1 k2=>e k k1 (by have:=h3.le;omega),h3.congr λk k1 k2=>e k (by omega) k2⟩
theorem Runs.same {xs:Array Keyed} {hi:Nat}:∀{p q:List (Nat×Nat×Nat)} {lo:Nat},Runs xs lo p hi→q.map (λt=>(t.1,t.2.1))=p.map (λt=>(t.1,t.2.1))→Runs xs lo q hi
 | [],[],lo,h,_=>h
 | [],_::_,lo,h,e=>by cases e
 | _::_,[],lo,h,e=>by cases e
 | t::p,u::q,lo,⟨h0,h1,h2,h3⟩,e=>by
  rw[ab0,ab0,ac6,Prod.mk.injEq] at e;obtain ⟨⟨e1,e2⟩,e3⟩:=e;refine ⟨e1.trans h0,by omega,by rw[e2];exact h2,?_⟩;rw[e2];exact h3.same e3
section
variable {prog:Program} {w:World} {A:Around} {E:Value→Shared→Prop} {s:Shared} {a₀:Array Keyed} [LtR prog w A E s]
theorem qu {st:SortSt} {i hi:Nat} {Q:Bool→SortSt→Prop} (h0:IntKeys a₀) (hB:TB a₀ st) (hr:Runs (arrOf st) 0 (pendingOf st).toList hi) (hhi:hi≤a₀.size) (hi2:i+1 < (pendingOf st).size)
  (h:∀st',TB a₀ st'→(pendingOf st').size+1=(pendingOf st).size→Runs (arrOf st') 0 (pendingOf st').toList hi→(∀j,hi≤j→K (arrOf st') j=K (arrOf st) j)→Q true st'):wpS (model prog w) A E s (mergeAt' i) Q st:=by
 have hl:(pendingOf st).toList.length=(pendingOf st).size:=aag;obtain ⟨⟨sa,na,pw⟩,⟨sb,nb,q⟩,p1,p2,e1,el,el2⟩:∃t u p1 p2,(pendingOf st).toList=p1++t::u::p2∧p1.length=i∧p2.length+i+2=(pendingOf st).size:=by
  refine ⟨(pendingOf st).toList[i],(pendingOf st).toList[i+1],(pendingOf st).toList.take i,(pendingOf st).toList.drop (i+2),?_,by rw[aaw];omega,by rw[aah];omega⟩;conv=>lhs;rw[←aba i (pendingOf st).toList,aav (by omega),aav (by omega)]
 have hr2:=hr;rw[e1,Runs.app] at hr2;obtain ⟨m,r1,⟨q0,q1,q2,t0,t1,t2,r2⟩⟩:=hr2;dsimp only at q0 q1 q2 t0 t1 t2 r2;have ll:=r2.le;subst q0 t0;refine Du h0 hB e1 el rfl q1 t1 (by omega) q2 t2 λst' B' p' k' s'=>?_;refine h st' B' ?_ ?_ λj hj=>k' j (by omega)
 ·have:=congrArg ac0 p';rw[aa2,el,aal,aag] at this;omega
 ·rw[p',Runs.app];have r1':=r1.congr (ys:=arrOf st') λk _ hk=>k' k (.inl hk);refine ⟨_,r1',rfl,by show 1≤_+_;omega,s',?_⟩;have:=r2.congr (ys:=arrOf st') λk hk1 hk2=>k' k (.inr (by omega));rwa [Nat.add_assoc] at this
theorem TB.setP {st:SortSt} {p:Array (Nat×Nat×Nat)} (h:TB a₀ st):TB a₀ (setPending st p):=⟨h.perm,h.kind,h.failed⟩
theorem ite_le (c:Prop) [Decidable c] (n:Nat):(if c then n - 1 else n)≤n:=by split <;> omega
theorem ku {xs:Array Keyed} {p:Array (Nat×Nat×Nat)} {lo n:Nat} (r:Runs xs 0 p.toList lo) (h:1≤n) (s:Seg xs lo (lo+n)):Runs xs 0 (p.push (lo,n,0)).toList (lo+n):=by
 rw[adb,Runs.app];exact ⟨lo,r,rfl,h,s,rfl⟩
theorem qz {xs:Array Keyed} {p:Array (Nat×Nat×Nat)} {lo i pw:Nat} (r:Runs xs 0 p.toList lo):Runs xs 0 (p.modify i λx=>(x.fst,x.2.fst,pw)).toList lo:=by
 refine r.same ?_;apply acd
 intro j;rw[aa7,aa7,aao,Array.getElem?_modify,aao];split
 ·cases p[j]? <;> rfl
 ·rfl
theorem Bz {st:SortSt} {Q:Unit→SortSt→Prop} (h0:IntKeys a₀) (hB:TB a₀ st) (hp:pendingOf st=#[])
  (h:∀st',(arrOf st').Perm a₀→failedOf st'=none→SortedTo (arrOf st') a₀.size→Q () st'):wpS (model prog w) A E s sortRuns' Q st:=by
 rw[sortRuns'_eq];refine wpS_bind (wpS_get ?_);dsimp only;rw[hB.size];refine wpS_bind (wpS_mono (wpS_forRange
  (I:=λx c st'=>∃lo,c=(none,lo)∧TB a₀ st'∧Runs (arrOf st') 0 (pendingOf st').toList lo∧lo≤a₀.size∧min x a₀.size≤lo)
  (Q:=λc st'=>c=(none,a₀.size)∧TB a₀ st'∧Runs (arrOf st') 0 (pendingOf st').toList a₀.size) ?step ?fin ⟨0,rfl,hB,by rw[hp];exact rfl,by omega,by omega⟩) ?post)
 case fin=>
  rintro c st' ⟨lo,rfl,B,r,h1,h2⟩;obtain rfl:lo=a₀.size:=by omega
  exact ⟨rfl,B,r⟩
 case post=>
  rintro c st1 ⟨rfl,B,r⟩;refine wpS_bind (wpS_mono (wpS_forRange (I:=λx c st'=>c=(none,())∧TB a₀ st'∧Runs (arrOf st') 0 (pendingOf st').toList a₀.size∧(pendingOf st').size+x≤a₀.size)
   (Q:=λc st'=>c=(none,())∧TB a₀ st'∧Runs (arrOf st') 0 (pendingOf st').toList a₀.size∧(pendingOf st').size≤1) ?step2 ?fin2 ?init2) ?post2)
  case init2=>
   have:=r.le;rw[aag] at this;exact ⟨rfl,B,r,by omega⟩
  case fin2=>
   rintro c st' ⟨rfl,B,r,h1⟩;exact ⟨rfl,B,r,by omega⟩
  case step2=>
   rintro x c st' _ hx ⟨rfl,B,r,h1⟩;refine wpS_bind (wpS_get ?_);refine bg (λz=>?_) (λz=>?_)
   ·exact wpS_pure ⟨rfl,B,r,z⟩
   ·refine wpS_bind (qu h0 B r (aa6 _) (ad8 (Nat.succ_le_succ (ite_le _ _)) (by omega)) λst2 B2 p2 r2 _=>?_);rw[if_neg (by decide)];exact wpS_pure ⟨rfl,B2,r2,by omega⟩
  case post2=>
   rintro c st' ⟨rfl,B,r,h1⟩;refine wpS_pure (h _ B.perm B.failed λi j hij hj=>?_);have hl:(pendingOf st').toList.length=(pendingOf st').size:=aag;generalize (pendingOf st').toList=p at r hl;cases p with
   | nil=>exact absurd (show 0=a₀.size from r) (by omega)
   | cons t p=>
    cases p with
    | nil=>
     obtain ⟨_,_,sg,e⟩:=r;exact sg i j (by omega) hij (by rw[show 0+t.2.1=a₀.size from e];exact hj)
    | cons u p=>rw[aal,aal] at hl;omega
 case step=>
  rintro x c st1 _ hx ⟨lo,rfl,B1,r1,hlo,hxlo⟩;dsimp only;refine bg (λz=>?_) (λz=>?_)
  ·obtain rfl:lo=a₀.size:=by omega
   exact wpS_pure ⟨rfl,B1,r1⟩
  refine wpS_bind (L4 h0 (by omega) (by omega) B1 λn st2 B2 k2 n1 n2 s2=>?_);dsimp only;have r2:Runs (arrOf st2) 0 (pendingOf st2).toList lo:=by
   rw[k2.pend];exact r1.congr λk _ hk=>k2.low k hk
  refine bg (λz2=>?_) (λz2=>?_)
  ·refine wpS_bind (wpS_lift (wpAny_rule ⟨rfl,?_⟩));have m1:n≤min (a₀.size - lo) (minRun' a₀.size a₀.size 0):=by omega
   have m2:min (a₀.size - lo) (minRun' a₀.size a₀.size 0)≤a₀.size - lo:=by omega
   generalize min (a₀.size - lo) (minRun' a₀.size a₀.size 0)=m at m1 m2 ⊢;refine wpS_bind (G9 h0 (by omega) m1 n1 B2 s2 λst3 B3 k3 s3=>?_);have r3:Runs (arrOf st3) 0 (pendingOf st3).toList lo:=by
    rw[k3.pend];exact r2.congr λk _ hk=>k3.low k hk
   clear r2 s2 B2 k2 k3;have n1:1≤m:=by omega
   rw[if_neg (by decide)];refine wpS_bind (wpS_get ?_);cases hb:(pendingOf st3).back? with
   | none=>
    dsimp only;exact wpS_bind (wpS_modify (wpS_pure ⟨lo+m,rfl,TB.setP B3,ku r3 n1 s3,by omega,by omega⟩))
   | some t=>
    obtain ⟨s1,n1',pw0⟩:=t;dsimp only;refine wpS_bind (wpS_mono (wpS_forRange (I:=λ_ c st'=>c=(none,())∧TB a₀ st'∧Runs (arrOf st') 0 (pendingOf st').toList lo∧Seg (arrOf st') lo (lo+m))
     (Q:=λc st'=>c=(none,())∧TB a₀ st'∧Runs (arrOf st') 0 (pendingOf st').toList lo∧Seg (arrOf st') lo (lo+m)) ?_ (λ_ _ hh=>hh) ⟨rfl,B3,r3,s3⟩) ?_)
    ·rintro y c st3 _ _ ⟨rfl,B3,r3,s3⟩;refine wpS_bind (wpS_get ?_);by_cases hz:(pendingOf st3).size > 1
     ·obtain ⟨⟨o1,o2,o3⟩,ho⟩:∃t,(pendingOf st3)[(pendingOf st3).size - 2]?=some t:=⟨_,getElem?_pos _ _ (by omega)⟩;rw[if_pos hz,ho];dsimp only;refine bg (λ_=>wpS_pure ⟨rfl,B3,r3,s3⟩) (λ_=>?_);refine wpS_bind (qu h0 B3 r3 hlo (by omega) λst4 B4 _ r4 k4=>?_);rw[if_neg (by decide)];exact wpS_pure ⟨rfl,B4,r4,s3.congr λk hk _=>k4 k hk⟩
     ·rw[if_neg hz];exact wpS_pure ⟨rfl,B3,r3,s3⟩
    ·rintro c st3 ⟨rfl,B3,r3,s3⟩;dsimp only;exact wpS_bind (wpS_modify (wpS_bind (wpS_modify (wpS_pure ⟨lo+m,rfl,TB.setP (TB.setP B3),ku (qz r3) n1 s3,by omega,by omega⟩))))
  ·refine wpS_bind (wpS_get ?_);cases hb:(pendingOf st2).back? with
   | none=>
    dsimp only;exact wpS_bind (wpS_modify (wpS_pure ⟨lo+n,rfl,TB.setP B2,ku r2 n1 s2,by omega,by omega⟩))
   | some t=>
    obtain ⟨s1,n1',pw0⟩:=t;dsimp only;refine wpS_bind (wpS_mono (wpS_forRange (I:=λ_ c st'=>c=(none,())∧TB a₀ st'∧Runs (arrOf st') 0 (pendingOf st').toList lo∧Seg (arrOf st') lo (lo+n))
     (Q:=λc st'=>c=(none,())∧TB a₀ st'∧Runs (arrOf st') 0 (pendingOf st').toList lo∧Seg (arrOf st') lo (lo+n)) ?_ (λ_ _ hh=>hh) ⟨rfl,B2,r2,s2⟩) ?_)
    ·rintro y c st3 _ _ ⟨rfl,B3,r3,s3⟩;refine wpS_bind (wpS_get ?_);by_cases hz:(pendingOf st3).size > 1
     ·obtain ⟨⟨o1,o2,o3⟩,ho⟩:∃t,(pendingOf st3)[(pendingOf st3).size - 2]?=some t:=⟨_,getElem?_pos _ _ (by omega)⟩;rw[if_pos hz,ho];dsimp only;refine bg (λ_=>wpS_pure ⟨rfl,B3,r3,s3⟩) (λ_=>?_);refine wpS_bind (qu h0 B3 r3 hlo (by omega) λst4 B4 _ r4 k4=>?_);rw[if_neg (by decide)];exact wpS_pure ⟨rfl,B4,r4,s3.congr λk hk _=>k4 k hk⟩
     ·rw[if_neg hz];exact wpS_pure ⟨rfl,B3,r3,s3⟩
    ·rintro c st3 ⟨rfl,B3,r3,s3⟩;dsimp only;exact wpS_bind (wpS_modify (wpS_bind (wpS_modify (wpS_pure ⟨lo+n,rfl,TB.setP (TB.setP B3),ku (qz r3) n1 s3,by omega,by omega⟩))))
end
end gc
namespace L2.Srt
open PySem PySem.W PyProof.Rows
theorem Ie {α β:Type} {f:α→β} {l m:List β} (h:l.Perm m):∀r:List α,m=r.map f→∃is:List α,is.Perm r∧l=is.map f:=by
 induction h with
 | nil=>
  intro r e;cases r with
  | nil=>exact ⟨[],.refl _,rfl⟩
  | cons a r=>cases e
 | cons x p ih=>
  intro r e;cases r with
  | nil=>cases e
  | cons a r=>
   rw[ab0] at e;injection e with e1 e2
   obtain ⟨is,p1,rfl⟩:=ih r e2;exact ⟨a::is,p1.cons a,by rw[e1];rfl⟩
 | swap x y l=>
  intro r e;match r,e with
  | a::b::r,e=>
   rw[ab0,ab0] at e;injection e with e1 e2
   injection e2 with e2 e3
   exact ⟨b::a::r,List.Perm.swap a b r,by rw[e1,e2,e3];rfl⟩
 | trans p q ih1 ih2=>
  intro r e;obtain ⟨js,p1,e1⟩:=ih2 r e;obtain ⟨is,p2,e2⟩:=ih1 js e1;exact ⟨is,p2.trans p1,e2⟩
open Classical in
noncomputable def rho (vs:List Value) (r:Nat→Int) (x:Value):Int:=if h:∃i,i < vs.length∧vs.getD i Value.none=x then r (Classical.choose h) else 0
theorem Dy {vs:List Value} {r:Nat→Int} (hr:∀i j,i < vs.length→j < vs.length→vs.getD i Value.none=vs.getD j Value.none→r i=r j) {i:Nat} (hi:i < vs.length):rho vs r (vs.getD i Value.none)=r i:=by
 have h:∃j,j < vs.length∧vs.getD j Value.none=vs.getD i Value.none:=⟨i,hi,rfl⟩;unfold rho;rw[dif_pos h];exact hr _ _ (aeh h).1 hi (aeh h).2
@[reducible] noncomputable def rkOf (vs:List Value) (r:Nat→Int) (κ:SortKind):gc.Rk:=⟨rho vs r,λx=>∃i,i < vs.length∧vs.getD i Value.none=x,κ⟩
theorem ltR_of {prog:Program} {w:World} {A:Around} {E:Value→Shared→Prop} {s:Shared} {vs:List Value} {r:Nat→Int} {κ:SortKind} (hr:∀i j,i < vs.length→j < vs.length→vs.getD i Value.none=vs.getD j Value.none→r i=r j)
  (hc:Cmp (kas_ask prog w A κ vs) vs.length r s):@gc.LtR (rkOf vs r κ) prog w A E s:=by
 letI:=rkOf vs r κ
 refine ⟨λst x y p q Q hx hy hk h=>?_⟩;obtain ⟨i,hi,rfl⟩:=hx;obtain ⟨j,hj,rfl⟩:=hy;rw[lt'_eq];refine wpS_bind (wpS_get ?_);rw[hk];refine wpS_bind (wpS_lift (wpAny_attempt ?_));have e1:(gc.Rk.ρ (vs.getD i Value.none):Int)=r i:=Dy hr hi;have e2:(gc.Rk.ρ (vs.getD j Value.none):Int)=r j:=Dy hr hj;rw[e1,e2] at h;have g:=hc i j (λb s'=>s'=s∧b=decide (r i < r j)) hi hj ⟨rfl,rfl⟩;refine wpAny_mono g (λb s' z=>?_) λ_ _ z=>z.elim;obtain ⟨rfl,rfl⟩:=z;exact ⟨rfl,wpS_pure h⟩
section
variable {prog:Program} {w:World} {A:Around} {E:Value→Shared→Prop} {s:Shared} {r:Nat→Int}
theorem vf {a:Addr} {vs:List Value} {n:Nat} {P:PySem.Fin→Shared→Prop} (ho:s.heap.get? a=some (seqObj "list" vs.toArray n)) (hz:vs.length≤sizeLine)
  (hr:∀i j,i < vs.length→j < vs.length→vs.getD i Value.none=vs.getD j Value.none→r i=r j)
  (ask:2≤vs.length→wpAny (model prog w) A (keyKind' vs.toArray) (λκ s'=>s'={ s with heap:=de s.heap a vs }∧Cmp (kas_ask prog w A κ vs) vs.length r { s with heap:=de s.heap a vs }) (λ_ _=>False) { s with heap:=de s.heap a vs })
  (h:∀is:List Nat,is.Perm (aat vs.length)→(∀i j,i≤j→j < vs.length→r (is.getD i 0)≤r (is.getD j 0))→P (.done (.ret .none)) { s with heap:=sortedHeap s.heap a vs (adn (is.map λi=>vs.getD i Value.none)) }):
  wpAny (model prog w) A (Builtin.«list.sort» ⟨[.ref a],[]⟩) P E s:=by
 rw[list_sort_plain];have ha:a < s.heap.objs.size:=Heap.lt_size ho;refine wpAny_bind (listItems_at ho rfl ?_);refine wpAny_bind (listUpdate_at ho rfl ?_ (by rw[aa5];exact hz) (aa8 _));obtain ⟨e1,ho1⟩:∃e1,(s.heap.update a (Obj.mapSeq λ_=>#[])).get? a=some (seqObj "list" #[] e1):=⟨_,get?_update_seq ho (λ_=>#[])⟩;refine wpAny_bind (seqEpoch_at ho1 rfl ?_);refine wpAny_bind (wpAny_newTuple ?_ hz);refine wpAny_bind (wpAny_newList ?_ (aa8 _));refine wpAny_holding ?_;have ho6:(de s.heap a vs).get? a=some (seqObj "list" #[] e1):=by
  unfold de;rw[Heap.get?_push_ne _ _ _ (by rw[size_push',Heap.size_update];exact aaf (ady ha)),Heap.get?_push_ne _ _ _ (by rw[Heap.size_update];exact aaf ha)];exact ho1
 show wpAny (model prog w) A _ P E { s with heap:=de s.heap a vs }
 dsimp only;have big:∀u:SortSt,(arrOf u).Perm (pairsOf vs)→((arrOf u).map (·.2)).size≤sizeLine:=λu pu=>by
  rw[Array.size_map,pu.size_eq,pairsOf_size];exact hz
 have er:vs=(aat vs.length).map λi=>vs.getD i Value.none:=by
  refine ae6 (by rw[aa1,abd]) λi h1 h2=>?_;rw[ae7,aey,aa4,aa0 h1];rfl
 have ends:∀(κ:SortKind) (u:SortSt),(arrOf u).Perm (pairsOf vs)→@gc.SortedTo (rkOf vs r κ) (arrOf u) (pairsOf vs).size→P (.done (.ret .none)) { s with heap:=sortedHeap s.heap a vs ((arrOf u).map (·.2)) }:=λκ u pu su=>by
  have hl:(arrOf u).toList.Perm (vs.zip vs):=by rw[←pairsOf_toList];exact Array.perm_iff_toList_perm.mp pu
  have two:∀q∈(arrOf u).toList,q.1=q.2:=λq hq=>by
   have hm:=hl.mem_iff.mp hq;obtain ⟨i,hi,e⟩:=List.mem_iff_getElem.mp hm;rw[afb] at e;rw[←e]
  have h2:((arrOf u).toList.map (·.2)).Perm vs:=by
   have:=hl.map (·.2);rw[List.map_snd_zip (aa6 _)] at this;exact this
  obtain ⟨is,p1,e⟩:=Ie h2 (aat vs.length) er;have hlen:is.length=vs.length:=by rw[p1.length_eq,abd]
  have key:∀i,i < vs.length→@gc.K (rkOf vs r κ) (arrOf u) i=r (is.getD i 0):=λi hi=>by
   have hs:i < (arrOf u).size:=by rw[pu.size_eq,pairsOf_size];exact hi
   have e1:(arrOf u)[i]?=some (arrOf u)[i]:=getElem?_pos _ i hs;have hi2:i < is.length:=by omega
   have e2:(arrOf u)[i].2=vs.getD (is.getD i 0) Value.none:=by
    have:=congrArg (λl=>l[i]?) e;simp only[aa7,aao,e1,aa0 hi2,abw,ae1] at this;rw[this,aa4 (l:=is),aa0 hi2];rfl
   have hin:is.getD i 0 < vs.length:=by
    have:is[i]∈aat vs.length:=p1.mem_iff.mp (ab3 hi2);rw[aa4,aa0 hi2];exact List.mem_range.mp this
   unfold gc.K;rw[e1];show rho vs r (arrOf u)[i].1=_
   rw[two _ (Array.mem_toList_iff.mpr (Array.getElem_mem hs)),e2];exact Dy hr hin
  have eo:(arrOf u).map (·.2)=adn (is.map λi=>vs.getD i Value.none):=by
   apply Array.toList_inj.mp
   rw[Array.toList_map,e]
  rw[eo];refine h is p1 λi j hij hj=>?_;rw[←key i (by omega),←key j hj];exact su i j hij (by rw[pairsOf_size];exact hj)
 by_cases h2:vs.toArray.size < 2
 ·rw[if_pos h2,if_pos h2];refine wpAny_bind (wpAny_pure ?_);rw[StateT.run_pure];refine wpAny_bind (wpAny_pure ?_);dsimp only;have p0:(arrOf (SortSt.mk' general' (vs.toArray.zip vs.toArray) #[] 7 none)).Perm (pairsOf vs):=afh _;refine wpAny_bind (seqEpoch_at ho6 rfl ?_);refine wpAny_bind (listUpdate_at ho6 rfl ?_ (aa8 _) (aay (big _ p0) (by omega)));simp only[bne_self_eq_false,aaz,if_false];refine wpAny_pure (ends general' _ p0 λi j hij hj=>?_);rw[pairsOf_size] at hj;rw[aa5] at h2;have:i=j:=by omega
  subst this;exact ac1 _
 ·rw[if_neg h2,if_neg h2];rw[aa5] at h2;refine wpAny_bind (wpAny_mono (ask (by omega)) (λκ s0 hk=>?_) λ_ _ x=>x.elim);obtain ⟨rfl,hc⟩:=hk;letI:=rkOf vs r κ
  haveI:gc.LtR prog w A E { s with heap:=de s.heap a vs }:=ltR_of hr hc
  have keys:gc.IntKeys (pairsOf vs):=λq hq=>by
   rw[pairsOf_toList] at hq;obtain ⟨i,hi,e⟩:=List.mem_iff_getElem.mp hq;rw[afb] at e;have hi':i < vs.length:=by rw[ado] at hi;omega
   refine ⟨i,hi',?_⟩;rw[←e,aa4,aa0 hi'];rfl
  refine wpAny_bind (wpAny_mono (gc.Bz (a₀:=pairsOf vs) (st:=SortSt.mk' κ (vs.toArray.zip vs.toArray) #[] 7 none)
   (Q:=λ_ u=>(arrOf u).Perm (pairsOf vs)∧failedOf u=none∧gc.SortedTo (arrOf u) (pairsOf vs).size) keys ⟨afh _,rfl,rfl⟩ rfl λu b1 b2 b3=>⟨b1,b2,b3⟩) ?_ λ_ _ e=>e)
  rintro ⟨⟨⟩,u⟩ s' ⟨rfl,pu,fu,su⟩;dsimp only;refine wpAny_bind (seqEpoch_at ho6 rfl ?_);refine wpAny_bind (listUpdate_at ho6 rfl ?_ (aa8 _) (aay (big _ pu) (by omega)));rw[fu];simp only[bne_self_eq_false,aaz,if_false];exact wpAny_pure (ends κ u pu su)
theorem Qh {l:Addr} {vs:List Value} {Q:Value→Shared→Prop} (hl:s.heap.IsList l vs.toArray∨s.heap.IsTuple l vs.toArray) (sz:vs.length≤sizeLine)
  (hr:∀i j,i < vs.length→j < vs.length→vs.getD i Value.none=vs.getD j Value.none→r i=r j)
  (ask:2≤vs.length→wpAny (model prog w) A.in1.in1 (keyKind' vs.toArray) (λκ s'=>s'={ s with heap:=de (eh s.heap vs) (s.heap.objs.size+1) vs }∧Cmp (kas_ask prog w A.in1.in1 κ vs) vs.length r { s with heap:=de (eh s.heap vs) (s.heap.objs.size+1) vs }) (λ_ _=>False) { s with heap:=de (eh s.heap vs) (s.heap.objs.size+1) vs })
  (h:∀is:List Nat,is.Perm (aat vs.length)→(∀i j,i≤j→j < vs.length→r (is.getD i 0)≤r (is.getD j 0))→Q (.ref (s.heap.objs.size+1)) { s with heap:=sortedAll s.heap vs (adn (is.map λi=>vs.getD i Value.none)) }):
  wpAny (model prog w) A (call (.builtin "sorted") [.ref l]) Q E s:=by
 refine Calls.call_function_entry kind_sorted plain_sorted entry_sorted (args_sorted1 _) ?_;unfold Builtin.«sorted»;refine wpAny_bind (m:=checkCount "sorted" 1 1 _) (wpAny_pure ?_);have go:∀{Q':List Value→Shared→Prop},Q' vs { s with heap:=(s.heap.push (seqObj "list" #[] 0)).update s.heap.objs.size (Obj.mapSeq (·++vs.toArray)) }→wpAny (model prog w) A.in1 (collect (.ref l)) Q' E s:=λ{Q'} q=>by
  rcases hl with hl | hl
  ·exact collect_list hl q sz
  ·exact Bd hl q sz
 refine wpAny_bind (go ?_);refine wpAny_bind (wpAny_newList ?_ sz);have hsz:((s.heap.push (seqObj "list" #[] 0)).update s.heap.objs.size (Obj.mapSeq (·++vs.toArray))).objs.size=s.heap.objs.size+1:=by
  rw[Heap.size_update,size_push']
 have hoL:(eh s.heap vs).get? (s.heap.objs.size+1)=some (seqObj "list" vs.toArray 0):=by
  unfold eh;rw[←hsz];exact Heap.get?_push_size _ rfl
 show wpAny _ _ _ _ _ { s with heap:=eh s.heap vs }
 rw[hsz];refine wpAny_bind (wpAny_holding (wpAny_call_entry slot_list_sort ⟨_,hoL,rfl⟩ entry_list_sort (vf (s:={ s with heap:=eh s.heap vs }) hoL sz hr ask λp hp hi=>⟨_,rfl,?_⟩) (args_list_sort _)));exact wpAny_pure ⟨_,rfl,h p hp hi⟩
end
end L2.Srt
namespace L2
open PySem PySem.Spec PyProof.Rows Srt
section
variable {X:Cx}
theorem og:gw X (.builtin "sorted") (λxs H Q=>∃p ys rk,xs=[.ref p]∧(SqL X.K H p ys∨SqT X.K H p ys)∧ys.length≤100000∧En X.prog X.w X.A.in1.in1 H ys rk∧(∀i j,i < ys.length→j < ys.length→ys.getD i .non=ys.getD j .non→rk i=rk j)∧
  ∀(l:Addr) (is:List Nat),is.Perm (aat ys.length)→(∀i j,i≤j→j < ys.length→rk (is.getD i 0)≤rk (is.getD j 0))→H l=none→Q (.ref l) (upd H l (.lst (is.map λi=>ys.getD i .non)))):=by
 intro pins s σ H xs us Q I r h;obtain ⟨p,ys,rk,rfl,hq,h64,ho,hal,q⟩:=h;obtain ⟨u,rfl,rx⟩:=vals1 r;cases rx
 have sz:=sizeLine_eq;obtain ⟨its,r',hl⟩:∃its,Vals ys its∧(s.heap.IsList p its.toArray∨s.heap.IsTuple p its.toArray):=by
  rcases hq with hq | hq
  ·obtain ⟨its,r',pl,_⟩:=I.list hq;exact ⟨its,r',.inl pl.isList⟩
  ·obtain ⟨its,r',pl,_⟩:=I.tuple hq;exact ⟨its,r',.inr pl⟩
 have hlen:=r'.length;have at':∀i,i < ys.length→RelV (ys.getD i .non) (its.getD i Value.none):=λi hi=>by
  obtain ⟨u,hu,ru⟩:=r'.get (aa0 hi);rw[aa4,aa0 hi,aa4,hu];exact ru
 refine Qh (r:=rk) hl (by omega) (λi j hi hj e=>?_) (λh2=>?_) λis hp hi=>?_
 ·have h1:=at' i (by omega);have h2:=at' j (by omega);rw[e] at h1;exact hal i j (by omega) (by omega) (h1.inj h2)
 ·exact ho { s with heap:=de (eh s.heap its) (s.heap.objs.size+1) its } its (I.hok.kept λb o e=>Nr e) r' h2
 ·obtain ⟨e,he⟩:=sortedAll_at s.heap its (adn (is.map λi=>its.getD i Value.none));have hp':is.Perm (aat ys.length):=by rw[hlen];exact hp
  have hin:∀i∈is,i < ys.length:=λi hi=>List.mem_range.mp (hp'.mem_iff.mp hi);have hz:(is.map λi=>ys.getD i V.non).length≤sizeLine:=by
   rw[aa1,hp'.length_eq,abd];omega
  exact ⟨.ref (s.heap.objs.size+1),_,I.laid (t':=s.toks) (λb o e=>sortedAll_old e) (Nat.le_succ _) (show br X.prog X.w _ _ _ (.lst (is.map λi=>ys.getD i V.non)) from ⟨hz,_,e,qm r' _ hin,he⟩),rfl,q _ _ hp' (λi j hij hj=>hi i j hij (by omega)) (I.hok.fresh (Nat.le_succ _))⟩
end
end L2
namespace L2
open PySem PySem.Spec PyProof.Rows Srt
theorem b_max:bootBuiltins "max"=some (.builtin "max"):=by decide+kernel
section
variable {X:Cx}
end
end L2
namespace L2.Srt
open PySem PySem.W PyProof.Rows PySem.Spec Itm
section
variable {prog:Program} {w:World} {A:Around} {E:Value→Shared→Prop} {s:Shared} {d:Addr} {es:Array DictEntry} {ep:Nat} {o:Obj}
theorem Raw.at' {h h':Heap} (r:Raw h d es ep o) (k:∀o,h.get? d=some o→h'.get? d=some o):Raw h' d es ep o:=⟨k _ r.there,r.exact',r.data⟩
theorem Hd (hh:A.handled=none) (I:Addr) (hne:d≠I) (hd:(d==sysModules)=false):
  Walks prog w A I [I,d] [I] es.size (λi v=>∃e,es[i]?=some e∧v=e.key) (λi h=>h.IsKeyIter I d i es.size ep∧Raw h d es ep o) where
 sub:=λb hb=>by simp at hb;simp[hb]
 frame:=λi h h' st hk=>by
  obtain ⟨⟨oi,ho,hc,hf⟩,r⟩:=st;exact ⟨⟨oi,hk I (by simp) _ ho,hc,hf⟩,Raw.at' r λo e=>hk d (by simp) o e⟩
 item:=λi s Q E hi st hQ=>by
  obtain ⟨hit,r⟩:=st;refine yw hit r (abn hi) λh' st' sb=>?_;exact hQ _ h' s.toks ⟨_,abn hi,rfl⟩ ⟨st',Raw.at' r λo e=>(sb.2 d hne).trans e⟩ λb o hb e=>(sb.2 b (λz=>hb (by rw[z];exact List.mem_singleton.mpr rfl))).trans e
 done:=λs Q E st hQ=>by
  obtain ⟨hit,r⟩:=st;refine Ca hh hit r (aa6 _) λh' eb=>hQ h' s.toks λb o hb e=>eb b o (λz=>hb (by rw[z];exact List.mem_singleton.mpr rfl)) e
 self:=λi s Q E st h=>wpAny_pyIter_keyiter st.1 h
theorem P8 (hd:(d==sysModules)=false):KdlSrc prog w "dict" d d es.size (λi v=>∃e,es[i]?=some e∧v=e.key) (λh=>Raw h d es ep o) where
 type:=λ_ r=>Raw.typeIs r
 there:=λ_ r=>⟨Heap.lt_size r.there,Heap.lt_size r.there⟩
 keep:=λ_ _ r hk=>Raw.at' r λo e=>hk d (.inl rfl) o e
 notList:=by decide
 notTuple:=by decide
 hint:=λ_ _ _ _ r hq=>kdl_hint_dict (Raw.typeIs r) hq
 iter:=λ_ _ hh r=>⟨_,_,(λ_ _ hq=>x5 hd r hq),Hd hh _ (aaf (Heap.lt_size r.there)) hd,⟨⟨_,Heap.get?_push_size _ rfl,rfl,rfl⟩,Raw.at' r λo e=>Heap.get?_push_of_some _ e⟩⟩
theorem Bs {Q:List Value→Shared→Prop} (hd:(d==sysModules)=false) (r:Raw s.heap d es ep o) (hh:A.handled=none) (hsz:es.size≤sizeLine)
  (h:∀h' tk (acc:Array Value),(∀b o,s.heap.get? b=some o→h'.get? b=some o)→s.heap.objs.size < h'.objs.size→ItemsOf (λi v=>∃e,es[i]?=some e∧v=e.key) acc es.size→Q acc.toList { s with heap:=h',toks:=tk }):
  wpAny (model prog w) A (collect (.ref d)) Q E s:=by
 have hdl:d < s.heap.objs.size:=Heap.lt_size r.there;have pl:plainId "list.__iadd__"=true:=by decide+kernel
 have key:∀R:Result→Shared→Prop,(∀h' tk (acc:Array Value) c,(∀b o,b≠s.heap.objs.size→(s.heap.push (seqObj "list" #[] 0)).get? b=some o→h'.get? b=some o)→h'.get? s.heap.objs.size=some { cls:=.type "list",dict:=none,data:=.seq acc c,slots:=#[] }→
   ItemsOf (λi v=>∃e,es[i]?=some e∧v=e.key) acc es.size→R (.ok (.ret (.ref s.heap.objs.size))) { s with heap:=h',toks:=tk })→
   codeAny (model prog w) A (.builtin "list.__iadd__" ⟨[.ref s.heap.objs.size,.ref d],[]⟩) R { s with heap:=s.heap.push (seqObj "list" #[] 0) }:=by
  intro R hR;refine codeAny_builtin entry_list_iadd' ?_;rw[Around.under_plainId pl _];exact kdl_extend (s:={ s with heap:=s.heap.push (seqObj "list" #[] 0) }) (P8 hd) hh (Raw.at' r λo e=>Heap.get?_push_of_some _ e) s.heap.objs.size (abq hdl) (abq hdl) _ 0 (Heap.get?_push_size _ rfl) (λh' tk acc c hk hS hacc=>hR h' tk acc c hk hS hacc) hsz
 unfold collect;refine wpAny_bind (wpAny_runValue (codeAny_builtin entry_proto_collect' ?_));show wpAny _ _ (newList [] >>=λv=>again (.builtin "list.__iadd__" ⟨[v,.ref d],[]⟩)) _ _ s
 refine wpAny_bind (wpAny_newList (wpAny_pure ⟨Code.quiet_builtin _ (by decide+kernel),key _ λh' tk acc c hk hS hacc=>?_⟩));refine wpAny_bind (wpAny_load hS ?_);exact wpAny_pure (h h' tk acc (λb o e=>hk b o (aaf (Heap.lt_size e)) (Heap.get?_push_of_some _ e)) (Heap.lt_size hS) hacc)
end
end L2.Srt
namespace L2
open PySem PySem.Spec PyProof.Rows Srt Itm
section
variable {X:Cx}
theorem getD_map {α β:Type} (f:α→β) (l:List α) (i:Nat) (d:α) (d':β) (h:i < l.length):(l.map f).getD i d'=f (l.getD i d):=by
 rw[aa4,aa7,aa4,aa0 h];rfl
theorem om (hc:X.calm=true):gw X (.builtin "sorted") (λxs H Q=>∃p kvs,xs=[.ref p]∧H p=some (.dT kvs)∧kvs.length≤100000∧
  ∀ts:List Addr,ts.length=kvs.length→(∀(i:Nat) (k:List Key) (v:V),kvs[i]?=some (k,v)→∃t,ts[i]?=some t∧H t=some (.tup (k.map kV)))→∃rk,En X.prog X.w X.A.in1.in1 H (ts.map V.ref) rk∧(∀i j,i < ts.length→j < ts.length→ts.getD i 0=ts.getD j 0→rk i=rk j)∧
  ∀(l:Addr) (is:List Nat),is.Perm (aat ts.length)→(∀i j,i≤j→j < ts.length→rk (is.getD i 0)≤rk (is.getD j 0))→H l=none→Q (.ref l) (upd H l (.lst (is.map λi=>V.ref (ts.getD i 0))))):=by
 intro pins s σ H xs us Q I r h;obtain ⟨p,kvs,rfl,hp,h64,q⟩:=h;obtain ⟨u,rfl,rx⟩:=vals1 r;cases rx
 have sz:=sizeLine_eq;obtain ⟨o,es,ep,hdat,raw,I2⟩:=I.Fx hp;have hd:=(J4 I.hok hp).2.1;obtain ⟨es',ep',hdat',raw',hsz,get⟩:=Aa I2.hok (show upd H p (.frz o (.dT kvs)) p=some (.frz o (.dT kvs)) from ae);rw[hdat] at hdat';cases hdat'
 obtain ⟨ts,tl,ht⟩:∃ts:List Addr,ts.length=kvs.length∧∀(i:Nat) (k:List Key) (v:V),kvs[i]?=some (k,v)→∃t,ts[i]?=some t∧H t=some (.tup (k.map kV))∧∃u j,es[i]?=some ⟨j,.ref t,u⟩:=by
  refine ⟨(aat kvs.length).map λi=>match (es[i]?).map (λe:DictEntry=>e.key) with | some (Value.ref t)=>t | _=>0,by rw[aa1,abd],λi k v hi=>?_⟩;obtain ⟨t,u,j,e1,e2,e3⟩:=get i k v hi;have hil:=(List.getElem?_eq_some_iff.mp hi).1;refine ⟨t,?_,?_,u,j,e1⟩
  ·rw[aa7,adq hil];show some (match (es[i]?).map (λe:DictEntry=>e.key) with | some (Value.ref t)=>t | _=>0)=some t
   rw[e1];rfl
  ·have:t≠p:=λz=>by rw[z,ae] at e2;cases e2
   rw[af this] at e2;exact e2
 obtain ⟨rk,ho,hal,q⟩:=q ts tl λi k v hi=>by
  obtain ⟨t,a,b,_⟩:=ht i k v hi;exact ⟨t,a,b⟩
 refine Calls.call_function_entry kind_sorted plain_sorted entry_sorted (args_sorted1 _) ?_;unfold Builtin.«sorted»;refine wpAny_bind (m:=checkCount "sorted" 1 1 _) (wpAny_pure ?_);refine wpAny_bind (Bs hd raw (I.ok.hd hc) (by omega) λh1 tk acc keep hlt1 hacc=>?_);have el:acc.toList.length=ts.length:=by rw[show acc.toList.length=acc.size from aag,hacc.1];omega
 have ev:acc.toList=ts.map Value.ref:=by
  refine ae6 (by rw[aa1,el]) λi hi1 hi2=>?_;have hik:i < kvs.length:=by omega
  obtain ⟨t,a,b,u,j,c⟩:=ht i kvs[i].1 kvs[i].2 (aa0 hik);have hia:i < acc.size:=by rw[hacc.1];omega
  obtain ⟨e,h2,h3⟩:=hacc.2 i acc[i] (abn hia);rw[c] at h2;cases h2
  rw[ae7,Array.getElem_toList,h3];show Value.ref t=Value.ref ts[i]
  rw[aa0 (by omega)] at a;rw[aa3 a]
 have va:Vals (ts.map V.ref) acc.toList:=by rw[ev];exact qj ts
 refine wpAny_bind (wpAny_newList ?_ (by omega));have hoL:(h1.push (seqObj "list" acc.toList.toArray 0)).get? h1.objs.size=some (seqObj "list" acc.toList.toArray 0):=Heap.get?_push_size _ rfl;have mo:∀b o,s.heap.get? b=some o→(de (h1.push (seqObj "list" acc.toList.toArray 0)) h1.objs.size acc.toList).get? b=some o:=λb o e=>by
  have hb:=keep b o e;have hlt:b < h1.objs.size:=Heap.lt_size hb;have s1:(h1.push (seqObj "list" acc.toList.toArray 0)).objs.size=h1.objs.size+1:=size_push' _ _;unfold de;rw[Heap.get?_push_ne _ _ _ (by rw[size_push',Heap.size_update,s1];exact aaf (aam hlt (by omega))),Heap.get?_push_ne _ _ _ (by rw[Heap.size_update,s1];exact aaf (aam hlt (by omega))),Heap.get?_update_ne _ _ _ _ (aaf hlt),Heap.get?_push_ne _ _ _ (aaf hlt)];exact hb
 have gd:∀i,i < ts.length→acc.toList.getD i Value.none=.ref (ts.getD i 0):=λi hi=>by rw[ev,getD_map Value.ref ts i 0 Value.none hi]
 refine wpAny_bind (wpAny_holding (wpAny_call_entry slot_list_sort ⟨_,hoL,rfl⟩ entry_list_sort (vf (r:=rk) hoL (by omega) (λi j hi hj e=>?_) (λh2=>ho _ _ (I.hok.kept mo) va h2) λis hp' hi=>⟨_,rfl,?_⟩) (args_list_sort _)))
 ·rw[gd i (by omega),gd j (by omega)] at e;exact hal i j (by omega) (by omega) (Value.ref.inj e)
 refine wpAny_pure ⟨_,rfl,?_⟩;have hz1:s.heap.objs.size≤h1.objs.size:=ac4 hlt1;obtain ⟨e,he⟩:=Hx (h:=h1) (vs:=acc.toList) (out:=adn (is.map λi=>acc.toList.getD i Value.none));rw[el] at hp';have hin:∀i∈is,i < (ts.map V.ref).length:=λi hi=>by rw[aa1];exact List.mem_range.mp (hp'.mem_iff.mp hi)
 have hz:(is.map λi=>(ts.map V.ref).getD i V.non).length≤sizeLine:=by
  rw[aa1,hp'.length_eq,abd];omega
 have eq:(is.map λi=>(ts.map V.ref).getD i V.non)=is.map λi=>V.ref (ts.getD i 0):=adp λi hi=>getD_map V.ref ts i 0 V.non (List.mem_range.mp (hp'.mem_iff.mp hi));rw[eq] at hz;refine ⟨.ref h1.objs.size,_,I.laid (λb o e=>Cz (keep b o e)) hz1 (show br X.prog X.w _ _ _ (.lst (is.map λi=>V.ref (ts.getD i 0))) from ⟨hz,_,e,by rw[←eq];exact qm va _ hin,he⟩),rfl,q _ _ hp' (λi j hij hj=>hi i j hij (by omega)) (I.hok.fresh hz1)⟩
end
end L2
namespace L2.Srt
open PySem PySem.W PyProof.Rows
theorem km {M:Model} {h:Heap} {T:Value}:∀(vs:List Value),(∀v∈vs,∃a o xs n f,v=Value.ref a∧h.get? a=some o∧o.cls=.type "tuple"∧o.data=.seq xs n∧xs[0]?=some f∧Looks M h (typeOf f) T)→
  ∃fs,KatTups h vs fs∧fs.length=vs.length∧∀f∈fs,Looks M h (typeOf f) T
 | [],_=>⟨[],trivial,rfl,λ_ h=>nomatch h⟩
 | v::vs,hv=>by
  obtain ⟨fs,k,e,l⟩:=km vs λu hu=>hv u (aaj _ hu);obtain ⟨a,o,xs,n,f,ev,ho,hc,hd,hf,hl⟩:=hv v aan;refine ⟨f::fs,⟨⟨a,o,xs,n,ev,ho,hc,hd,hf⟩,k⟩,by rw[aal,aal,e],λg hg=>?_⟩;rcases List.mem_cons.mp hg with rfl | hg
  ·exact hl
  ·exact l g hg
end L2.Srt
namespace L2
open PySem PySem.Spec PyProof.Rows Srt
noncomputable def ltK (a b:Int×Str):Bool:=if a.1=b.1 then ltS a.2 b.2 else decide (a.1 < b.1)
theorem t4 (a:Int×Str):ltK a a=false:=by
 unfold ltK;rw[if_pos rfl,lg]
theorem sv (a b:Int×Str):ltK a b=true∨a=b∨ltK b a=true:=by
 obtain ⟨a1,a2⟩:=a;obtain ⟨b1,b2⟩:=b;unfold ltK;dsimp only;by_cases e:a1=b1
 ·subst e;rw[if_pos rfl,if_pos rfl];rcases zz a2 b2 with h | h | h
  ·exact .inl h
  ·exact .inr (.inl (by rw[h]))
  ·exact .inr (.inr h)
 ·rw[if_neg e,if_neg λz=>e z.symm];by_cases h:a1 < b1
  ·exact .inl (decide_eq_true h)
  ·exact .inr (.inr (decide_eq_true (by omega)))
theorem qf {a b c:Int×Str} (h1:ltK a b=true) (h2:ltK b c=true):ltK a c=true:=by
 obtain ⟨a1,a2⟩:=a;obtain ⟨b1,b2⟩:=b;obtain ⟨c1,c2⟩:=c;unfold ltK at h1 h2 ⊢;dsimp only at h1 h2 ⊢;by_cases e1:a1=b1
 ·subst e1;rw[if_pos rfl] at h1;by_cases e2:a1=c1
  ·rw[if_pos e2] at h2 ⊢;exact vi h1 h2
  ·rw[if_neg e2] at h2 ⊢;exact h2
 ·rw[if_neg e1] at h1;have h1:=of_decide_eq_true h1;by_cases e2:b1=c1
  ·subst e2;rw[if_neg e1];exact decide_eq_true h1
  ·rw[if_neg e2] at h2;have h2:=of_decide_eq_true h2;rw[if_neg (by omega)];exact decide_eq_true (by omega)
theorem Qp {a c:Int×Str} (b:Int×Str) (h:ltK a c=true):ltK a b=true∨ltK b c=true:=by
 rcases sv a b with e | e | e
 ·exact .inl e
 ·subst e;exact .inr h
 ·exact .inr (qf e h)
theorem E6 (ks:List (Int×Str)) (d:Int×Str):Ord ks.length λi j=>ltK (ks.getD i d) (ks.getD j d):=⟨λ_ _=>t4 _,λ_ _ _ _ _ _ a b=>qf a b,λ_ j _ _ _ _ a=>Qp _ a⟩
section
variable {P:Program} {w:World} {A:Around} {H:Hp}
theorem Nn {ts:List Addr} {ks:List (Int×Str)} {d:Int×Str} (hl:ts.length=ks.length) (hR:∀i,i < ks.length→H (ts.getD i 0)=some (.tup [.int (ks.getD i d).1,.str (ks.getD i d).2])):En P w A H (ts.map V.ref) (rank ks.length λi j=>ltK (ks.getD i d) (ks.getD j d)):=by
 intro s vs hok r h2;have hlen:=r.length;rw[aa1] at hlen;have o:=E6 ks d;have row:∀i,i < ks.length→∃(t:Addr) (tk tk':Nat),vs.getD i Value.none=.ref t∧s.heap.IsTuple t [Value.int (ks.getD i d).1 tk,Value.str (ks.getD i d).2 tk'].toArray:=λi hi=>by
  have hi2:i < ts.length:=by omega
  obtain ⟨u,hu,ru⟩:=r.get (i:=i) (x:=V.ref (ts.getD i 0)) (by rw[aa7,aa4,aa0 hi2];rfl);cases (show u=Value.ref (ts.getD i 0) from ru)
  obtain ⟨_,its,ri,pi⟩:=vz hok (hR i hi);cases ri with
  | cons r1 rr=>
   cases rr with
   | cons r2 rr=>
    cases rr
    obtain ⟨tk,rfl⟩:=r1;obtain ⟨tk',rfl⟩:=r2;exact ⟨_,tk,tk',by rw[aa4,hu];rfl,pi⟩
 obtain ⟨firsts,kt,kl,kT⟩:=km (M:=model P w) (h:=s.heap) (T:=.type "int") vs λv hv=>by
  obtain ⟨i,hi,e⟩:=List.mem_iff_getElem.mp hv;obtain ⟨t,tk,tk',et,⟨ob,ho,hc,n,hd⟩⟩:=row i (by omega);rw[aa4,aa0 hi] at et;refine ⟨t,ob,_,n,.int (ks.getD i d).1 tk,by rw[←e];exact et,ho,hc,hd,rfl,?_⟩;exact .now
 refine PySem.W.kat_kind kt (by omega) kT (by rfl) ⟨rfl,λi j C hi hj hC=>?_⟩;rw[o.rank (by omega) (by omega)] at hC;obtain ⟨t,tk,tk',et,pt⟩:=row i (by omega);obtain ⟨u,uk,uk',eu,pu⟩:=row j (by omega);obtain ⟨ob,ho,hc,n,hd⟩:=id pt;obtain ⟨ob',ho',hc',n',hd'⟩:=id pu;generalize ks.getD i d=a at*;generalize ks.getD j d=b at*;show wpAny (model P w) A (keyLt' (tuples' true) _ _) C _ s
 rw[et,eu];refine PySem.W.kat_lt (b:=true) ho hd ho' hd' ?_;show PySem.W.KatLex P w A true (decide (2 < 2)) C [(.int a.1 tk,.int b.1 uk),(.str a.2 tk',.str b.2 uk')] 0 s
 unfold ltK at hC;refine PySem.W.kat_cons (SeqAt.EqAt.int_int _ _ _ _ _ _ _ _ ?_);by_cases e:a.1=b.1
 ·rw[show (a.1==b.1)=true by rw[e];exact beq_self_eq_true _];rw[if_pos e] at hC;refine PySem.W.kat_yes (PySem.W.kat_cons (SeqAt.EqAt.str_str _ _ _ _ _ _ _ _ ?_));by_cases e2:a.2=b.2
  ·rw[show (a.2==b.2)=true by rw[e2];exact beq_self_eq_true _];rw[e2,lg] at hC;exact PySem.W.kat_yes (PySem.W.kat_nil hC)
  ·rw[show (a.2==b.2)=false from beq_eq_false_iff_ne.mpr e2];exact PySem.W.kat_no (PySem.W.kat_one _ _ (SeqAt.LtAt.str _ _ _ _ hC))
 ·rw[show (a.1==b.1)=false from beq_eq_false_iff_ne.mpr e];rw[if_neg e] at hC;exact PySem.W.kat_no (oneLt_int hC)
end
end L2
namespace L2
open PySem PySem.Spec PyProof.Rows
theorem Kp {a:Addr} {o:Obj} {kvs:List (List Key×V)} {fr:St} {tc:TT} {te:TE} {D:Addr} {H1:Hp} {Q:Hp→Prop} (P:Nat→List V→Hp→Prop) (mono:∀i ys H H',(∀b u,b≠D→H b=some u→H' b=some u)→P i ys H→P i ys H') (ha:H1 a=some (.frz o (.dT kvs))) (hn:kvs.length < sizeLine) (hD:H1 D=none) (h0:P 0 [] H1)
  (step:∀i t k v ys H (G:Hp→Prop) (K':V→Hp→Prop),kvs[i]?=some (k,v)→H t=some (.tup (k.map kV))→P i ys H→H D=some (.lst ys)→ys.length≤i→ak H1 H→(∀H3,ak H H3→P (i+1) ys H3→G H3)→(∀y H4,ak H H4→P (i+1) (ys++[y]) H4→K' y H4)→tc ([some (.ref t)]++fr) H λb H3=>if b=true then te ([some (.ref t)]++fr) H3 K' else G H3)
  (done:∀ys H,P kvs.length ys H→ys.length≤kvs.length→ak H1 H→H D=some (.lst ys)→Q H):LC 1 fr (cj 0) tc te (Itq a o kvs) D H1 Q:=by
 refine ⟨λi m H=>m=kvs.length - i∧i≤kvs.length∧∃ys,H D=some (.lst ys)∧P i ys H∧ys.length≤i∧ak H1 H,⟨kvs.length,by simp,aa8 _,[],ae,mono _ _ _ _ (λb u _ h=>aa hD _ _ _ h) h0,aa6 _,aa hD _⟩,?_⟩;rintro i m H ⟨rfl,hi,ys,hys,hP,hl,hS⟩;by_cases hlt:i < kvs.length
 ·refine .inr ⟨⟨hlt,hS _ _ ha⟩,λτ x H' hτ hy=>?_⟩;obtain ⟨e1,t,k,v,hk,ht,rfl⟩:=hy;subst e1;obtain ⟨b,rfl⟩:∃b,τ=[b]:=List.length_eq_one_iff.mp hτ;refine ⟨⟨[some (.ref t)],rfl,rfl⟩,step i t k v ys H' _ _ hk ht hP hys hl hS (λH3 q1 q2=>?_) (λy H4 q1 q2=>?_)⟩
  ·exact ⟨kvs.length - (i+1),by omega,rfl,hlt,ys,q1 _ _ hys,q2,acu hl,hS.trans q1⟩
  ·refine ⟨ys,q1 _ _ hys,by omega,kvs.length - (i+1),by omega,rfl,hlt,ys++[y],ae,mono _ _ _ _ (λb u hb h=>by rw[af hb];exact h) q2,?_,(hS.trans q1).upd hD _⟩;rw[aa2,aa9];omega
 ·have e:i=kvs.length:=by omega
  subst e;exact .inl ⟨⟨rfl,hS _ _ ha⟩,done ys H hP hl hS hys⟩
end L2
namespace Pc
open PySem PySem.Spec L2 PyProof.Rows Fm
structure Lf where
 place:Nat
 r:Rl
 hs:List Ky
noncomputable def ie (f:Lf):Ft Ky:=⟨(f.place,f.r.kind),f.r.price,f.hs⟩
def LfAt (H:Hp) (no:Addr→Prop) (a:Addr) (f:Lf):Prop:=∃ra hl,¬no hl∧H a=some (.tup [.ref ra,.int (f.place:Int),.ref hl])∧fj H ra f.r∧mr H hl f.hs
def cq (H:Hp) (no:Addr→Prop) (as:List Addr) (fs:List Lf):Prop:=as.length=fs.length∧∀(j:Nat) (f:Lf),fs[j]?=some f→∃a,as[j]?=some a∧LfAt H no a f
theorem fj.kx {no:Addr→Prop} {H H':Hp} {a:Addr} {r:Rl} (h:fj H a r) (x:Kx no H H'):fj H' a r:=by
 obtain ⟨sa,da,ds,h1,h2,h3⟩:=h;exact ⟨sa,da,ds,x.t h1,x.t h2,x.t h3⟩
theorem LfAt.kx {no:Addr→Prop} {H H':Hp} {a:Addr} {f:Lf} (h:LfAt H no a f) (x:Kx no H H'):LfAt H' no a f:=by
 obtain ⟨ra,hl,g2,g3,g4,g5⟩:=h;exact ⟨ra,hl,g2,x.t g3,g4.kx x,g5.kx x g2⟩
theorem cq.kx {no:Addr→Prop} {H H':Hp} {as:List Addr} {fs:List Lf} (h:cq H no as fs) (x:Kx no H H'):cq H' no as fs:=⟨h.1,λj f e=>by
 obtain ⟨a,g1,g2⟩:=h.2 j f e;exact ⟨a,g1,g2.kx x⟩⟩
theorem cq.same {no:Addr→Prop} {H H':Hp} {as:List Addr} {fs:List Lf} (h:cq H no as fs) (s:ak H H'):cq H' no as fs:=h.kx (Kx.same s)
theorem cq.weak {no no':Addr→Prop} {H:Hp} {as:List Addr} {fs:List Lf} (h:cq H no as fs) (w:∀x,no' x→no x):cq H no' as fs:=⟨h.1,λj f e=>by
 obtain ⟨a,g1,ra,hl,g2,g3⟩:=h.2 j f e;exact ⟨a,g1,ra,hl,λz=>g2 (w _ z),g3⟩⟩
theorem cq.snoc {no:Addr→Prop} {H:Hp} {as:List Addr} {fs:List Lf} {a:Addr} {f:Lf} (h:cq H no as fs) (hf:LfAt H no a f):cq H no (as++[a]) (fs++[f]):=by
 refine ⟨by rw[aa2,aa2,h.1];rfl,λi f' hi=>?_⟩;by_cases c:i < fs.length
 ·rw[aae c] at hi;obtain ⟨a',g1,g2⟩:=h.2 i f' hi;exact ⟨a',by rw[aae (by rw[h.1];exact c)];exact g1,g2⟩
 ·rw[aac (by omega)] at hi;have hz:i - fs.length=0:=by
   rcases abr (i - fs.length) with g | g
   ·exact g
   ·rw[abg (by rw[aa9];omega)] at hi;cases hi
  rw[hz] at hi;cases hi
  exact ⟨a,by rw[aac (by rw[h.1];omega),h.1,hz];rfl,hf⟩
theorem cq.nil (H:Hp) (no:Addr→Prop):cq H no [] []:=⟨rfl,λj f h=>by simp at h⟩
theorem cq.get {no:Addr→Prop} {H:Hp} {as:List Addr} {fs:List Lf} (h:cq H no as fs) {i:Nat} {a:Addr} (ha:as[i]?=some a):∃f,fs[i]?=some f∧LfAt H no a f:=by
 have hi:i < fs.length:=by rw[←h.1];exact (List.getElem?_eq_some_iff.mp ha).1
 obtain ⟨a',h1,h2⟩:=h.2 i _ (aa0 hi);obtain rfl:a'=a:=aa3 (h1.symm.trans ha);exact ⟨_,aa0 hi,h2⟩
noncomputable def i9 (kinds:List Str) (ws:List V) (p:Nat) (r:Rl):Option Lf:=(dy kinds ws r.shape p ⟨[],[],[]⟩).map λu=>⟨p,r,u.hs.zip (ba kinds r.shape)⟩
noncomputable def xo (kinds:List Str) (rs:List Rl) (ws:List V) (p:Nat):List Lf:=rs.filterMap (i9 kinds ws p)
noncomputable def Ah (kinds:List Str) (rs:List Rl) (ws:List V) (i:Nat):List Lf:=(aat i).flatMap λb=>xo kinds rs ws (ws.length - 1 - b)
noncomputable def i5 (kinds:List Str) (rs:List Rl) (ws:List V):List Lf:=Ah kinds rs ws ws.length
theorem qt (kinds:List Str) (rs:List Rl) (ws:List V) (i:Nat):Ah kinds rs ws (i+1)=Ah kinds rs ws i++xo kinds rs ws (ws.length - 1 - i):=by
 unfold Ah;rw[aeb,aep];simp
theorem Ga (kinds:List Str) (rs:List Rl) (ws:List V) (p:Nat):(xo kinds rs ws p).map ie=(bp kinds rs ws p).map (fm p):=by
 unfold xo bp;rw[aez,aez];congr 1
 funext r
 unfold i9 kg;rw[Option.map_map,Option.map_map];rfl
theorem lf_mem (kinds:List Str) (rs:List Rl) (ws:List V) (f:Ft Ky):f∈(i5 kinds rs ws).map ie↔f∈m8 kinds rs ws:=by
 unfold i5 Ah m8;rw[List.map_flatMap,afc,afc];constructor
 ·rintro ⟨b,hb,h⟩;rw[Ga] at h;have:=List.mem_range.mp hb;exact ⟨ws.length - 1 - b,List.mem_range.mpr (by omega),h⟩
 ·rintro ⟨p,hp,h⟩;have:=List.mem_range.mp hp;refine ⟨ws.length - 1 - p,List.mem_range.mpr (by omega),?_⟩;rw[Ga,show ws.length - 1 - (ws.length - 1 - p)=p by omega];exact h
theorem Tbl.of_mem {κ:Type} [DecidableEq κ] {F F':List (Ft κ)} {g:κ→Option Int} (h:Tbl F g) (e:∀f,f∈F↔f∈F'):Tbl F' g:=⟨λf hf=>h.st f ((e f).mpr hf),λk v hv=>by
 obtain ⟨f,hf,r⟩:=h.du k v hv;exact ⟨f,(e f).mp hf,r⟩,h.pos⟩
theorem wy (kinds:List Str) (rs:List Rl) (ws:List V) (hr:rs.length≤100):∀i,(Ah kinds rs ws i).length≤100*i
 | 0=>aa6 _
 | i+1=>by
  rw[qt,aa2];have h1:=wy kinds rs ws hr i;have h2:(xo kinds rs ws (ws.length - 1 - i)).length≤rs.length:=aby _ _;omega
theorem lf_own {kinds:List Str} {rs:List Rl} {ws:List V} (bk:Bk kinds rs):∀f∈i5 kinds rs ws,1≤f.r.price:=λf hf=>by
 obtain ⟨b,_,h⟩:=List.mem_flatMap.mp hf;obtain ⟨r,hr,e⟩:=List.mem_filterMap.mp h;obtain ⟨u,_,rfl⟩:=Option.map_eq_some_iff.mp e;exact bk.pr r hr
def TbK (H:Hp) (d:Addr) (g:Ky→Option Int) (ks:List Ky):Prop:=∃kvs:List (List Key×V),H d=some (.dT kvs)∧kvs.map (·.1)=ks.map kyK∧ks.Nodup∧∀k,dh kvs (kyK k)=(g k).map V.int
theorem TbK.tb {H:Hp} {d:Addr} {g:Ky→Option Int} {ks:List Ky} (h:TbK H d g ks):dc H d g ks.length:=by
 obtain ⟨kvs,h1,h2,_,h3⟩:=h;have:=congrArg ac0 h2;rw[aa1,aa1] at this;exact ⟨kvs,h1,by omega,h3⟩
theorem TbK.at {H H':Hp} {d:Addr} {g:Ky→Option Int} {ks:List Ky} (h:TbK H d g ks) (e:∀o,H d=some o→H' d=some o):TbK H' d g ks:=by
 obtain ⟨kvs,h1,h2⟩:=h;exact ⟨kvs,e _ h1,h2⟩
theorem TbK.same {H H':Hp} {d:Addr} {g:Ky→Option Int} {ks:List Ky} (h:TbK H d g ks) (s:ak H H'):TbK H' d g ks:=h.at λo e=>s _ _ e
theorem TbK.nil {H:Hp} {d:Addr}:TbK (upd H d (.dT [])) d (λ_=>none) []:=⟨[],ae,rfl,acv,λ_=>rfl⟩
theorem TbK.mem {H:Hp} {d:Addr} {g:Ky→Option Int} {ks:List Ky} (h:TbK H d g ks) (k:Ky):k∈ks↔(g k).isSome=true:=by
 obtain ⟨kvs,h1,h2,h3,h4⟩:=h;have e:(dh kvs (kyK k)).isSome=(g k).isSome:=by rw[h4 k];cases g k <;> rfl
 rw[←e,←fo,List.any_eq_true];constructor
 ·intro hk;have:kyK k∈kvs.map (·.1):=by rw[h2];exact List.mem_map.mpr ⟨k,hk,rfl⟩
  obtain ⟨p,hp,e⟩:=List.mem_map.mp this;exact ⟨p,hp,decide_eq_true e⟩
 ·rintro ⟨p,hp,e⟩;have:kyK k∈kvs.map (·.1):=List.mem_map.mpr ⟨p,hp,of_decide_eq_true e⟩;rw[h2] at this;obtain ⟨k',hk',e'⟩:=List.mem_map.mp this;rw[←oy e'];exact hk'
theorem TbK.put {H:Hp} {d b:Addr} {g:Ky→Option Int} {ks:List Ky} {k:Ky} {v:Int} (h:TbK H d g ks) (hb:H b=some (kyT k)) (hn:ks.length≤1000000):
  ∃o ks',vw H d (.ref b) (.int v) (upd H d o)∧TbK (upd H d o) d (gb g k v) ks'∧ks'.length≤if (g k).isSome then ks.length else ks.length+1:=by
 have hm:=h.mem k;obtain ⟨kvs,h1,h2,nd,h3⟩:=h;have sz:=sizeLine_eq;have hl:kvs.length=ks.length:=by
  have:=congrArg ac0 h2;rw[aa1,aa1] at this;exact this
 have hk:=h3 k;have val:∀j,dh (putK kvs (kyK k) (.int v)) (kyK j)=(gb g k v j).map V.int:=λj=>by
  rw[Cr];by_cases e:j=k
  ·subst e;rw[if_pos rfl,cf];rfl
  ·rw[if_neg (λz=>e (oy z)),dw e];exact h3 j
 cases e:g k with
 | none=>
  rw[e] at hk;refine ⟨_,ks++[k],vw.t (k:=kyK k) h1 hb (by omega),⟨_,ae,?_,?_,val⟩,?_⟩
  ·rw[Cm _ hk,aaa,aaa,h2];rfl
  ·refine List.nodup_append.mpr ⟨nd,by simp,λa ha c hc e2=>?_⟩;rw[List.mem_singleton.mp hc] at e2;rw[e2] at ha;have:=hm.mp ha;rw[e] at this;cases this
  ·rw[aa2];simp
 | some w=>
  rw[e] at hk;have ha:(kvs.any λkv=>decide (kv.1=kyK k))=true:=by rw[fo,hk];rfl
  refine ⟨_,ks,vw.t (k:=kyK k) h1 hb (by omega),⟨_,ae,?_,nd,val⟩,?_⟩
  ·unfold putK;rw[if_pos ha,ac5,←h2];apply adp
   intro p _;show (if _ then _ else _:List Key×V).1=p.1
   split
   ·rename_i c
    first | exact (of_decide_eq_true c).symm | exact c.symm | rfl
   ·rfl
  ·simp
theorem TbK.due {H:Hp} {d:Addr} {g:Ky→Option Int} {ks:List Ky} (h:TbK H d g ks):∀o,H d=some o→∃kvs,o=.dT kvs:=λo e=>by
 obtain ⟨kvs,h1,_⟩:=h;rw[h1] at e;exact ⟨kvs,(aa3 e).symm⟩
noncomputable def blAt2 (σ:List (Option V)):Nat:=match σ[2]? with
 | some (some (V.bl true))=>1
 | _=>0
noncomputable def dz (fs:List Lf) (g:Ky→Option Int) (k:Ky):List Str:=(fs.filter λf=>decide ((f.place,f.r.kind)=k∧cost g f.r.price f.hs=g k)).map (·.r.name)
theorem Ay {kinds:List Str} {rs:List Rl} {ws:List V} {g:Ky→Option Int} {p:Nat} {k:Str} {v:Int} (hv:g (p,k)=some v) (hp:p < ws.length):dz (i5 kinds rs ws) g (p,k)=namesW (bp kinds rs ws p) g k v:=by
 have one:∀q,((xo kinds rs ws q).filter λf=>decide ((f.place,f.r.kind)=(p,k)∧cost g f.r.price f.hs=g (p,k))).map (·.r.name)=if q=p then namesW (bp kinds rs ws p) g k v else []:=λq=>by
  have pl:∀f∈xo kinds rs ws q,f.place=q:=λf hf=>by
   obtain ⟨r,hr,e⟩:=List.mem_filterMap.mp hf;obtain ⟨u,_,rfl⟩:=Option.map_eq_some_iff.mp e;rfl
  by_cases e:q=p
  ·subst e;rw[if_pos rfl];unfold xo bp namesW;rw[hv];induction rs with
   | nil=>rfl
   | cons r rs ih=>
    have ih:=ih λf hf=>pl f (by
     unfold xo at hf ⊢;rw[abv];cases i9 kinds ws q r with
     | none=>exact hf
     | some x=>exact aaj _ hf)
    rw[abv,abv];unfold i9 kg at ih ⊢;cases dy kinds ws r.shape q ⟨[],[],[]⟩ with
    | none=>exact ih
    | some u=>
     show ((_::_:List Lf).filter _).map _=((_::_:List Fr).filter _).map _
     rw[aau,aau];have c:decide (((⟨q,r,u.hs.zip (ba kinds r.shape)⟩:Lf).place,(⟨q,r,u.hs.zip (ba kinds r.shape)⟩:Lf).r.kind)=(q,k)∧cost g (⟨q,r,u.hs.zip (ba kinds r.shape)⟩:Lf).r.price (⟨q,r,u.hs.zip (ba kinds r.shape)⟩:Lf).hs=some v)=decide (r.kind=k∧cost g r.price (u.hs.zip (ba kinds r.shape))=some v):=decide_eq_decide.mpr ⟨λh=>⟨(acq h.1).2,h.2⟩,λh=>⟨by rw[←h.1],h.2⟩⟩;rw[c];by_cases c2:r.kind=k∧cost g r.price (u.hs.zip (ba kinds r.shape))=some v
     ·rw[if_pos (decide_eq_true c2)];rw[if_pos (show decide (r.kind=k∧cost g r.price (u.hs.zip (ba kinds r.shape))=some v)=true from decide_eq_true c2),ab0,ab0,ih]
     ·rw[if_neg (by simpa using c2)];rw[if_neg (show ¬decide (r.kind=k∧cost g r.price (u.hs.zip (ba kinds r.shape))=some v)=true by simpa using c2)];exact ih
  ·rw[if_neg e];have:(xo kinds rs ws q).filter (λf=>decide ((f.place,f.r.kind)=(p,k)∧cost g f.r.price f.hs=g (p,k)))=[]:=List.filter_eq_nil_iff.mpr λf hf c=>by
    have:=(acq (of_decide_eq_true c).1).1;rw[pl f hf] at this;exact e this
   rw[this];rfl
 have all:∀i,i≤ws.length→((Ah kinds rs ws i).filter λf=>decide ((f.place,f.r.kind)=(p,k)∧cost g f.r.price f.hs=g (p,k))).map (·.r.name)=if ws.length - 1 - p < i then namesW (bp kinds rs ws p) g k v else []:=by
  intro i;induction i with
  | zero=>intro _;rw[if_neg (acb _)];rfl
  | succ i ih=>
   intro hi;rw[qt,abe,aaa,ih (by omega),one];by_cases c:ws.length - 1 - p < i
   ·rw[if_pos c,if_neg (show ¬ws.length - 1 - i=p by omega),if_pos (show ws.length - 1 - p < i+1 by omega),ab1]
   ·rw[if_neg c];by_cases c2:ws.length - 1 - i=p
    ·rw[if_pos c2,if_pos (show ws.length - 1 - p < i+1 by omega)];rfl
    ·rw[if_neg c2,if_neg (show ¬ws.length - 1 - p < i+1 by omega)];rfl
 have:=all ws.length (aa6 _);rw[if_pos (by omega)] at this;exact this
theorem linK:Lin ltK:=⟨t4,qf,sv⟩
noncomputable def kyI (k:Ky):Int×Str:=((k.1:Int),k.2)
theorem Oc {a b:Ky} (h:kyI a=kyI b):a=b:=by
 obtain ⟨a1,a2⟩:=a;obtain ⟨b1,b2⟩:=b;have h1:(a1:Int)=(b1:Int):=(acq h).1;have h2:a2=b2:=(acq h).2;rw[show a1=b1 by omega,h2]
theorem Bf {kinds:List Str} (rs:List Rl) (ws:List V) (g:Ky→Option Int):∀i,Srt ltK (((jl kinds rs ws g i).map ee).map kyI)∧∀k∈(jl kinds rs ws g i).map ee,k.1 < i
 | 0=>⟨acs,λk h=>nomatch h⟩
 | i+1=>by
  obtain ⟨h1,h2⟩:=Bf rs ws g i;rw[iw,aaa,j4];have one:∀k∈((cv kinds).filter λk=>(g (i,k)).isSome).map (λk=>(i,k)),k.1=i:=λk hk=>by
   obtain ⟨z,_,rfl⟩:=List.mem_map.mp hk;rfl
  refine ⟨?_,λk hk=>?_⟩
  ·rw[aaa];refine List.pairwise_append.mpr ⟨h1,?_,λa ha b hb=>?_⟩
   ·rw[ac5];refine List.pairwise_map.mpr ?_;have hs:Srt ltS ((cv kinds).filter λk=>(g (i,k)).isSome):=List.Pairwise.sublist aeq (qg (linS.pre id) kinds);refine hs.imp λ{a b} h=>?_;show ltK ((i:Int),b) ((i:Int),a)=false
    unfold ltK;rw[if_pos rfl];exact h
   ·obtain ⟨a',ha',rfl⟩:=List.mem_map.mp ha;obtain ⟨b',hb',rfl⟩:=List.mem_map.mp hb;have:=h2 a' ha';have:=one b' hb';show ltK ((b'.1:Int),b'.2) ((a'.1:Int),a'.2)=false
    unfold ltK;dsimp only;rw[if_neg (by omega)];exact decide_eq_false (by omega)
  ·rcases List.mem_append.mp hk with m | m
   ·have:=h2 k m;omega
   ·have:=one k m;omega
theorem Io {kinds:List Str} {rs:List Rl} {ws:List V} {g:Ky→Option Int} (bk:Bk kinds rs) (T:Tbl (m8 kinds rs ws) g) {ks:List Ky} (nd:ks.Nodup) (hm:∀k,k∈ks↔(g k).isSome=true) {is:List Nat} (hp:is.Perm (aat ks.length))
  (hs:∀i j,i≤j→j < ks.length→rank ks.length (λi j=>ltK ((ks.map kyI).getD i (0,"")) ((ks.map kyI).getD j (0,""))) (is.getD i 0)≤rank ks.length (λi j=>ltK ((ks.map kyI).getD i (0,"")) ((ks.map kyI).getD j (0,""))) (is.getD j 0)):
  is.map (λi=>ks.getD i (0,""))=(rowsOf kinds rs ws g).map ee:=by
 have hil:is.length=ks.length:=by rw[hp.length_eq,abd]
 have hin:∀i∈is,i < ks.length:=λi hi=>List.mem_range.mp (hp.mem_iff.mp hi);have e0:ks=(aat ks.length).map λi=>ks.getD i (0,""):=by
  refine ae6 (by rw[aa1,abd]) λi h1 h2=>?_;rw[ae7,aey,aa4,aa0 h1];rfl
 have p1:(is.map λi=>ks.getD i (0,"")).Perm ks:=by
  have:=hp.map λi=>ks.getD i (0,"");rw[←e0] at this;exact this
 have nd2:=(qb bk.kn rs ws g ws.length).1;have p2:ks.Perm ((rowsOf kinds rs ws g).map ee):=by
  refine (List.perm_ext_iff_of_nodup nd nd2).mpr λk=>?_;rw[hm k];constructor
  ·intro h;obtain ⟨v,hv⟩:=Option.isSome_iff_exists.mp h;obtain ⟨r,hr,h1,h2,_⟩:=Cc bk T hv;exact List.mem_map.mpr ⟨r,hr,by unfold ee;rw[h1,h2]⟩
  ·intro h;obtain ⟨r,hr,rfl⟩:=List.mem_map.mp h;have:=(vb hr).2.1;show (g (r.place,r.kind)).isSome=true
   rw[this];rfl
 have o:=E6 (ks.map kyI) (0,"");rw[aa1] at o;have s1:Srt ltK ((is.map λi=>ks.getD i (0,"")).map kyI):=by
  rw[ac5];refine List.pairwise_map.mpr (List.pairwise_iff_getElem.mpr λi j hi hj hij=>?_);have gi:∀i (h:i < is.length),is.getD i 0=is[i]:=λi h=>by rw[aa4,aa0 h];rfl
  have:=hs i j (by omega) (by omega);rw[gi i hi,gi j hj] at this;have b1:=hin is[i] (ab3 hi);have b2:=hin is[j] (ab3 hj);have q:=o.rank b2 b1;rw[decide_eq_false (by omega)] at q;rw[getD_map kyI ks _ (0,"") (0,"") b1,getD_map kyI ks _ (0,"") (0,"") b2] at q;exact q.symm
 have s2:=(Bf (kinds:=kinds) rs ws g ws.length).1;have:=my linK ((p1.trans p2).map kyI) s1 s2;exact (List.map_inj_right (λa b h=>Oc h)).mp this
def ud:Sp:=λvs H Q _=>∃(b wt:Addr) (kinds:List Str) (rs:List Rl) (ws:List V),vs=[.ref b,.ref wt]∧cy H b kinds rs∧H wt=some (.tup ws)∧Bk kinds rs∧Tw ws∧∀(l:Addr) (as:List Addr) (H':Hp),ak H H'→H l=none→H' l=some (.lst (as.map V.ref))→cq H' (λx=>H x≠none) as (i5 kinds rs ws)→Q (.ref l) H'
def n8:Sp:=λvs H Q _=>∃(ra hl d:Addr) (r:Rl) (hs:List Ky) (g:Ky→Option Int) (n:Nat),vs=[.ref ra,.ref hl,.ref d]∧fj H ra r∧mr H hl hs∧dc H d g n∧Q (.int ((cost g r.price hs).getD 0)) H
def ox:Sp:=λvs H Q _=>∃(fl:Addr) (as:List Addr) (fs:List Lf),vs=[.ref fl]∧H fl=some (.lst (as.map V.ref))∧cq H (λ_=>False) as fs∧fs.length≤1000000∧(∀f∈fs,1≤f.r.price)∧∀(d:Addr) (H':Hp) (g:Ky→Option Int) (ks:List Ky),ak H H'→H d=none→TbK H' d g ks→Tbl (fs.map ie) g→ks.length≤fs.length→Q (.ref d) H'
def RcAt (H:Hp) (fd:Addr) (ks:List Ky) (ls:List Addr) (nm:Ky→List Str):Prop:=H fd=some (.dT ((ks.zip ls).map λp=>(kyK p.1,V.ref p.2)))∧ls.length=ks.length∧∀(j:Nat) (k:Ky) (l:Addr),ks[j]?=some k→ls[j]?=some l→H l=some (.lst ((nm k).map V.str))
def pq:Sp:=λvs H Q _=>∃(fl d:Addr) (as:List Addr) (fs:List Lf) (g:Ky→Option Int) (ks:List Ky),vs=[.ref fl,.ref d]∧H fl=some (.lst (as.map V.ref))∧cq H (λ_=>False) as fs∧fs.length≤1000000∧TbK H d g ks∧ks.length≤1000000∧Tbl (fs.map ie) g∧∀(fd:Addr) (ls:List Addr) (H':Hp),ak H H'→H fd=none→RcAt H' fd ks ls (dz fs g)→Q (.ref fd) H'
theorem Od {κ:Type} [DecidableEq κ] {F:List (Ft κ)} {g:κ→Option Int} {f:Ft κ} (hf:f∈F) {c:Int} {m:Nat} (h:m≤if (g f.key).isSome then cnt F g else cnt F g+1):m≤cnt F (gb g f.key c):=by
 cases e:g f.key with
 | none=>
  have:=t7 (c:=c) e F ⟨f,hf,rfl⟩;rw[e] at h;simp only[aco,aaz,if_false] at h;omega
 | some v=>
  have:=j9 (g:=g) (g':=gb g f.key c) F λf' _ e=>by
   by_cases q:f'.key=f.key
   ·rw[q,cf];rfl
   ·rw[dw q];exact e
  rw[e] at h;simp only[aca,if_true] at h;omega
def StL (g:Ky→Option Int) (f:Lf):Prop:=∀c,cost g f.r.price f.hs=some c→∃v,g (f.place,f.r.kind)=some v∧v≤c
theorem Ec {fs:List Lf} {g:Ky→Option Int} (h:∀(j:Nat) (f:Lf),fs[j]?=some f→StL g f):jh (fs.map ie) g:=λf' hf' c hc=>by
 obtain ⟨f,hf,rfl⟩:=List.mem_map.mp hf';obtain ⟨j,hj⟩:=List.mem_iff_getElem?.mp hf;exact h j f hj c hc
theorem Cg {K:PySem.W.Frag} {n:Nat} {a:Addr} {x0 x1 x2:V} {i0 i1 i2:Nat} {σ:L2.St} {H:Hp} {Q:L2.St→Hp→Prop} (h:H a=some (.tup [x0,x1,x2])) (hn:3=n) (q:Q (((σ.set i0 (some x0)).set i1 (some x1)).set i2 (some x2)) H):Ew K n (fq (cj i0) (fq (cj i1) (fq (cj i2) gNil))) (.ref a) σ H Q:=⟨a,_,rfl,SqT.of h,hn,_,_,rfl,_,_,rfl,_,_,rfl,rfl,q⟩
theorem Oq {b wt:Addr} {kinds:List Str} {rs:List Rl} {ws:List V} {H:Hp} {Q:VK} {E:XK} (p0:cy H b kinds rs) (p1:H wt=some (.tup ws)) (p2:Bk kinds rs) (p3:Tw ws) (p4:∀(l:Addr) (as:List Addr) (H':Hp),ak H H'→H l=none→H' l=some (.lst (as.map V.ref))→cq H' (λx=>H x≠none) as (i5 kinds rs ws)→Q (.ref l) H'):ud [.ref b,.ref wt] H Q E:=⟨b,wt,kinds,rs,ws,rfl,p0,p1,p2,p3,p4⟩
theorem Gm {ra hl d:Addr} {r:Rl} {hs:List Ky} {g:Ky→Option Int} {n:Nat} {H:Hp} {Q:VK} {E:XK} (p0:fj H ra r) (p1:mr H hl hs) (p2:dc H d g n) (p3:Q (.int ((cost g r.price hs).getD 0)) H):n8 [.ref ra,.ref hl,.ref d] H Q E:=⟨ra,hl,d,r,hs,g,n,rfl,p0,p1,p2,p3⟩
theorem Kz {fl:Addr} {as:List Addr} {fs:List Lf} {H:Hp} {Q:VK} {E:XK} (p0:H fl=some (.lst (as.map V.ref))) (p1:cq H (λ_=>False) as fs) (p2:fs.length≤1000000) (p3:(∀f∈fs,1≤f.r.price)) (p4:∀(d:Addr) (H':Hp) (g:Ky→Option Int) (ks:List Ky),ak H H'→H d=none→TbK H' d g ks→Tbl (fs.map ie) g→ks.length≤fs.length→Q (.ref d) H'):ox [.ref fl] H Q E:=⟨fl,as,fs,rfl,p0,p1,p2,p3,p4⟩
theorem K3 {fl d:Addr} {as:List Addr} {fs:List Lf} {g:Ky→Option Int} {ks:List Ky} {H:Hp} {Q:VK} {E:XK} (p0:H fl=some (.lst (as.map V.ref))) (p1:cq H (λ_=>False) as fs) (p2:fs.length≤1000000) (p3:TbK H d g ks) (p4:ks.length≤1000000) (p5:Tbl (fs.map ie) g) (p6:∀(fd:Addr) (ls:List Addr) (H':Hp),ak H H'→H fd=none→RcAt H' fd ks ls (dz fs g)→Q (.ref fd) H'):pq [.ref fl,.ref d] H Q E:=⟨fl,d,as,fs,g,ks,rfl,p0,p1,p2,p3,p4,p5,p6⟩
end Pc
namespace Pc
open PySem PySem.Spec L2 PyProof.Rows Fm
theorem Be {fs:List Lf} {i:Nat} {f:Lf} (h:fs[i]?=some f) (g:Ky→Option Int) (k:Ky):dz (fs.take (i+1)) g k=dz (fs.take i) g k++if (f.place,f.r.kind)=k∧cost g f.r.price f.hs=g k then [f.r.name] else []:=by
 unfold dz;rw[abh,h,abe,aaa];congr 1
 show (List.filter _ [f]).map _=_
 rw[aau];by_cases c:(f.place,f.r.kind)=k∧cost g f.r.price f.hs=g k
 ·rw[if_pos c,if_pos (decide_eq_true c)];rfl
 ·rw[if_neg c,if_neg (by simpa using c)];rfl
theorem wm:∀{ks:List Ky} {ls:List Addr},ls.length=ks.length→((ks.zip ls).map λp=>(kyK p.1,V.ref p.2)).map (·.1)=ks.map kyK
 | [],_,_=>rfl
 | k::ks,[],h=>by cases h
 | k::ks,l::ls,h=>by
  show kyK k::(((ks.zip ls).map λp=>(kyK p.1,V.ref p.2)).map (·.1))=kyK k::ks.map kyK
  rw[wm (by simpa using h)]
theorem RcAt.same {H H':Hp} {fd:Addr} {ks:List Ky} {ls:List Addr} {nm:Ky→List Str} (h:RcAt H fd ks ls nm) (s:ak H H'):RcAt H' fd ks ls nm:=⟨s _ _ h.1,h.2.1,λj k l h1 h2=>s _ _ (h.2.2 j k l h1 h2)⟩
theorem RcAt.congr {H:Hp} {fd:Addr} {ks:List Ky} {ls:List Addr} {nm nm':Ky→List Str} (h:RcAt H fd ks ls nm) (e:∀k∈ks,nm' k=nm k):RcAt H fd ks ls nm':=⟨h.1,h.2.1,λj k l h1 h2=>by rw[e k (aak h1)];exact h.2.2 j k l h1 h2⟩
theorem RcAt.get {H:Hp} {fd b:Addr} {ks:List Ky} {ls:List Addr} {nm:Ky→List Str} (h:RcAt H fd ks ls nm) (nd:ks.Nodup) {k:Ky} (hb:H b=some (kyT k)) (hk:k∈ks):∃(j:Nat) (l:Addr),ks[j]?=some k∧ls[j]?=some l∧jz H fd (.ref b) (some (.ref l))∧H l=some (.lst ((nm k).map V.str)):=by
 obtain ⟨h1,h2,h3⟩:=h;obtain ⟨j,hj⟩:=List.mem_iff_getElem?.mp hk;have hjl:j < ls.length:=by rw[h2];exact (List.getElem?_eq_some_iff.mp hj).1
 have hl:ls[j]?=some ls[j]:=aa0 hjl;refine ⟨j,ls[j],hj,hl,?_,h3 j k _ hj hl⟩;have e:dh ((ks.zip ls).map λp=>(kyK p.1,V.ref p.2)) (kyK k)=some (V.ref ls[j]):=by
  refine Fq (by rw[wm h2];exact ly (λa b e=>oy e) nd) ?_;exact List.mem_map.mpr ⟨(k,ls[j]),aak (List.getElem?_zip_eq_some.mpr ⟨hj,hl⟩),rfl⟩
 rw[←e];exact jz.t h1 hb
theorem RcAt.put {H:Hp} {fd:Addr} {ks:List Ky} {ls:List Addr} {nm nm':Ky→List Str} (h:RcAt H fd ks ls nm) (nd:ks.Nodup) (nl:ls.Nodup) {j:Nat} {k:Ky} {l:Addr} {x:Str} (hj:ks[j]?=some k) (hl:ls[j]?=some l) (e:nm' k=nm k++[x]) (ne:∀k'∈ks,k'≠k→nm' k'=nm k'):RcAt (upd H l (.lst ((nm k).map V.str++[V.str x]))) fd ks ls nm':=by
 obtain ⟨h1,h2,h3⟩:=h;have hll:=h3 j k l hj hl;refine ⟨by rw[af (df h1 hll (by intro z;cases z))];exact h1,h2,λi k' l' hi hi'=>?_⟩;by_cases c:i=j
 ·subst c;obtain rfl:k=k':=aa3 (hj.symm.trans hi);obtain rfl:l=l':=aa3 (hl.symm.trans hi');rw[ae,e,aaa];rfl
 ·have n1:l'≠l:=λz=>c ((af2 (List.getElem?_eq_some_iff.mp hi').1 nl).mp (by rw[hi',hl,z]));have n2:k'≠k:=λz=>c ((af2 (List.getElem?_eq_some_iff.mp hi).1 nd).mp (by rw[hi,hj,z]));rw[af n1,ne k' (aak hi) n2];exact h3 i k' l' hi hi'
def Cj (H0 H:Hp) (D:Addr) (ks:List Ky) (i:Nat) (cs ls:List Addr):Prop:=cs.length=i∧ls.length=i∧ls.Nodup∧∀(j:Nat) (k:Ky),j < i→ks[j]?=some k→∃c l t,cs[j]?=some c∧ls[j]?=some l∧c≠D∧t≠D∧l≠D∧H0 l=none∧H c=some (.tup [.ref t,.ref l])∧H t=some (kyT k)∧H l=some (.lst [])
theorem Cj.mono {H0 H H':Hp} {D:Addr} {ks:List Ky} {i:Nat} {cs ls:List Addr} (h:Cj H0 H D ks i cs ls) (s:∀b u,b≠D→H b=some u→H' b=some u):Cj H0 H' D ks i cs ls:=⟨h.1,h.2.1,h.2.2.1,λj k hj hk=>by
 obtain ⟨c,l,t,h1,h2,h3,h4,h5,h6,h7,h8,h9⟩:=h.2.2.2 j k hj hk;exact ⟨c,l,t,h1,h2,h3,h4,h5,h6,s _ _ h3 h7,s _ _ h4 h8,s _ _ h5 h9⟩⟩
theorem Cj.snoc {H0 H:Hp} {D:Addr} {ks:List Ky} {i:Nat} {cs ls:List Addr} (hi:i < ks.length) (h:Cj H0 H D ks i cs ls) {H2:Hp} {c l t:Addr} {k:Ky} (hk:ks[i]?=some k) (s:ak H H2) (hl:H l=none) (h0:H0 l=none) (nc:c≠D) (nt:t≠D) (nl:l≠D) (ec:H2 c=some (.tup [.ref t,.ref l])) (et:H2 t=some (kyT k)) (el:H2 l=some (.lst [])):Cj H0 H2 D ks (i+1) (cs++[c]) (ls++[l]):=by
 have hc:=h.1;have hll:=h.2.1;have h':=h.mono (H':=H2) λb u _ e=>s _ _ e;refine ⟨by rw[aa2,hc];rfl,by rw[aa2,hll];rfl,List.nodup_append.mpr ⟨h.2.2.1,by simp,λa ha b hb e=>?_⟩,λj k' hj hk'=>?_⟩
 ·rw[List.mem_singleton.mp hb] at e;subst e;obtain ⟨j,hj⟩:=List.mem_iff_getElem?.mp ha;have hjl:=(List.getElem?_eq_some_iff.mp hj).1;obtain ⟨_,l',_,_,h2,_,_,_,_,_,_,h9⟩:=h.2.2.2 j _ (by omega) (aa0 (show j < ks.length by omega));obtain rfl:l'=a:=aa3 (h2.symm.trans hj);rw[hl] at h9;cases h9
 ·by_cases c':j < i
  ·obtain ⟨c1,l1,t1,h1,h2,r⟩:=h'.2.2.2 j k' c' hk';exact ⟨c1,l1,t1,by rw[aae (by omega)];exact h1,by rw[aae (by omega)];exact h2,r⟩
  ·obtain rfl:j=i:=by omega
   obtain rfl:k=k':=aa3 (hk.symm.trans hk');exact ⟨c,l,t,by rw[aac (by omega),hc,acx];rfl,by rw[aac (by omega),hll,acx];rfl,nc,nt,nl,h0,ec,et,el⟩
theorem Dr {H H1:Hp} {d:Addr} {o:Obj} {kvs:List (List Key×V)} (hd:H d=some (.dT kvs)) (s:ak (upd H d (.frz o (.dT kvs))) H1):ak H (upd H1 d (.dT kvs)):=λb u e=>by
 by_cases c:b=d
 ·subst c;rw[ae,←hd];exact e
 ·rw[af c];exact s b u (by rw[af c];exact e)
end Pc
namespace Pc
open PySem PySem.Spec L2 PyProof.Rows Fm
theorem Cb {kinds:List Str} {rs:List Rl} {ws:List V} {g:Ky→Option Int} (T:Tbl (m8 kinds rs ws) g) {r:Rw} (h:r∈rowsOf kinds rs ws g):∃nm,r.names.head?=some nm∧(dz (i5 kinds rs ws) g (ee r)).head?=some nm:=by
 obtain ⟨nm,hn⟩:=Dn T h;obtain ⟨m1,m2,m3⟩:=vb h;refine ⟨nm,hn,?_⟩;unfold ee;rw[Ay m2 m1,←m3];exact hn
theorem Ht {ks:List (Int×Str)} {d:Int×Str} {i j:Nat} (h:ks.getD i d=ks.getD j d):rank ks.length (λi j=>ltK (ks.getD i d) (ks.getD j d)) i=rank ks.length (λi j=>ltK (ks.getD i d) (ks.getD j d)) j:=by
 unfold rank;dsimp only;rw[h]
theorem TbK.keys {H:Hp} {d:Addr} {g:Ky→Option Int} {ks:List Ky} {kvs:List (List Key×V)} (h2:kvs.map (·.1)=ks.map kyK) {ts:List Addr} (hts:∀(i:Nat) (k:List Key) (v:V),kvs[i]?=some (k,v)→∃t,ts[i]?=some t∧H t=some (.tup (k.map kV))) {i:Nat} (hi:i < ks.length):H (ts.getD i 0)=some (kyT (ks.getD i (0,""))):=by
 have hl:kvs.length=ks.length:=by
  have:=congrArg ac0 h2;rw[aa1,aa1] at this;exact this
 have hk:kvs[i]?=some (kvs[i]'(by omega)):=aa0 (by omega);obtain ⟨t,e1,e2⟩:=hts i _ _ (show kvs[i]?=some ((kvs[i]'(by omega)).1,(kvs[i]'(by omega)).2) from hk);have e:=congrArg (λl=>l[i]?) h2;simp only[aa7,hk,abw,aa0 hi] at e;rw[aa3 e] at e2;rw[aa4,e1,aa4,aa0 hi];exact e2
end Pc
namespace Pc
open PySem PySem.Spec L2 PyProof.Rows Fm
theorem Ij {zs:List Str} {i j:Nat} (hi:i < (zs.map V.str).length) (hj:j < (zs.map V.str).length) (e:(zs.map V.str).getD i .non=(zs.map V.str).getD j .non):rank zs.length (λi j=>ltS (zs.getD i "") (zs.getD j "")) i=rank zs.length (λi j=>ltS (zs.getD i "") (zs.getD j "")) j:=by
 rw[aa1] at hi hj;rw[getD_map V.str zs i "" .non hi,getD_map V.str zs j "" .non hj] at e;unfold rank;dsimp only;rw[V.str.inj e]
end Pc
namespace L2
open PySem PySem.Spec PyProof.Rows
section
variable {X:Cx}
def rEqNil (K:PySem.W.Frag) (neg:Bool):R2:=λx y H Q=>∃a b xs,x=.ref a∧y=.ref b∧SqL K H a xs∧SqL K H b []∧Q (.bl (if neg then !xs.isEmpty else xs.isEmpty)) H
theorem Nb (hu:X.A.units < cLine):OpR X (compareOp .Eq) (rEqNil X.K false):=by
 intro pins s σ H x y v u Q I rx ry h;obtain ⟨a,b,xs,rfl,rfl,ha,hb,q⟩:=h;cases rx
 cases ry
 obtain ⟨its,r1,p1,_⟩:=I.list ha;obtain ⟨its2,r2,p2,_⟩:=I.list hb;have l1:=r1.length;have l2:0=its2.length:=r2.length;by_cases hl:xs.length=0
 ·have e1:its.toArray.size=0:=by rw[aa5,←l1,hl]
  refine SeqAt.eq_listAt (e:=λ_=>true) p1.isList p2.isList (by rw[aa5,aa5,←l1,←l2,hl]) hu (λj h1 h2=>absurd h1 (by rw[e1];exact acb _)) ?_;refine bh I q ?_;rw[e1,List.length_eq_zero_iff.mp hl];rfl
 ·refine SeqAt.eq_list_lengthsAt p1.isList p2.isList (by rw[aa5,aa5,←l1,←l2];simpa using hl) hu ?_;refine bh I q ?_;cases xs with
  | nil=>exact absurd rfl hl
  | cons _ _=>rfl
end
end L2
namespace L2
open PySem PySem.Spec PyProof.Rows
def iz (H:Hp) (as:List Addr) (xs:List (List Key)):Prop:=as.length=xs.length∧∀(j:Nat) (x:List Key),xs[j]?=some x→∃a,as[j]?=some a∧H a=some (.tup (x.map kV))
theorem Ol {a b:Key} (h:kV a=kV b):a=b:=by
 cases a <;> cases b <;> simp[kV] at h <;> rw[h]
theorem Cn:∀{a b:List Key},a.map kV=b.map kV→a=b
 | [],[],_=>rfl
 | [],_::_,h=>by cases h
 | _::_,[],h=>by cases h
 | x::a,y::b,h=>by
  have h:kV x::a.map kV=kV y::b.map kV:=h;obtain ⟨h1,h2⟩:=abp h;rw[Ol h1,Cn h2]
theorem yr {α:Type} [DecidableEq α] {as bs:List α} (hl:as.length=bs.length):((aat as.length).all λj=>decide (as[j]?=bs[j]?))=decide (as=bs):=by
 rw[ack,af7,decide_eq_true_eq];constructor
 ·intro h;apply acd
  intro j;by_cases hj:j < as.length
  ·exact of_decide_eq_true (h j (List.mem_range.mpr hj))
  ·rw[List.getElem?_eq_none_iff.mpr (by omega),List.getElem?_eq_none_iff.mpr (by omega)]
 ·intro h j _;rw[h];exact decide_eq_true rfl
section
variable {P:Program} {w:World} {A:Around} {s:Shared} {H:Hp}
theorem K1 {m m':Addr} {n n':List Key} (ok:HOk P w H s.heap) (h1:H m=some (.tup (n.map kV))) (h2:H m'=some (.tup (n'.map kV))) (hu:A.units < cLine):SeqAt.EqAt A s (.ref m) (.ref m') (decide (n=n')):=by
 by_cases e:m=m'
 ·subst e;rw[h1] at h2;rw[decide_eq_true (Cn (HO.tup.inj (aa3 h2)))];exact SeqAt.EqAt.same _
 obtain ⟨_,i1,r1,p1⟩:=(vz ok h1);obtain ⟨_,i2,r2,p2⟩:=(vz ok h2);have l1:=r1.length;have l2:=r2.length;rw[aa1] at l1 l2;refine SeqAt.EqAt.of_refs e λP' w' E Q q=>SeqAt.RcAt.tuples (e:=λj=>decide (n[j]?=n'[j]?)) (show s.heap.IsTuple m i1.toArray from p1) (show s.heap.IsTuple m' i2.toArray from p2) hu (λj h1 h2=>qi (A:=A.in1) (s:=s) r1 r2 j h1 h2) P' w' E Q ?_;rw[aa5,aa5,←l1,←l2];by_cases hl:n.length=n'.length
 ·rw[←hl,ae5,yr hl];simpa using q
 ·have:¬n=n':=λe=>hl (by rw[e]);rw[decide_eq_false this] at q;rw[beq_eq_false_iff_ne.mpr hl,aed];exact q
end
section
variable {X:Cx}
def rNeLT:R2:=λx y H Q=>∃a b as bs xs ys,x=.ref a∧y=.ref b∧H a=some (.lst (as.map V.ref))∧H b=some (.lst (bs.map V.ref))∧iz H as xs∧iz H bs ys∧Q (.bl (!decide (xs=ys))) H
theorem E1 (hu:X.A.units+8 < cLine):OpR X (compareOp .NotEq) rNeLT:=by
 intro pins s σ H x y v u Q I rx ry h;obtain ⟨a,b,as,bs,xs,ys,rfl,rfl,ha,hb,tx,ty,q⟩:=h;cases rx
 cases ry
 obtain ⟨its,r1,p1,_⟩:=I.list (SqL.of ha);obtain ⟨its2,r2,p2,_⟩:=I.list (SqL.of hb);have l1:=r1.length;have l2:=r2.length;rw[aa1,tx.1] at l1;rw[aa1,ty.1] at l2;by_cases hl:xs.length=ys.length
 ·refine SeqAt.RcNeAt.lists (e:=λj=>decide (xs[j]?=ys[j]?)) p1.isList p2.isList (by rw[aa5,aa5,←l1,←l2,hl]) (by omega) (λj h1 h2=>?_) _ _ _ _ ?_
  ·have hj:j < xs.length:=by rw[aa5] at h1;omega
   have hj2:j < ys.length:=by rw[aa5] at h2;omega
   obtain ⟨t,q1,q2⟩:=tx.2 j xs[j] (aa0 hj);obtain ⟨t',q1',q2'⟩:=ty.2 j ys[j] (aa0 hj2);obtain ⟨u,hu1,ru⟩:=r1.get (i:=j) (x:=V.ref t) (by rw[aa7,q1];rfl);obtain ⟨u',hu2,ru'⟩:=r2.get (i:=j) (x:=V.ref t') (by rw[aa7,q1'];rfl);cases (show u=Value.ref t from ru)
   cases (show u'=Value.ref t' from ru')
   have g1:its.toArray[j]=Value.ref t:=by
    have:its[j]'(by simpa using h1)=Value.ref t:=by rw[aa0 (by simpa using h1)] at hu1;exact aa3 hu1
    simpa using this
   have g2:its2.toArray[j]=Value.ref t':=by
    have:its2[j]'(by simpa using h2)=Value.ref t':=by rw[aa0 (by simpa using h2)] at hu2;exact aa3 hu2
    simpa using this
   rw[g1,g2,aa0 hj,aa0 hj2];have d:decide (some xs[j]=some ys[j])=decide (xs[j]=ys[j]):=decide_eq_decide.mpr ⟨λz=>aa3 z,λz=>by rw[z]⟩;rw[d];exact K1 (A:=X.A.in1) I.hok q2 q2' (by show X.A.units+1 < cLine;omega)
  ·refine bh I q ?_;rw[aa5,←l1,yr hl]
 ·refine SeqAt.RcNeAt.lists_lengths p1.isList p2.isList (by rw[aa5,aa5,←l1,←l2];simpa using hl) (by omega) _ _ _ _ ?_;refine bh I q ?_;rw[decide_eq_false λe=>hl (by rw[e])];rfl
end
abbrev Rq:=(Int×Str)×(Int×Str)
noncomputable def ltQ (a b:Rq):Bool:=if a.1=b.1 then ltK a.2 b.2 else ltK a.1 b.1
theorem Nw (a:Rq):ltQ a a=false:=by
 unfold ltQ;rw[if_pos rfl,t4]
theorem Oi (a b:Rq):ltQ a b=true∨a=b∨ltQ b a=true:=by
 obtain ⟨a1,a2⟩:=a;obtain ⟨b1,b2⟩:=b;unfold ltQ;dsimp only;by_cases e:a1=b1
 ·subst e;rw[if_pos rfl,if_pos rfl];rcases sv a2 b2 with h | h | h
  ·exact .inl h
  ·exact .inr (.inl (by rw[h]))
  ·exact .inr (.inr h)
 ·rw[if_neg e,if_neg λz=>e z.symm];rcases sv a1 b1 with h | h | h
  ·exact .inl h
  ·exact absurd h e
  ·exact .inr (.inr h)
theorem Mr {a b:Int×Str} (h:ltK a b=true) (h':ltK b a=true):False:=by
 have:=qf h h';rw[t4] at this;cases this
theorem Jr {a b c:Rq} (h1:ltQ a b=true) (h2:ltQ b c=true):ltQ a c=true:=by
 obtain ⟨a1,a2⟩:=a;obtain ⟨b1,b2⟩:=b;obtain ⟨c1,c2⟩:=c;unfold ltQ at h1 h2 ⊢;dsimp only at h1 h2 ⊢;by_cases e1:a1=b1
 ·subst e1;rw[if_pos rfl] at h1;by_cases e2:a1=c1
  ·rw[if_pos e2] at h2 ⊢;exact qf h1 h2
  ·rw[if_neg e2] at h2 ⊢;exact h2
 ·rw[if_neg e1] at h1;by_cases e2:b1=c1
  ·subst e2;rw[if_neg e1];exact h1
  ·rw[if_neg e2] at h2;rw[if_neg λz=>?_]
   ·exact qf h1 h2
   ·subst z;exact Mr h1 h2
theorem Nj {a c:Rq} (b:Rq) (h:ltQ a c=true):ltQ a b=true∨ltQ b c=true:=by
 rcases Oi a b with e | e | e
 ·exact .inl e
 ·subst e;exact .inr h
 ·exact .inr (Jr e h)
theorem Nu (ks:List Rq) (d:Rq):Ord ks.length λi j=>ltQ (ks.getD i d) (ks.getD j d):=⟨λ_ _=>Nw _,λ_ _ _ _ _ _ a b=>Jr a b,λ_ j _ _ _ _ a=>Nj _ a⟩
noncomputable def rqV (k:Rq):List V:=[.int k.1.1,.str k.1.2,.int k.2.1,.str k.2.2]
section
open Srt
variable {P:Program} {w:World} {A:Around} {H:Hp}
theorem O7 {ts:List Addr} {ks:List Rq} {d:Rq} (hl:ts.length=ks.length) (hR:∀i,i < ks.length→H (ts.getD i 0)=some (.tup (rqV (ks.getD i d)))):En P w A H (ts.map V.ref) (rank ks.length λi j=>ltQ (ks.getD i d) (ks.getD j d)):=by
 intro s vs hok r h2;have hlen:=r.length;rw[aa1] at hlen;have o:=Nu ks d;have row:∀i,i < ks.length→∃(t:Addr) (tk tk' tk2 tk3:Nat),vs.getD i Value.none=.ref t∧s.heap.IsTuple t [Value.int (ks.getD i d).1.1 tk,Value.str (ks.getD i d).1.2 tk',Value.int (ks.getD i d).2.1 tk2,Value.str (ks.getD i d).2.2 tk3].toArray:=λi hi=>by
  have hi2:i < ts.length:=by omega
  obtain ⟨u,hu,ru⟩:=r.get (i:=i) (x:=V.ref (ts.getD i 0)) (by rw[aa7,aa4,aa0 hi2];rfl);cases (show u=Value.ref (ts.getD i 0) from ru)
  obtain ⟨_,its,ri,pi⟩:=vz hok (hR i hi);cases ri with
  | cons r1 rr=>
   cases rr with
   | cons r2 rr=>
    cases rr with
    | cons r3 rr=>
     cases rr with
     | cons r4 rr=>
      cases rr
      obtain ⟨tk,rfl⟩:=r1;obtain ⟨tk',rfl⟩:=r2;obtain ⟨tk2,rfl⟩:=r3;obtain ⟨tk3,rfl⟩:=r4;exact ⟨_,tk,tk',tk2,tk3,by rw[aa4,hu];rfl,pi⟩
 obtain ⟨firsts,kt,kl,kT⟩:=km (M:=model P w) (h:=s.heap) (T:=.type "int") vs λv hv=>by
  obtain ⟨i,hi,e⟩:=List.mem_iff_getElem.mp hv;obtain ⟨t,tk,tk',tk2,tk3,et,⟨ob,ho,hc,n,hd⟩⟩:=row i (by omega);rw[aa4,aa0 hi] at et;refine ⟨t,ob,_,n,.int (ks.getD i d).1.1 tk,by rw[←e];exact et,ho,hc,hd,rfl,?_⟩;exact .now
 refine PySem.W.kat_kind kt (by omega) kT (by rfl) ⟨rfl,λi j C hi hj hC=>?_⟩;rw[o.rank (by omega) (by omega)] at hC;obtain ⟨t,tk,tk',tk2,tk3,et,pt⟩:=row i (by omega);obtain ⟨u,uk,uk',uk2,uk3,eu,pu⟩:=row j (by omega);obtain ⟨ob,ho,hc,n,hd⟩:=id pt;obtain ⟨ob',ho',hc',n',hd'⟩:=id pu;generalize ks.getD i d=a at*;generalize ks.getD j d=b at*;show wpAny (model P w) A (keyLt' (tuples' true) _ _) C _ s
 rw[et,eu];refine PySem.W.kat_lt (b:=true) ho hd ho' hd' ?_;obtain ⟨⟨a1,a2⟩,a3,a4⟩:=a;obtain ⟨⟨b1,b2⟩,b3,b4⟩:=b;show PySem.W.KatLex P w A true (decide (4 < 4)) C [(.int a1 tk,.int b1 uk),(.str a2 tk',.str b2 uk'),(.int a3 tk2,.int b3 uk2),(.str a4 tk3,.str b4 uk3)] 0 s
 unfold ltQ ltK at hC;dsimp only at hC;refine PySem.W.kat_cons (SeqAt.EqAt.int_int _ _ _ _ _ _ _ _ ?_);by_cases e:a1=b1
 ·subst e;rw[beq_self_eq_true];rw[if_pos (rfl:a1=a1)] at hC;refine PySem.W.kat_yes (PySem.W.kat_cons (SeqAt.EqAt.str_str _ _ _ _ _ _ _ _ ?_));by_cases e2:a2=b2
  ·subst e2;rw[beq_self_eq_true];rw[if_pos (rfl:(a1,a2)=(a1,a2))] at hC;refine PySem.W.kat_yes (PySem.W.kat_cons (SeqAt.EqAt.int_int _ _ _ _ _ _ _ _ ?_));by_cases e3:a3=b3
   ·subst e3;rw[beq_self_eq_true];rw[if_pos (rfl:a3=a3)] at hC;refine PySem.W.kat_yes (PySem.W.kat_cons (SeqAt.EqAt.str_str _ _ _ _ _ _ _ _ ?_));by_cases e4:a4=b4
    ·subst e4;rw[beq_self_eq_true];rw[lg] at hC;exact PySem.W.kat_yes (PySem.W.kat_nil hC)
    ·rw[show (a4==b4)=false from beq_eq_false_iff_ne.mpr e4];exact PySem.W.kat_no (PySem.W.kat_one _ _ (SeqAt.LtAt.str _ _ _ _ hC))
   ·rw[show (a3==b3)=false from beq_eq_false_iff_ne.mpr e3];rw[if_neg e3] at hC;exact PySem.W.kat_no (PySem.W.kat_one _ _ (lt_int hC))
  ·rw[show (a2==b2)=false from beq_eq_false_iff_ne.mpr e2];rw[if_neg λz=>e2 (acq z).2] at hC;exact PySem.W.kat_no (PySem.W.kat_one _ _ (SeqAt.LtAt.str _ _ _ _ hC))
 ·rw[show (a1==b1)=false from beq_eq_false_iff_ne.mpr e];rw[if_neg λz=>e (acq z).1,if_neg e] at hC;exact PySem.W.kat_no (oneLt_int hC)
end
theorem Dk {ks:List Rq} {d:Rq} {i j:Nat} (h:ks.getD i d=ks.getD j d):rank ks.length (λi j=>ltQ (ks.getD i d) (ks.getD j d)) i=rank ks.length (λi j=>ltQ (ks.getD i d) (ks.getD j d)) j:=by
 unfold rank;dsimp only;rw[h]
end L2
namespace L2
open PySem PySem.Spec PyProof.Rows
theorem Ob {lo:Int} {n:Nat} {fr:St} {tc:TT} {te:TE} {D:Addr} {H1:Hp} {Q:Hp→Prop} (P:Nat→List V→Hp→Prop) (hn:n < sizeLine) (h0:P 0 [] (upd H1 D (.lst [])))
  (step:∀(i:Nat) ys H (G:Hp→Prop) (K':V→Hp→Prop),i < n→P i ys H→ys.length≤i→H D=some (.lst ys)→(∀H3,H3 D=some (.lst ys)→P (i+1) ys H3→G H3)→(∀y H4,H4 D=some (.lst ys)→P (i+1) (ys++[y]) (upd H4 D (.lst (ys++[y])))→K' y H4)→tc ([some (.int (lo+i))]++fr) H λb H3=>if b=true then te ([some (.int (lo+i))]++fr) H3 K' else G H3)
  (done:∀ys H,P n ys H→ys.length≤n→H D=some (.lst ys)→Q H):LC 1 fr (cj 0) tc te (Itr lo n) D H1 Q:=by
 refine ⟨λi m H=>m=n - i∧i≤n∧∃ys,H D=some (.lst ys)∧P i ys H∧ys.length≤i,⟨n,by simp,aa8 _,[],ae,h0,aa6 _⟩,?_⟩;rintro i m H ⟨rfl,hi,ys,hys,hP,hl⟩;by_cases hlt:i < n
 ·refine .inr ⟨hlt,λτ x H' hτ hy=>?_⟩;obtain ⟨e1,e2⟩:=hy;subst e1 e2;obtain ⟨c,rfl⟩:∃c,τ=[c]:=List.length_eq_one_iff.mp hτ;refine ⟨⟨[some (.int (lo+i))],rfl,rfl⟩,step i ys H' _ _ hlt hP hl hys (λH3 q1 q2=>⟨n - (i+1),by omega,rfl,hlt,ys,q1,q2,acu hl⟩) λy H4 q1 q2=>⟨ys,q1,by omega,n - (i+1),by omega,rfl,hlt,ys++[y],ae,q2,?_⟩⟩;rw[aa2,aa9];omega
 ·obtain rfl:i=n:=by omega
  exact .inl ⟨aa6 _,done ys H hP hl hys⟩
end L2
namespace Pc
open PySem PySem.Spec L2 PyProof.Rows Fm
def qo (H:Hp) (x:V):Prop:=∃(a:Addr) (t:Tr),x=.ref a∧H a=some (.tup [.int t.place,.str t.kind,.int t.price,.str t.name])
def cz (H:Hp) (xs:List V) (m:Nat):Prop:=xs.length≤m∧∀x∈xs,qo H x
def TabAt (H:Hp) (a:Addr) (m:Nat):Prop:=∃xs,H a=some (.lst xs)∧cz H xs m
theorem qo.tk {H H':Hp} {x:V} (h:qo H x) (s:TK H H'):qo H' x:=by
 obtain ⟨a,t,e,h⟩:=h;exact ⟨a,t,e,s _ _ h⟩
theorem cz.tk {H H':Hp} {xs:List V} {m:Nat} (h:cz H xs m) (s:TK H H'):cz H' xs m:=⟨h.1,λx hx=>(h.2 x hx).tk s⟩
theorem cz.same {H H':Hp} {xs:List V} {m:Nat} (h:cz H xs m) (s:ak H H'):cz H' xs m:=h.tk (TK.of s)
theorem cz.mono {H:Hp} {xs:List V} {m m':Nat} (h:cz H xs m) (l:m≤m'):cz H xs m':=⟨aay h.1 l,h.2⟩
theorem cz.snoc {H:Hp} {xs:List V} {m:Nat} {x:V} (h:cz H xs m) (hx:qo H x):cz H (xs++[x]) (m+1):=⟨by rw[aa2];have:=h.1;simp;omega,λy hy=>by
 rcases List.mem_append.mp hy with hy | hy
 ·exact h.2 y hy
 ·rw[List.mem_singleton.mp hy];exact hx⟩
theorem cz.append {H:Hp} {xs ys:List V} {m k:Nat} (h:cz H xs m) (h':cz H ys k):cz H (xs++ys) (m+k):=⟨by rw[aa2];have:=h.1;have:=h'.1;omega,λy hy=>by
 rcases List.mem_append.mp hy with hy | hy
 ·exact h.2 y hy
 ·exact h'.2 y hy⟩
theorem cz.nil (H:Hp) (m:Nat):cz H [] m:=⟨aa8 _,λx h=>nomatch h⟩
theorem cz.one {H:Hp} {x:V} (hx:qo H x):cz H [x] 1:=⟨aa6 _,λy hy=>by rw[List.mem_singleton.mp hy];exact hx⟩
theorem cz.cut {H:Hp} {xs:List V} {m:Nat} (h:cz H xs m) (lo hi:Option Int):cz H (cn xs lo hi) m:=⟨aay (dm xs lo hi) h.1,λx hx=>by
 unfold cn at hx;exact h.2 x (ac7 (abk hx))⟩
theorem cz.set {H:Hp} {xs:List V} {m:Nat} (h:cz H xs m) (j:Nat) {x:V} (hx:qo H x):cz H (xs.set j x) m:=⟨by rw[ae9];exact h.1,λy hy=>by
 rcases List.mem_or_eq_of_mem_set hy with hy | rfl
 ·exact h.2 y hy
 ·exact hx⟩
theorem TabAt.tk {H H':Hp} {a:Addr} {m:Nat} (h:TabAt H a m) (s:TK H H') (e:∀xs,H a=some (.lst xs)→H' a=some (.lst xs)):TabAt H' a m:=by
 obtain ⟨xs,h1,h2⟩:=h;exact ⟨xs,e _ h1,h2.tk s⟩
theorem TabAt.same {H H':Hp} {a:Addr} {m:Nat} (h:TabAt H a m) (s:ak H H'):TabAt H' a m:=h.tk (TK.of s) λxs e=>s _ _ e
theorem qo.deck {H:Hp} {x:V} (h:qo H x) {n:Int}:x≠.int n:=λe=>by
 obtain ⟨a,t,rfl,_⟩:=h;cases e
theorem TabAt.ne {H:Hp} {a d b:Addr} {m n:Nat} {ns:List Int} (h:TabAt H a m) (D:cu H d b ns n):a≠d:=λe=>by
 obtain ⟨xs,h1,h2⟩:=h;rw[e,D.1] at h1;have h1:=HO.lst.inj (aa3 h1);exact (h2.2 (.int n) (by rw[←h1];simp)).deck rfl
theorem TK.b8 {H H':Hp} {d b:Addr} {ns:List Int} {n:Nat} (D:cu H d b ns n) (s:aq d H H'):TK H H':=λ_ _ h=>dv D s h
theorem TabAt.b8 {H H':Hp} {a d b:Addr} {m n:Nat} {ns:List Int} (h:TabAt H a m) (D:cu H d b ns n) (s:aq d H H'):TabAt H' a m:=h.tk (TK.b8 D s) λxs e=>s _ _ (h.ne D) e
theorem cz.tr {H:Hp}:∀{xs:List V} {m:Nat},cz H xs m→∃(ts:List Addr) (tab:List Tr),xs=ts.map V.ref∧xk H ts tab∧tab.length≤m
 | [],m,_=>⟨[],[],rfl,⟨rfl,λj t h=>by simp at h⟩,aa8 _⟩
 | x::xs,m,h=>by
  obtain ⟨a,t,rfl,ha⟩:=h.2 x aan;obtain ⟨ts,tab,rfl,ht,hl⟩:=cz.tr (xs:=xs) (m:=m - 1) ⟨by have:=h.1;simp at this;omega,λy hy=>h.2 y (aaj _ hy)⟩;have:=h.1;rw[aal] at this;refine ⟨a::ts,t::tab,rfl,⟨by rw[aal,aal,ht.1],λj t' hj=>?_⟩,by rw[aal];omega⟩;cases j with
  | zero=>cases hj;exact ⟨a,rfl,ha⟩
  | succ j=>exact ht.2 j t' hj
noncomputable def tr4K (t:Tr):List Key:=[Sum.inl t.place,Sum.inr t.kind,Sum.inl t.price,Sum.inr t.name]
noncomputable def Ep (t:Tr):List Key:=[Sum.inl t.place,Sum.inr t.kind]
theorem xk.rq {H:Hp} {ts:List Addr} {tab:List Tr} (h:xk H ts tab):iz H ts (tab.map tr4K):=⟨by rw[aa1,h.1],λj x hx=>by
 rw[aa7] at hx;obtain ⟨t,ht,rfl⟩:=Option.map_eq_some_iff.mp hx;exact h.2 j t ht⟩
theorem RcAt.b8 {H H':Hp} {fd d b:Addr} {ns:List Int} {n:Nat} {ks:List Ky} {ls:List Addr} {nm:Ky→List Str} (h:RcAt H fd ks ls nm) (D:cu H d b ns n) (s:aq d H H'):RcAt H' fd ks ls nm:=⟨s _ _ (df h.1 D.1 (by intro z;cases z)) h.1,h.2.1,λj k l h1 h2=>by
 have e:=h.2.2 j k l h1 h2;refine s _ _ (df e D.1 λz=>?_) e;have z:=HO.lst.inj z;cases e2:nm k with
 | nil=>rw[e2] at z;cases z
 | cons y ys=>rw[e2] at z;cases z⟩
theorem TbK.b8 {H H':Hp} {ld d b:Addr} {ns:List Int} {n:Nat} {g:Ky→Option Int} {ks:List Ky} (h:TbK H ld g ks) (D:cu H d b ns n) (s:aq d H H'):TbK H' ld g ks:=h.at λo e=>s _ _ (by
 obtain ⟨kvs,rfl⟩:=h.due o e;exact df e D.1 (by intro z;cases z)) e
theorem TbK.nd {H:Hp} {ld:Addr} {g:Ky→Option Int} {ks:List Ky} (h:TbK H ld g ks):ks.Nodup:=by
 obtain ⟨_,_,_,nd,_⟩:=h;exact nd
theorem Bo (js:List Int) (i:Int) (h0:0≤i) (h1:i < (js.length:Nat)):∃j,atI (js.map V.int) i=some (.int j):=by
 obtain ⟨x,hx,hm⟩:=b7 (js.map V.int) i h0 (by rw[aa1];exact h1);obtain ⟨j,_,rfl⟩:=List.mem_map.mp hm;exact ⟨j,hx⟩
theorem vq (js:List Str) (i:Int) (h0:0≤i) (h1:i < (js.length:Nat)):∃j,atI (js.map V.str) i=some (.str j):=by
 obtain ⟨x,hx,hm⟩:=b7 (js.map V.str) i h0 (by rw[aa1];exact h1);obtain ⟨j,_,rfl⟩:=List.mem_map.mp hm;exact ⟨j,hx⟩
theorem M1 {α:Type} {xs:List α} {i:Int} {v:α} (h:atI xs i=some v):∃j,ixN xs.length i=some j:=by
 unfold atI at h;cases e:ixN xs.length i with
 | none=>rw[e] at h;cases h
 | some j=>exact ⟨j,rfl⟩
theorem cut3t (a b c d:V):cn [a,b,c,d] (some 3) none=[d]:=As [a,b,c,d] 3 0 (by show (3:Nat)≤4;decide)
theorem Jy (H:Hp):iz H [] []:=⟨rfl,λj x h=>by simp at h⟩
theorem zk {H H':Hp} {as:List Addr} {xs:List (List Key)} (h:iz H as xs) (s:TK H H'):iz H' as xs:=⟨h.1,λj x e=>by
 obtain ⟨a,h1,h2⟩:=h.2 j x e;exact ⟨a,h1,s _ _ h2⟩⟩
theorem Hi {H:Hp} {as:List Addr} {xs:List (List Key)} (h:iz H as xs) {a:Addr} {x:List Key} (ha:H a=some (.tup (x.map kV))):iz H (as++[a]) (xs++[x]):=by
 refine ⟨by rw[aa2,aa2,h.1];rfl,λi r' hi=>?_⟩;by_cases c':i < xs.length
 ·rw[aae c'] at hi;obtain ⟨a',g1,g2⟩:=h.2 i r' hi;exact ⟨a',by rw[aae (by rw[h.1];exact c')];exact g1,g2⟩
 ·rw[aac (by omega)] at hi;have hz:i - xs.length=0:=by
   rcases abr (i - xs.length) with g | g
   ·exact g
   ·rw[abg (by rw[aa9];omega)] at hi;cases hi
  rw[hz] at hi;cases hi
  exact ⟨a,by rw[aac (by rw[h.1];omega),h.1,hz];rfl,ha⟩
noncomputable def Ce (r:Rw):List Key:=kyK (ee r)
theorem Jf {tab:List Tr} {rows:List Rw} (e:tab.map Ep=rows.map Ce):tab.length=rows.length∧∀(j:Nat) (t:Tr) (r:Rw),tab[j]?=some t→rows[j]?=some r→t.place=(r.place:Int)∧t.kind=r.kind:=by
 refine ⟨by have:=congrArg ac0 e;rw[aa1,aa1] at this;exact this,λj t r h1 h2=>?_⟩;have:=congrArg (λl=>l[j]?) e;simp only[aa7,h1,h2,abw] at this;have:=aa3 this;unfold Ep Ce kyK ee at this;simpa using this
theorem yf.keys {tab:List Tr} {rows:List Rw} (h:yf tab rows):tab.map Ep=rows.map Ce:=by
 apply acd
 intro j;rw[aa7,aa7];by_cases hj:j < tab.length
 ·have hj2:j < rows.length:=by rw[←h.1];exact hj
  obtain ⟨h1,h2,_⟩:=h.2 j _ _ (aa0 hj) (aa0 hj2);rw[aa0 hj,aa0 hj2,abw,abw];unfold Ep Ce kyK ee;rw[h1,h2]
 ·rw[abg (by omega),abg (by have:=h.1;omega)];rfl
structure Lst (H:Hp) (kinds:List Str) (rs:List Rl) (ws:List V) (g:Ky→Option Int) (ks:List Ky) (lx:List Addr) (ld rd:Addr):Prop where
 bk:Bk kinds rs
 tw:Tw ws
 T:Tbl (m8 kinds rs ws) g
 l:TbK H ld g ks
 r:RcAt H rd ks lx (dz (i5 kinds rs ws) g)
 k:ks.length≤20000
theorem Lst.same {H H':Hp} {kinds:List Str} {rs:List Rl} {ws:List V} {g:Ky→Option Int} {ks:List Ky} {lx:List Addr} {ld rd:Addr} (h:Lst H kinds rs ws g ks lx ld rd) (s:ak H H'):Lst H' kinds rs ws g ks lx ld rd:=⟨h.bk,h.tw,h.T,h.l.same s,h.r.same s,h.k⟩
theorem Lst.b8 {H H':Hp} {kinds:List Str} {rs:List Rl} {ws:List V} {g:Ky→Option Int} {ks:List Ky} {lx:List Addr} {ld rd d b:Addr} {ns:List Int} {n:Nat} (h:Lst H kinds rs ws g ks lx ld rd) (D:cu H d b ns n) (s:aq d H H'):Lst H' kinds rs ws g ks lx ld rd:=⟨h.bk,h.tw,h.T,h.l.b8 D s,h.r.b8 D s,h.k⟩
theorem Hb {kinds:List Str} {rs:List Rl} {ws:List V} {g:Ky→Option Int} (bk:Bk kinds rs) (T:Tbl (m8 kinds rs ws) g) {k:Ky} {v:Int} (h:g k=some v):0 < (dz (i5 kinds rs ws) g k).length:=by
 obtain ⟨r,hr,h1,h2,h3⟩:=Cc bk T h;obtain ⟨nm,_,hn⟩:=Cb T hr;rw[show ee r=k by unfold ee;rw[h1,h2]] at hn;cases e:dz (i5 kinds rs ws) g k with
 | nil=>rw[e] at hn;cases hn
 | cons y ys=>exact aet _
section
variable {P:Program} {w:World} {A:Around}
theorem Bp {H:Hp} {ld:Addr} {g:Ky→Option Int} {ks:List Ky} {Q:List Addr→Addr→List Nat→Prop} (T8:TbK H ld g ks) (hk:ks.length≤20000)
  (q:∀(l:Addr) (is:List Nat) (ts:List Addr),is.Perm (aat ks.length)→(∀i j,i≤j→j < ks.length→rank ks.length (λi j=>ltK ((ks.map kyI).getD i (0,"")) ((ks.map kyI).getD j (0,""))) (is.getD i 0)≤rank ks.length (λi j=>ltK ((ks.map kyI).getD i (0,"")) ((ks.map kyI).getD j (0,""))) (is.getD j 0))→(∀i,i < ks.length→H (ts.getD i 0)=some (kyT (ks.getD i (0,""))))→H l=none→Q ts l is):
  ∃kvs,H ld=some (.dT kvs)∧kvs.length≤100000∧∀ts:List Addr,ts.length=kvs.length→(∀(i:Nat) (k:List Key) (v:V),kvs[i]?=some (k,v)→∃t,ts[i]?=some t∧H t=some (.tup (k.map kV)))→∃rk,En P w A H (ts.map V.ref) rk∧(∀i j,i < ts.length→j < ts.length→ts.getD i 0=ts.getD j 0→rk i=rk j)∧
  ∀(l:Addr) (is:List Nat),is.Perm (aat ts.length)→(∀i j,i≤j→j < ts.length→rk (is.getD i 0)≤rk (is.getD j 0))→H l=none→Q ts l is:=by
 obtain ⟨kvs,k1,k2,nd,k4⟩:=id T8;have kl:kvs.length=ks.length:=by
  have:=congrArg ac0 k2;rw[aa1,aa1] at this;exact this
 refine ⟨kvs,k1,by omega,λts tl hts=>?_⟩;have key:∀i,i < ks.length→H (ts.getD i 0)=some (kyT (ks.getD i (0,""))):=λi hi=>TbK.keys (d:=ld) (g:=g) k2 hts hi;have gk:∀i,i < ks.length→(ks.map kyI).getD i (0,"")=kyI (ks.getD i (0,"")):=λi hi=>getD_map kyI ks i (0,"") (0,"") hi;refine ⟨_,Nn (ks:=ks.map kyI) (d:=(0,"")) (by rw[aa1];omega) (λi hi=>?_),λi j hi hj e=>Ht ?_,λl is hp hs hl=>?_⟩
 ·rw[aa1] at hi;rw[gk i hi];exact key i hi
 ·have h1:=key i (by omega);have h2:=key j (by omega);rw[e,h2] at h1;rw[gk i (by omega),gk j (by omega)];have h1:=aa3 h1;unfold kyT at h1;simp only[HO.tup.injEq,ac6,V.int.injEq,V.str.injEq,and_true] at h1;unfold kyI;rw[h1.1,h1.2]
 have hp':is.Perm (aat ks.length):=by rw[←kl,←tl];exact hp
 refine q l is ts hp' (λi j hij hj=>?_) key hl;have:=hs i j hij (by omega);rw[aa1] at this;exact this
theorem Jo {K:PySem.W.Frag} {H:Hp} {p:Addr} {xs:List V} {m:Nat} {Q:List V→Addr→List Nat→Prop} (hp:H p=some (.lst xs)) (hx:cz H xs m) (hm:m≤100000)
  (q:∀(l:Addr) (is:List Nat),cz H (is.map λi=>xs.getD i .non) m→H l=none→Q xs l is):
  ∃ys,(SqL K H p ys∨SqT K H p ys)∧ys.length≤100000∧∃rk,En P w A H ys rk∧(∀i j,i < ys.length→j < ys.length→ys.getD i .non=ys.getD j .non→rk i=rk j)∧
  ∀(l:Addr) (is:List Nat),is.Perm (aat ys.length)→(∀i j,i≤j→j < ys.length→rk (is.getD i 0)≤rk (is.getD j 0))→H l=none→Q ys l is:=by
 obtain ⟨ts,tab,rfl,ht,htl⟩:=hx.tr;have hl:=ht.1;have tg:∀i,i < tab.length→H (ts.getD i 0)=some (.tup (rqV ((tab.map λt=>(((t.place,t.kind),(t.price,t.name)):Rq)).getD i ((0,""),(0,""))))):=λi hi=>by
  obtain ⟨a,h1,h2⟩:=ht.2 i _ (aa0 hi);rw[aa4,h1,aa4,aa7,aa0 hi];exact h2
 refine ⟨ts.map V.ref,.inl (SqL.of hp),by rw[aa1];omega,_,O7 (ks:=tab.map λt=>(((t.place,t.kind),(t.price,t.name)):Rq)) (d:=((0,""),(0,""))) (by rw[aa1];exact hl) (λi hi=>tg i (by rw[aa1] at hi;exact hi)),λi j hi hj e=>Dk ?_,λl is hp hs hl2=>q l _ ⟨?_,λx hxm=>?_⟩ hl2⟩
 ·rw[aa1] at hi hj;rw[getD_map V.ref ts i 0 .non hi,getD_map V.ref ts j 0 .non hj] at e;have e:=V.ref.inj e;have h1:=tg i (by omega);have h2:=tg j (by omega);rw[e,h2] at h1;have h1:=HO.tup.inj (aa3 h1);generalize (tab.map λt=>(((t.place,t.kind),(t.price,t.name)):Rq)).getD i ((0,""),(0,""))=a at*;generalize (tab.map λt=>(((t.place,t.kind),(t.price,t.name)):Rq)).getD j ((0,""),(0,""))=b at*;obtain ⟨⟨a1,a2⟩,a3,a4⟩:=a;obtain ⟨⟨b1,b2⟩,b3,b4⟩:=b;unfold rqV at h1;simp only[ac6,V.int.injEq,V.str.injEq,and_true] at h1;obtain ⟨rfl,rfl,rfl,rfl⟩:=h1;rfl
 ·rw[aa1,hp.length_eq,abd,aa1];omega
 ·obtain ⟨i,hi,rfl⟩:=List.mem_map.mp hxm;have hil:=List.mem_range.mp (hp.mem_iff.mp hi);refine hx.2 _ ?_;rw[aa4,aa0 hil];exact ab3 hil
end
theorem TabAt.mono {H:Hp} {a:Addr} {m m':Nat} (h:TabAt H a m) (l:m≤m'):TabAt H a m':=by
 obtain ⟨xs,h1,h2⟩:=h;exact ⟨xs,h1,h2.mono l⟩
theorem TabAt.upd {H:Hp} {a T:Addr} {m:Nat} {xs ys:List V} (h:TabAt H a m) (n:a≠T) (hT:H T=some (.lst xs)):TabAt (L2.upd H T (.lst ys)) a m:=h.tk (TK.put hT (by intro _ z;cases z)) λzs e=>by rw[af n];exact e
def j7 (H:Hp) (T:Addr) (as:List Addr):Prop:=H T=some (.lst (as.map V.ref))∧∀(j:Nat) (a:Addr),as[j]?=some a→a≠T∧TabAt H a (if j < 2 then 12000 else 30000)
theorem j7.same {H H':Hp} {T:Addr} {as:List Addr} (h:j7 H T as) (s:ak H H'):j7 H' T as:=⟨s _ _ h.1,λj a e=>⟨(h.2 j a e).1,(h.2 j a e).2.same s⟩⟩
theorem j7.b8 {H H':Hp} {T d b:Addr} {ns:List Int} {n:Nat} {as:List Addr} (h:j7 H T as) (D:cu H d b ns n) (nT:T≠d) (s:aq d H H'):j7 H' T as:=⟨s _ _ nT h.1,λj a e=>⟨(h.2 j a e).1,(h.2 j a e).2.b8 D s⟩⟩
theorem j7.snoc {H:Hp} {T a:Addr} {as:List Addr} (h:j7 H T as) (ha:TabAt H a (if as.length < 2 then 12000 else 30000)) (na:a≠T):j7 (upd H T (.lst (as.map V.ref++[.ref a]))) T (as++[a]):=by
 refine ⟨by rw[ae,aaa];rfl,λi r' hi=>?_⟩;by_cases c':i < as.length
 ·rw[aae c'] at hi;obtain ⟨g1,g2⟩:=h.2 i r' hi;exact ⟨g1,g2.upd g1 h.1⟩
 ·rw[aac (by omega)] at hi;have hz:i - as.length=0:=by
   rcases abr (i - as.length) with g | g
   ·exact g
   ·rw[abg (by rw[aa9];omega)] at hi;cases hi
  rw[hz] at hi;cases hi
  obtain rfl:i=as.length:=by omega
  exact ⟨na,ha.upd na h.1⟩
def oj:Sp:=λvs H Q _=>∃(d b ld rd:Addr) (ns:List Int) (n:Nat) (kinds:List Str) (rs:List Rl) (ws:List V) (g:Ky→Option Int) (ks:List Ky) (lx:List Addr),vs=[.ref d,.ref ld,.ref rd]∧cu H d b ns n∧n≤50000∧Lst H kinds rs ws g ks lx ld rd∧∀(l:Addr) (n':Nat) (H':Hp),aq d H H'→H' d=some (.lst [.ref b,.int (n':Int)])→n'≤n+ks.length→H l=none→TabAt H' l ks.length→Q (.ref l) H'
def lz:Sp:=λvs H Q _=>∃(d b tl bt nl:Addr) (ns:List Int) (n m:Nat) (kinds:List Str) (rs:List Rl) (zs:List Str),vs=[.ref d,.ref tl,.ref bt,.ref nl]∧cu H d b ns n∧n≤50000∧TabAt H tl m∧m≤40000∧cy H bt kinds rs∧Bk kinds rs∧1≤rs.length∧cg H nl zs∧∀(l:Addr) (H':Hp),aq d H H'→H' d=some (.lst [.ref b,.int ((n+1:Nat):Int)])→H l=none→TabAt H' l (2*m+1)→Q (.ref l) H'
def zp:Sp:=λvs H Q _=>∃(tl ld rd:Addr) (ts:List Addr) (tab:List Tr) (kinds:List Str) (rs:List Rl) (ws:List V) (g:Ky→Option Int) (ks:List Ky) (lx:List Addr),vs=[.ref tl,.ref ld,.ref rd]∧H tl=some (.lst (ts.map V.ref))∧xk H ts tab∧tab.length≤100000∧Lst H kinds rs ws g ks lx ld rd∧∀(c:Bool) (H':Hp),ak H H'→(c=true↔yf tab (rowsOf kinds rs ws g))→Q (.bl c) H'
def oh:Sp:=λvs H Q _=>∃(tl:Addr) (m:Nat),vs=[.ref tl]∧TabAt H tl m∧m≤100000∧∀(l:Addr) (H':Hp),ak H H'→H l=none→TabAt H' l m→Q (.ref l) H'
theorem Kh {d b ld rd:Addr} {ns:List Int} {n:Nat} {kinds:List Str} {rs:List Rl} {ws:List V} {g:Ky→Option Int} {ks:List Ky} {lx:List Addr} {H:Hp} {Q:VK} {E:XK} (p0:cu H d b ns n) (p1:n≤50000) (p2:Lst H kinds rs ws g ks lx ld rd) (p3:∀(l:Addr) (n':Nat) (H':Hp),aq d H H'→H' d=some (.lst [.ref b,.int (n':Int)])→n'≤n+ks.length→H l=none→TabAt H' l ks.length→Q (.ref l) H'):oj [.ref d,.ref ld,.ref rd] H Q E:=⟨d,b,ld,rd,ns,n,kinds,rs,ws,g,ks,lx,rfl,p0,p1,p2,p3⟩
theorem Jh {d b tl bt nl:Addr} {ns:List Int} {n m:Nat} {kinds:List Str} {rs:List Rl} {zs:List Str} {H:Hp} {Q:VK} {E:XK} (p0:cu H d b ns n) (p1:n≤50000) (p2:TabAt H tl m) (p3:m≤40000) (p4:cy H bt kinds rs) (p5:Bk kinds rs) (p6:1≤rs.length) (p7:cg H nl zs) (p8:∀(l:Addr) (H':Hp),aq d H H'→H' d=some (.lst [.ref b,.int ((n+1:Nat):Int)])→H l=none→TabAt H' l (2*m+1)→Q (.ref l) H'):lz [.ref d,.ref tl,.ref bt,.ref nl] H Q E:=⟨d,b,tl,bt,nl,ns,n,m,kinds,rs,zs,rfl,p0,p1,p2,p3,p4,p5,p6,p7,p8⟩
theorem mkDueT {tl ld rd:Addr} {ts:List Addr} {tab:List Tr} {kinds:List Str} {rs:List Rl} {ws:List V} {g:Ky→Option Int} {ks:List Ky} {lx:List Addr} {H:Hp} {Q:VK} {E:XK} (p0:H tl=some (.lst (ts.map V.ref))) (p1:xk H ts tab) (p2:tab.length≤100000) (p3:Lst H kinds rs ws g ks lx ld rd) (p4:∀(c:Bool) (H':Hp),ak H H'→(c=true↔yf tab (rowsOf kinds rs ws g))→Q (.bl c) H'):zp [.ref tl,.ref ld,.ref rd] H Q E:=⟨tl,ld,rd,ts,tab,kinds,rs,ws,g,ks,lx,rfl,p0,p1,p2,p3,p4⟩
theorem Md {tl:Addr} {m:Nat} {H:Hp} {Q:VK} {E:XK} (p0:TabAt H tl m) (p1:m≤100000) (p2:∀(l:Addr) (H':Hp),ak H H'→H l=none→TabAt H' l m→Q (.ref l) H'):oh [.ref tl] H Q E:=⟨tl,m,rfl,p0,p1,p2⟩
end Pc
namespace K43
open PySem PySem.Spec L2 PyProof.Rows Pc
set_option hygiene false
set_option compiler.extract_closed false
local macro_rules | `(tactic| push_cast [$xs,*])=>`(tactic| simp only [↓Hy,↓Pj,↓Nv,↓Pa,↓exists_eq_left,↓exists_eq_left',↓int_ex,↓ref_ex,↓bl_ex,↓Nq,vn,Ea,rID,rUD,tBD,Ef,Mq,Me,Mc,tSeq,tIfS,tRet,tRetN,tNext,tVar,tC,Cp,tB,tOp,tUn,rI,rI0,rU,rEq,rNe,M4,tCB,tCons,tNil,tAnd,tOr,tNot,tAndV,tOrV,tNotV,tIf,cj,tAsg,tBM,tBM0,tSl,E4,K0,rSlS,rSlL,tLst,tTup,tDrop,tNoIf,iStr,iList,iTup,iRng1,iRng2,tLC,Ki,xg,List.set_cons_zero,List.set_cons_succ,List.getElem?_cons_zero,List.getElem?_cons_succ,Option.some.injEq,V.int.injEq,V.str.injEq,V.bl.injEq,V.ref.injEq,List.cons.injEq,exists_eq_left,exists_eq_left',exists_eq_right,exists_eq_right',exists_and_left,exists_and_right,and_true,true_and,List.cons_append,List.nil_append,List.append_nil,reduceCtorEq,false_and,exists_false,false_or,or_false,decide_eq_true_eq,eq_self,if_true,if_false,Bool.false_eq_true,Bool.true_eq_false,cxOf_K,cxOf_P,cxOf_w,Oj,cxOf_b,List.map_cons,List.map_nil,Option.getD_some,Option.getD_none,exists_const,nox_K,and_assoc,exists_eq,exists_eq',V.ty.injEq,tVals,Int.reduceLT,Int.reduceLE,Int.reduceNeg,Int.reducePow,Nat.reduceLT,Nat.reduceLeDiff,O8,Nc,pj,tCallV,tDIn,Gb,tDGet,iRev,tDNewK,sDPut,and_self,exists_prop,$xs,*])
set_option hygiene true
set_option compiler.extract_closed true
noncomputable def top (i:Nat):Stmt:=PySem.Challenge.pw_pricecover_k43_is_table.main.body.getD i (.Pass ⟨0,0,0,0⟩)
structure Gs (w:World) (K:PySem.W.Frag) (mg:Str→Option Value):Prop where
 m_bool:mg "bool"=none
 m_dict:mg "dict"=none
 m_int:mg "int"=none
 m_isinstance:mg "isinstance"=none
 m_len:mg "len"=none
 m_list:mg "list"=none
 m_max:mg "max"=none
 m_range:mg "range"=none
 m_reversed:mg "reversed"=none
 m_sorted:mg "sorted"=none
 m_str:mg "str"=none
 m_tuple:mg "tuple"=none
 m_zip:mg "zip"=none
 m_PARTS_BELOW:∃a,mg "PARTS_BELOW"=some (.ref a)∧ModD w K a [(Sum.inr "add",.int 2),(Sum.inr "sub",.int 2),(Sum.inr "mul",.int 2),(Sum.inr "neg",.int 1)]
def Fp (K:PySem.W.Frag):Sp:=λvs H Q _=>∃(a:Addr) (ns:List Int),vs=[.ref a]∧SqL K H a (ns.map V.int)∧ns.length≤63∧∀H',Q (.bl true) H'
def spT:Sp:=λvs H Q _=>False
set_option hygiene false
local macro_rules
 | `(A0 $a)=>`(@pl _ $a _ _ rfl rfl (by decide))
 | `(A1 $a $b)=>`(@Ak _ _ _ _ _ $a $b rfl)
 | `(A2 $_)=>`(@L3 _ _ _ _)
 | `(A3 $_)=>`(@Lq _)
 | `(A4 $a $b $c)=>`(@pe_op _ _ _ _ _ _ _ _ $a $b $c)
 | `(A5 $a $b)=>`(@La _ _ _ _ _ $a $b)
 | `(A6 $a)=>`(@Qb _ _ _ $a)
 | `(A7 $a $b $c)=>`(@Lb _ _ $a _ _ _ _ $b rfl (ab5 rfl) $c rfl (.inl rfl))
 | `(A8 $a $b $c)=>`(@pe_ix _ _ _ _ _ _ _ $a $b $c (λ_ _=>rfl))
 | `(A9 $_)=>`(@O0 _)
 | `(AA $_)=>`(@nomark _ _ (by decide) (by decide))
 | `(AB $a $b $c $d)=>`(@Bw _ _ _ _ _ _ _ _ $a $b $c $d)
 | `(AC $a)=>`(@pe_lst _ _ _ _ $a)
 | `(AD $a)=>`(@ps_ret _ _ _ _ $a)
 | `(AE $a $b $c)=>`(@ps_if _ _ _ _ _ _ _ _ $a $b $c)
 | `(AF $_)=>`(@Kf _)
 | `(AG $a $b $c)=>`(@pe_has _ _ _ _ _ _ _ _ _ _ $a $b $c rfl (by decide+kernel) rfl rfl)
 | `(AH $a)=>`(@zg.str _ _ _ _ _ $a)
 | `(AI $a)=>`(@pe_tup _ _ _ _ _ $a)
 | `(AJ $a $b $c)=>`(@Fc _ _ $a _ $b rfl $c (.inl rfl))
 | `(AK $_)=>`(@Nh _)
 | `(AL $_)=>`(@K2 _ _ _ _)
 | `(AM $_)=>`(@Ff _)
 | `(AN $a $b $c $d)=>`(@L9 _ _ _ _ _ _ _ _ _ $a rfl $b $c $d (by decide) (by decide) rfl rfl)
 | `(AO $a)=>`(@pk _ $a _ _ rfl rfl (by decide))
 | `(AQ $_)=>`(@Ko _)
 | `(AR $_)=>`(@op_eq _)
 | `(AS $a)=>`(@Oe _ _ _ _ $a rfl)
 | `(AT $_)=>`(@O9 _)
 | `(AU $a $b $c $d $e $f)=>`(@pe_bm _ _ _ _ _ _ _ _ _ _ _ _ $a $b $c $d $e $f rfl rfl rfl rfl rfl)
 | `(AV $_)=>`(@x8 _)
 | `(AW $a $b)=>`(@J2 _ _ _ _ _ $a $b rfl)
 | `(AX $_)=>`(@xi _)
 | `(AY $a $b $c)=>`(@ps_for _ _ _ _ _ _ _ _ PassesOwn.never rfl $a $b $c (by intro _;rfl))
 | `(AZ $a $b $c $d)=>`(@Hj _ _ _ _ _ _ _ _ _ $a rfl $b $c $d (by decide) (by decide) rfl rfl)
 | `(B0 $_)=>`(@Qi _)
 | `(B6 $a $b $c $d)=>`(@Kc _ _ _ _ _ _ _ _ _ _ $a $b $c $d)
 | `(B7 $_)=>`(@Pu _)
 | `(B9 $a)=>`(@My _ _ _ $a)
 | `(BA $a)=>`(@PW.pt _ _ _ $a)
 | `(BB $_)=>`(@pe_bl _ _ _ _)
 | `(BC $a $b $c)=>`(@Nf _ _ _ _ _ _ $a $b $c (λ_ _=>rfl))
 | `(BD $a)=>`(@Nm _ _ _ _ $a)
 | `(BE $a $b)=>`(@Fc _ _ $a _ $b rfl (ab5 rfl) (.inr rfl))
 | `(BF $a)=>`(@Kl _ _ _ $a)
 | `(BG $_)=>`(@zg.nil)
 | `(BH $a $b $c)=>`(@Bw _ _ _ _ _ _ _ _ $a $b $c (by with_unfolding_all rfl))
 | `(BI $a $b)=>`(@Pz _ _ _ _ _ $a $b)
 | `(BJ $_)=>`(@wo _)
 | `(BK $a $b)=>`(@pw_and _ _ _ _ _ _ _ $a $b)
 | `(BL $a $b $c $d $e)=>`(@j0.mk _ _ $a $b $c _ rfl rfl rfl rfl $d rfl $e)
 | `(BM $a)=>`(@Pp _ _ _ _ $a)
 | `(BN $_)=>`(@Qr _)
 | `(BO $_)=>`(@Oa _)
 | `(BP $a $b)=>`(@Jb _ _ _ _ _ _ rfl $a $b rfl)
 | `(BQ $_)=>`(@Er _)
 | `(BR $_)=>`(@yq _)
 | `(BS $a)=>`(@Lr _ _ _ _ _ _ rfl $a rfl rfl)
 | `(BT $a $b)=>`(@P9 _ _ _ _ _ _ $a $b)
 | `(BU $a $b $c $d $e)=>`(@pe_lc _ _ _ _ _ _ _ _ _ _ _ _ _ _ _ $a rfl $b $c $d $e (by intro _;rfl))
 | `(BV $a)=>`(@zg.int _ _ _ _ _ $a)
 | `(BW $a)=>`(@pi_tup _ _ _ _ $a)
 | `(BX $a)=>`(@Pk _ _ _ $a (by intro _;rfl))
 | `(BY $a $b)=>`(@pw_or _ _ _ _ _ _ _ $a $b)
 | `(BZ $a $b)=>`(@pe_un _ _ _ _ _ _ $a $b)
 | `(C0 $a $b $c)=>`(@Lb _ _ $a _ _ _ _ $b rfl (ab7 rfl) $c rfl (.inl rfl))
 | `(C1 $_)=>`(@Cw _)
 | `(C2 $a $b)=>`(@pe_gty _ _ _ _ $a $b rfl (by decide+kernel) (by decide+kernel))
 | `(C3 $a)=>`(@pw_or1 _ _ _ _ $a)
 | `(C4 $a $b)=>`(@Jp _ _ _ _ _ _ PassesOwn.never $a $b)
 | `(C5 $a $b $c $d)=>`(@Af _ _ _ _ _ _ _ _ $a $b $c $d)
 | `(C6 $a $b $c)=>`(@Ih _ _ _ _ _ $a $b $c)
 | `(C7 $a $b)=>`(@ps_asg _ _ _ _ _ _ $a $b rfl rfl rfl)
 | `(C8 $a $b $c)=>`(@pg_sub _ _ _ _ _ _ _ $a $b $c (by intro _;rfl))
 | `(C9 $a $b $c $d $e)=>`(@pe_bm0 _ _ _ _ _ _ _ _ _ $a $b $c $d $e rfl rfl)
 | `(CA $a $b $c)=>`(@Le _ _ _ _ _ _ _ _ $a $b $c)
 | `(CB $a $b $c)=>`(@Jw _ _ _ _ _ _ _ _ _ $a $b $c)
set_option hygiene true
section
variable {P:Program} {w:World} {K:PySem.W.Frag} {mg:Str→Option Value} {base:Heap} {k:Nat}
noncomputable abbrev Ee:Stmt:=top 2
theorem scHow:az ["word"] ["word"] (ah Ee):=⟨rfl,rfl,rfl,by decide+kernel,rfl,by decide+kernel,by decide+kernel⟩
theorem hasHow (G:Gs w K mg) (D:Def K mg "how_many_below" Ee ["word"]):Has P w K mg base (k+1) "how_many_below" ["word"] vd:=by
 refine D.has scHow (λvs H Q E h=>?_) (λf cdv A outer s H vs Q E hr h=>?_)
 ·obtain ⟨_,rfl,_,_⟩:=h;rfl
 have nd:=scHow.nd;have hu:=b9 hr;have hu0:=aai hu;obtain ⟨v,rfl,hw,q⟩:=h;obtain ⟨a_PARTS_BELOW,m_PARTS_BELOW,s_PARTS_BELOW⟩:=G.m_PARTS_BELOW;refine ⟨_,(A6 (AD (@Js _ _ _ _ _ _ _ _ _ _ (@Qa _ _ _ _ m_PARTS_BELOW rfl (by decide+kernel)) s_PARTS_BELOW (A0 0) (A2 0) (@M2.mk _ _ _ _ _ _ _ rfl rfl rfl rfl)))),?_⟩;rw[show start ["word"] [v]=[some (v)] from rfl];clear hu hu0 nd hr;push_cast [J0];obtain ⟨k,rfl⟩:=hw;refine ⟨k,rfl,?_⟩;show Q ((dh parts k).getD (V.int 0)) H
 rw[Hn];exact q
noncomputable abbrev jg:Stmt:=top 3
theorem Bi:az ["words","place","lacking","at"] ["words","place"] (ah jg):=⟨rfl,rfl,rfl,by decide+kernel,rfl,by decide+kernel,by decide+kernel⟩
theorem Il (G:Gs w K mg) (h_how_many_below:Has P w K mg base k "how_many_below" ["word"] vd) (D:Def K mg "place_behind" jg ["words","place"]):Has P w K mg base (k+1) "place_behind" ["words","place"] (wd K):=by
 refine D.has Bi (λvs H Q E h=>?_) (λf cdv A outer s H vs Q E hr h=>?_)
 ·obtain ⟨_,_,_,_,rfl,_,_,_,_,_⟩:=h;rfl
 have nd:=Bi.nd;have hu:=b9 hr;have hu0:=aai hu;obtain ⟨t,ws,p,n,rfl,hT,hw,hl,he,q⟩:=h;refine ⟨_,(A5 (A7 2 nd (A2 0)) (A5 (A7 3 nd (A0 1)) (A5 (C4 (AB (@jd _) (A0 2) (A2 0) (AA 0)) (A5 (A7 2 nd (A4 (AK 0) (A4 (B0 0) (A0 2) (A2 0)) (AG h_how_many_below hr (A1 (A8 (AF 0) (A0 0) (A0 3)) (A3 0))))) (A6 (A7 3 nd (A4 (AK 0) (A0 3) (A2 0)))))) (A6 (AD (A0 3)))))),?_⟩;rw[show start ["words","place","lacking","at"] [.ref t,.int (p:Int)]=[some (.ref t),some (.int (p:Int)),none,none] from rfl];clear hu hu0 nd hr;push_cast [vd];have hn:=wb _ _ _ he;rw[aa1,aah] at hn;refine kj (λσ H'=>∃(d j:Nat),σ=[some (.ref t),some (.int (p:Int)),some (.int (d:Int)),some (.int ((p+j:Nat):Int))]∧H'=H∧j≤n∧eat d ((ws.drop (p+j)).map arV)=some (n - j))
  (λσ _=>p+n - intAt σ 3) ⟨1,0,rfl,rfl,aa8 _,he⟩ ?_ ?_
 ·rintro σ H' ⟨d,j,rfl,rfl,hj,hd⟩;push_cast [vd];refine bu (λc=>?_) λc=>?_
  ·obtain ⟨d',rfl⟩:∃d',d=d'+1:=⟨d - 1,by omega⟩;have hpos:=zm _ _ _ hd;have hlt:p+j < ws.length:=by omega
   have ed:ws.drop (p+j)=ws[p+j]::ws.drop (p+j+1):=aav hlt;rw[ed,ab0,eg] at hd;obtain ⟨m,hm,em⟩:=Option.map_eq_some_iff.mp hd;refine ⟨t,ws,((p+j:Nat):Int),ws[p+j],rfl,rfl,hT,bo (aa0 hlt),hw _ (ab3 hlt),⟨d'+arV ws[p+j],by omega,j+1,by omega,rfl,by omega,?_⟩,?_⟩
   ·rw[show n - (j+1)=m by omega];exact hm
   ·show p+n - (((p+j:Nat):Int)+1).toNat < p+n - (((p+j:Nat):Int)).toNat
    omega
  ·have d0:d=0:=by omega
   subst d0;rw[kf] at hd;have:n - j=0:=(aa3 hd).symm;have e:((p+j:Nat):Int)=(p:Int)+(n:Int):=by omega
   rw[e];exact q H' (ak.refl _)
 ·intro σ H' Q1 Q2 hq h;simp only[Cp,tOp,rI0,ja,tC,j6,jv,tB] at h ⊢;obtain ⟨v,hv,i,j,e1,e2,k,e3,h⟩:=h;exact ⟨v,hv,i,j,e1,e2,k,e3,hq _ _ h⟩
noncomputable abbrev we:Stmt:=top 5
theorem Lx:az ["word","kinds"] ["word","kinds"] (ah we):=⟨rfl,rfl,rfl,by decide+kernel,rfl,by decide+kernel,by decide+kernel⟩
theorem Ov (G:Gs w K mg) (D:Def K mg "leaf_letter" we ["word","kinds"]):Has P w K mg base (k+1) "leaf_letter" ["word","kinds"] (jk K):=by
 refine D.has Lx (λvs H Q E h=>?_) (λf cdv A outer s H vs Q E hr h=>?_)
 ·obtain ⟨_,_,_,rfl,_,_,_⟩:=h;rfl
 have nd:=Lx.nd;have hu:=b9 hr;have hu0:=aai hu;obtain ⟨v,kt,kinds,rfl,hv,hK,q⟩:=h;refine ⟨_,(A5 (AE (AB (AR 0) (A0 0) (AL 0) (AA 0)) (A6 (AD (AL 0))) (AT 0)) (A5 (AE (AB (AR 0) (A0 0) (AL 0) (AA 0)) (A6 (AD (AL 0))) (AT 0)) (A6 (AD (CA (BH (BR 0) (A0 0) (A0 1)) (AL 0) (AL 0)))))),?_⟩;rw[show start ["word","kinds"] [v,.ref kt]=[some (v),some (.ref kt)] from rfl];clear hu hu0 nd hr;push_cast [rIn];have fl:(kinds.map V.str).all ij=true:=List.all_eq_true.mpr λx hx=>by obtain ⟨z,_,rfl⟩:=List.mem_map.mp hx;rfl
 unfold cm ig gq lN lV lH lO at q;refine ⟨hv.sc _,bu (λe=>?_) λn1=>⟨hv.sc _,bu (λe=>?_) λn2=>⟨_,.inr hK,hv.flat,fl,bu (λe=>?_) λe=>?_⟩⟩⟩
 ·rw[if_pos e] at q;exact q
 ·rw[if_neg n1,if_pos e] at q;exact q
 ·rw[if_neg n1,if_neg n2,if_pos e] at q;exact q
 ·rw[if_neg n1,if_neg n2,if_neg e] at q;exact q
noncomputable abbrev vy:Stmt:=top 7
theorem Ms:az ["letter","shape_word","word"] ["letter","shape_word","word"] (ah vy):=⟨rfl,rfl,rfl,by decide+kernel,rfl,by decide+kernel,by decide+kernel⟩
theorem Pm (G:Gs w K mg) (h_how_many_below:Has P w K mg base k "how_many_below" ["word"] vd) (D:Def K mg "lies_upon" vy ["letter","shape_word","word"]):Has P w K mg base (k+1) "lies_upon" ["letter","shape_word","word"] zw:=by
 refine D.has Ms (λvs H Q E h=>?_) (λf cdv A outer s H vs Q E hr h=>?_)
 ·obtain ⟨_,_,_,rfl,_,_,_⟩:=h;rfl
 have nd:=Ms.nd;have hu:=b9 hr;have hu0:=aai hu;obtain ⟨l,v,x,rfl,hv,hx,q⟩:=h;have m_isinstance:=G.m_isinstance;have m_str:=G.m_str;refine ⟨_,(A5 (AE (AB (AR 0) (A0 0) (AL 0) (AA 0)) (A6 (AD (BB 0))) (AT 0)) (A5 (AE (AB (AR 0) (A0 0) (AL 0) (AA 0)) (A6 (AD (@pe_not _ _ _ _ (AN (C1 0) m_isinstance dr (A1 (A0 2) (A1 (C2 m_str Gd) (A3 0))))))) (AT 0)) (A5 (AE (AB (AR 0) (A0 0) (AL 0) (AA 0)) (A6 (AD (@pe_and _ _ _ _ _ _ _ (AN (C1 0) m_isinstance dr (A1 (A0 2) (A1 (C2 m_str Gd) (A3 0)))) (@pe_one _ _ _ _ _ (C5 (AR 0) (AG h_how_many_below hr (A1 (A0 2) (A3 0))) (A2 0) (AA 0)))))) (AT 0)) (A6 (AD (C5 (AR 0) (A0 1) (A0 2) (AA 0))))))),?_⟩;rw[show start ["letter","shape_word","word"] [.str l,v,x]=[some (.str l),some (v),some (x)] from rfl];clear hu hu0 nd hr;push_cast [vd];unfold lies lH lN lV at q;refine ⟨rfl,bu (λe=>?_) λn1=>⟨rfl,bu (λe=>?_) λn2=>⟨rfl,bu (λe=>?_) λn3=>⟨hv.sc2 hx,?_⟩⟩⟩⟩
 ·rw[if_pos e] at q;exact q
 ·rw[if_neg n1,if_pos e] at q;obtain ⟨k',rfl⟩:=hx;cases k' with
  | inl i=>exact ⟨_,.int i,false,rfl,q⟩
  | inr z=>exact ⟨_,.str z,true,rfl,q⟩
 ·rw[if_neg n1,if_neg n2,if_pos e] at q;have hx':=hx;obtain ⟨k',rfl⟩:=hx;cases k' with
  | inl i=>exact ⟨_,.int i,false,rfl,iteF q⟩
  | inr z=>
   refine ⟨_,.str z,true,rfl,iteT ⟨hx',rfl,?_⟩⟩;rw[show decide (((arV (kV (Sum.inr z)):Nat):Int)=0)=decide (arV (kV (Sum.inr z))=0) from decide_eq_decide.mpr (by omega)];exact q
 ·rw[if_neg n1,if_neg n2,if_neg n3] at q;exact q
noncomputable abbrev vc:Stmt:=top 8
theorem Jq:az ["shape","kinds","words","place","under","at","shape_word","letter"] ["shape","kinds","words","place"] (ah vc):=⟨rfl,rfl,rfl,by decide+kernel,rfl,by decide+kernel,by decide+kernel⟩
theorem Pe (G:Gs w K mg) (h_leaf_letter:Has P w K mg base k "leaf_letter" ["word","kinds"] (jk K)) (h_lies_upon:Has P w K mg base k "lies_upon" ["letter","shape_word","word"] zw) (h_place_behind:Has P w K mg base k "place_behind" ["words","place"] (wd K)) (D:Def K mg "laid" vc ["shape","kinds","words","place"]):Has P w K mg base (k+1) "laid" ["shape","kinds","words","place"] (Ai K):=by
 refine D.has Jq (λvs H Q E h=>?_) (λf cdv A outer s H vs Q E hr h=>?_)
 ·obtain ⟨_,_,_,_,_,_,_,_,rfl,_,_,_,_,_,_,_,_,_,_,_⟩:=h;rfl
 have nd:=Jq.nd;have hu:=b9 hr;have hu0:=aai hu;obtain ⟨st,kt,wt,sh,kinds,ws,p,n,rfl,hS,hK,hW,hk,hs,hw,hTm,he,hl1,hl2,q⟩:=h;have m_tuple:=G.m_tuple;refine ⟨_,(A5 (A7 4 nd (@P0 _ _ _ _ _ (CB (AL 0) (AC (A3 0)) (CB (AL 0) (AC (A3 0)) (CB (AL 0) (AC (A3 0)) (@Qt _ _)))) rfl rfl (λe=>nomatch e) (by decide))) (A5 (A7 5 nd (A0 3)) (A5 (AY (BW (A0 0)) (AJ 6 nd (by first | exact ab5 rfl | exact ab7 rfl)) (A5 (A7 7 nd (AG h_leaf_letter hr (A1 (A0 6) (A1 (A0 1) (A3 0))))) (A5 (AE (@Dz _ _ _ _ (BX (AG h_lies_upon hr (A1 (A0 7) (A1 (A0 6) (A1 (A8 (AF 0) (A0 2) (A0 5)) (A3 0))))))) (A6 (AD (@Ed _ _ _))) (AT 0)) (BI (AE (AB (@Cs _) (A0 7) (AL 0) (AA 0)) (A6 (AS (AU PySem.F.plainAttrs_list PySem.F.slot_list_append PySem.F.type_list_append (AV 0) (BC hu (A0 4) (A0 7)) (A1 (CA (AB (AR 0) (A0 7) (AL 0) (AA 0)) (A0 5) (A8 (AF 0) (A0 2) (A0 5))) (A3 0))))) (AT 0)) (A6 (A7 5 nd (CA (AB (AR 0) (A0 7) (AL 0) (AA 0)) (AG h_place_behind hr (A1 (A0 2) (A1 (A0 5) (A3 0)))) (A4 (AK 0) (A0 5) (A2 0))))))))) (A6 (AD (AI (A1 (AZ (BJ 0) m_tuple fc (A1 (BC hu (A0 4) (AL 0)) (A3 0))) (A1 (AZ (BJ 0) m_tuple fc (A1 (BC hu (A0 4) (AL 0)) (A3 0))) (A1 (AZ (BJ 0) m_tuple fc (A1 (BC hu (A0 4) (AL 0)) (A3 0))) (A3 0)))))))))),?_⟩;rw[show start ["shape","kinds","words","place","under","at","shape_word","letter"] [.ref st,.ref kt,.ref wt,.int (p:Int)]=[some (.ref st),some (.ref kt),some (.ref wt),some (.int (p:Int)),none,none,none,none] from rfl];clear hu hu0 nd hr;push_cast [tDisp,yz];have sz:=sizeLine_eq;refine λu0 h0=>⟨aa8 _,λl1 h1=>⟨aa8 _,λl2 h2=>⟨aa8 _,λl3 h3=>⟨aa h3 _ _ _ (aa h2 _ _ _ (aa h1 _ _ _ ae)),[(Sum.inr lH,.ref l1),(Sum.inr lN,.ref l2),(Sum.inr lV,.ref l3)],rfl,by show (3:Nat)≤15;decide,?_⟩⟩⟩⟩;rw[show qp [] [(Sum.inr lH,V.ref l1),(Sum.inr lN,V.ref l2),(Sum.inr lV,V.ref l3)]=[(Sum.inr lH,V.ref l1),(Sum.inr lN,V.ref l2),(Sum.inr lV,V.ref l3)] from rfl];have n10:l1≠u0:=(ag ae h1).symm;have n20:l2≠u0:=(ag (aa h1 _ _ _ ae) h2).symm;have n30:l3≠u0:=(ag (aa h2 _ _ _ (aa h1 _ _ _ ae)) h3).symm;have n21:l2≠l1:=(ag ae h2).symm;have n31:l3≠l1:=(ag (aa h2 _ _ _ ae) h3).symm;have n32:l3≠l2:=(ag ae h3).symm;have S1:=aa h0 (.dK []);have f1:=S1.free h1;have S2:=S1.trans (aa h1 (.lst []));have f2:=S2.free h2;have S3:=S2.trans (aa h2 (.lst []));have f3:=S3.free h3;have S4:=(S3.trans (aa h3 (.lst []))).upd h0 (.dK [(Sum.inr lH,V.ref l1),(Sum.inr lN,V.ref l2),(Sum.inr lV,V.ref l3)]);have U4:UAt (upd (upd (upd (upd (upd H u0 (.dK [])) l1 (.lst [])) l2 (.lst [])) l3 (.lst [])) u0 (.dK [(Sum.inr lH,V.ref l1),(Sum.inr lN,V.ref l2),(Sum.inr lV,V.ref l3)])) u0 l1 l2 l3 ⟨[],[],[]⟩:=
  ⟨ae,by rw[af n10,af n31.symm,af n21.symm,ae];rfl,by rw[af n20,af n32.symm,ae],by rw[af n30,ae]⟩
 generalize upd (upd (upd (upd (upd H u0 (.dK [])) l1 (.lst [])) l2 (.lst [])) l3 (.lst [])) u0 (.dK [(Sum.inr lH,V.ref l1),(Sum.inr lN,V.ref l2),(Sum.inr lV,V.ref l3)])=H4 at S4 U4 ⊢;obtain ⟨P1,eP1⟩:∃P1:Nat→L2.St→Hp→Prop,∀i σ H',P1 i σ H'↔∃(q':Nat) (u:Und) (v6 v7:Option V),σ=[some (.ref st),some (.ref kt),some (.ref wt),some (.int (p:Int)),some (.ref u0),some (.int (q':Int)),v6,v7]∧ak H H'∧UAt H' u0 l1 l2 l3 u∧dy kinds ws (sh.drop i) q' u=dy kinds ws sh p ⟨[],[],[]⟩∧(u.hs.length≤i∧u.ns.length≤i∧u.vs.length≤i)∧Dg u∧∃d m,pend d ((sh.drop i).map arV)=some 0∧eat d ((ws.drop q').map arV)=some m:=⟨_,λ_ _ _=>abo⟩;refine ⟨⟨sh,S4.tup hS⟩,qd (xs:=sh) P1 ((eP1 _ _ _).mpr ⟨p,⟨[],[],[]⟩,none,none,rfl,S4,U4,rfl,⟨aa8 _,aa8 _,aa8 _⟩,⟨(λ_ h=>nomatch h),(λ_ h=>nomatch h)⟩,1,n,hTm,he⟩) (λi σ H' _ h=>by obtain ⟨_,_,_,_,_,s,_⟩:=(eP1 _ _ _).mp h;exact s.tup hS) ?_ ?_⟩
 ·intro i v σ H5 hvi hh;refine ob4 ((eP1 _ _ _).mp hh) λq' u v6 v7 hh=>?_;have s5:=hh.2.1;have U5:=hh.2.2.1;have e5:=hh.2.2.2.1;have hul:=hh.2.2.2.2.1;have huw:=hh.2.2.2.2.2.1;have hdm:=hh.2.2.2.2.2.2;obtain rfl:=hh.1;clear hh;obtain ⟨d,m,hp5,he5⟩:=hdm;have fin:∀(q2:Nat) (z:Int) (u2:Und) (w6 w7:Option V) (H':Hp),z=(q2:Int)→ak H H'→UAt H' u0 l1 l2 l3 u2→dy kinds ws (sh.drop (i+1)) q2 u2=dy kinds ws sh p ⟨[],[],[]⟩→(u2.hs.length≤i+1∧u2.ns.length≤i+1∧u2.vs.length≤i+1)→Dg u2→(∃d m,pend d ((sh.drop (i+1)).map arV)=some 0∧eat d ((ws.drop q2).map arV)=some m)→P1 (i+1) [some (.ref st),some (.ref kt),some (.ref wt),some (.int (p:Int)),some (.ref u0),some (.int z),w6,w7] H':=λq2 z u2 w6 w7 H' ez a1 a2 a3 a4 a5 a6=>(eP1 _ _ _).mpr ⟨q2,u2,w6,w7,by rw[ez],a1,a2,a3,a4,a5,a6⟩;have hil:i < sh.length:=(List.getElem?_eq_some_iff.mp hvi).1;have ed:sh.drop i=v::sh.drop (i+1):=by
   rw[aav hil];congr 1
   rw[aa0 hil] at hvi;exact aa3 hvi
  rw[ed] at e5 hp5;obtain ⟨d',rfl⟩:∃d',d=d'+1:=by
   cases d with
   | zero=>cases hp5
   | succ d'=>exact ⟨d',rfl⟩
  have hq:q' < ws.length:=by
   have a1:=zm _ _ _ he5;have a2:=wb _ _ _ he5;rw[aa1,aah] at a2;omega
  have hx:ws[q']?=some ws[q']:=aa0 hq;have hxw:=hw _ (ab3 hq);have hat:atI ws (q':Int)=some ws[q']:=bo hx;have hvw:=hs v (aak hvi);have hgd:ws.getD q' .non=ws[q']:=by rw[aa4,hx];rfl
  rw[m6,hgd] at e5;generalize ws[q']=x at hx hxw hat hgd e5;push_cast [and_true];refine Qs hvw (s5.tup hK) ?_;push_cast [and_true];refine ⟨wt,ws,(q':Int),x,rfl,rfl,s5.tup hW,hat,mkLies hvw hxw ?_⟩;push_cast [and_true];cases hli:lies (cm kinds v) v x with
  | false=>
   rw[hli,if_neg (by decide)] at e5;rw[if_pos (show (!false)=true from rfl)];have z:=q H5 s5;rw[←e5] at z;exact z
  | true=>
   rw[hli,if_pos rfl] at e5;rw[if_neg (show ¬(!true)=true by decide)];obtain ⟨d2,m2,hp6,he6⟩:=jb hk hvw hx hxw hp5 he5 hli;have hul':=u.Fb (cm kinds v) q' x hul;have huw':=huw.put hxw (cm kinds v) q';obtain ⟨b1,b2,b3,b4,b5,b6⟩:=lets;refine fb (λσ' H6=>σ'=[some (.ref st),some (.ref kt),some (.ref wt),some (.int (p:Int)),some (.ref u0),some (.int (q':Int)),some v,some (.str (cm kinds v))]∧ak H H6∧UAt H6 u0 l1 l2 l3 (u.put (cm kinds v) q' x)) ?_ ?_
   ·push_cast [and_true];refine ⟨rfl,?_⟩;rcases gh (kinds:=kinds) hvw with ⟨_,h⟩ | ⟨_,h⟩ | ⟨_,h⟩ | ⟨h,_⟩
    ·rw[h,if_pos (by decide+kernel)];refine ⟨_,U5.get2,av U5.2.2.1,rfl,?_⟩;rw[if_neg (show ¬lN=Str.ofString "h" from b1)];exact ⟨wt,ws,_,x,rfl,rfl,s5.tup hW,hat,(bb (K:=K) U5.2.2.1 (by omega) ⟨s5.upd f2 _,U5.put2 n20 n21 n32 q' x⟩).2⟩
    ·rw[h,if_pos (by decide+kernel)];refine ⟨_,U5.get3,av U5.2.2.2,rfl,?_⟩;rw[if_neg (show ¬lV=Str.ofString "h" from b2)];exact ⟨wt,ws,_,x,rfl,rfl,s5.tup hW,hat,(bb (K:=K) U5.2.2.2 (by omega) ⟨s5.upd f3 _,U5.put3 n30 n31 n32 q' x⟩).2⟩
    ·rw[h,if_pos (by decide+kernel)];refine ⟨_,U5.get1,av U5.2.1,rfl,?_⟩;rw[if_pos (show lH=Str.ofString "h" from rfl)];exact (bb (K:=K) U5.2.1 (by rw[aa1];omega) ⟨s5.upd f1 _,U5.put1 n10 n21 n31 q' x⟩).2
    ·rw[h,if_neg (by decide+kernel),u.put0];exact ⟨s5,U5⟩
   ·rintro _ H6 ⟨rfl,s6,U6⟩;push_cast [and_true];refine ⟨rfl,bu (λhH=>?_) λhH=>?_⟩
    ·have hH:cm kinds v=lH:=hH;rw[if_pos hH] at e5 he6;obtain ⟨n1,hn1⟩:=Fz he5;have en:endAt ws q'=q'+n1:=by unfold endAt;rw[hn1];rfl
     rw[en] at e5 he6;exact ⟨wt,ws,q',n1,rfl,s6.tup hW,hw,by omega,hn1,λH7 s7=>fin (q'+n1) _ _ _ _ _ (by omega) (s6.trans s7) (U6.same s7) e5 hul' huw' ⟨d2,m2,hp6,he6⟩⟩
    ·have hH:¬cm kinds v=lH:=hH;rw[if_neg hH] at e5 he6;exact fin (q'+1) _ _ _ _ _ (by omega) s6 U6 e5 hul' huw' ⟨d2,m2,hp6,he6⟩
 ·intro σ H5 hh;refine ob4 ((eP1 _ _ _).mp hh) λq' u v6 v7 hh=>?_;have s5:=hh.2.1;have U5:=hh.2.2.1;have e5:=hh.2.2.2.1;have hul:=hh.2.2.2.2.1;have huw:=hh.2.2.2.2.2.1;have hdm:=hh.2.2.2.2.2.2;obtain rfl:=hh.1;clear hh;obtain ⟨d,m,hp5,he5⟩:=hdm;rw[ach] at e5;have z:=q H5 s5;rw[←e5] at z;push_cast [and_true];refine ⟨_,U5.get1,_,.inl ⟨SqL.of U5.2.1,λt1 ht1=>?_⟩⟩;have U6:=U5.same (aa ht1 (.tup (u.hs.map plV)));refine ⟨_,U6.get2,_,.inl ⟨SqL.of U6.2.2.1,λt2 ht2=>?_⟩⟩;have U7:=U6.same (aa ht2 (.tup u.ns));refine ⟨_,U7.get3,_,.inl ⟨SqL.of U7.2.2.2,λt3 ht3=>⟨by show (3:Nat)≤sizeLine;decide,λt ht=>?_⟩⟩⟩;exact z t _ ((aa ht1 _).trans ((aa ht2 _).trans ((aa ht3 _).trans (aa ht _)))) ⟨t1,t2,t3,ae,aa ht _ _ _ (aa ht3 _ _ _ (aa ht2 _ _ _ ae)),aa ht _ _ _ (aa ht3 _ _ _ ae),aa ht _ _ _ ae⟩ ⟨⟨huw.1,by omega⟩,⟨huw.2,by omega⟩,by omega⟩
noncomputable abbrev jn:Stmt:=top 9
theorem Bv:az ["shape","kinds","under","hole_kinds"] ["shape","kinds","under"] (ah jn):=⟨rfl,rfl,rfl,by decide+kernel,rfl,by decide+kernel,by decide+kernel⟩
theorem Ia (G:Gs w K mg) (h_leaf_letter:Has P w K mg base k "leaf_letter" ["word","kinds"] (jk K)) (D:Def K mg "holes_under" jn ["shape","kinds","under"]):Has P w K mg base (k+1) "holes_under" ["shape","kinds","under"] (ou K):=by
 refine D.has Bv (λvs H Q E h=>?_) (λf cdv A outer s H vs Q E hr h=>?_)
 ·obtain ⟨_,_,_,_,_,_,rfl,_,_,_,_,_,_,_,_⟩:=h;rfl
 have nd:=Bv.nd;have hu:=b9 hr;have hu0:=aai hu;obtain ⟨st,kt,ut,sh,kinds,u,rfl,hS,hK,hU,hk,hw,hl,hn,q⟩:=h;have m_list:=G.m_list;have m_zip:=G.m_zip;refine ⟨_,(A5 (@Ar _ _ _ _ _ _ _ _ _ _ _ _ _ _ _ 3 _ _ _ nd rfl (ab5 rfl) (BL ["word"] ["kinds"] [1] (aas rfl trivial) (aas (aas rfl (aas rfl rfl)) trivial)) rfl (BW (A0 0)) (λ_ _ _=>(BE 0 (show ac2 (["word","kinds"]:List Str) by decide+kernel))) (λ_ _ _=>(@pif1 _ _ _ (AB (AR 0) (AG h_leaf_letter hr (A1 (A0 0) (A1 (AO 1) (A3 0)))) (AL 0) (AA 0)))) (λ_ _ _=>(A0 0)) rfl (by intro _;rfl) (.inl rfl)) (A6 (AD (@vm _ _ _ _ _ _ _ _ rfl rfl m_list rfl m_zip (A1 (A8 (AF 0) (A0 2) (A2 0)) (A1 (A0 3) (A3 0))) rfl rfl rfl)))),?_⟩;rw[show start ["shape","kinds","under","hole_kinds"] [.ref st,.ref kt,.ref ut]=[some (.ref st),some (.ref kt),some (.ref ut),none] from rfl];clear hu hu0 nd hr;push_cast [jk];have sz:=sizeLine_eq;refine ⟨⟨sh,hS⟩,λl hl'=>?_⟩;refine Dd (xs:=sh) (λi ys=>ys=(sh.take i).filter (isH kinds)) hS (by omega) hl' rfl (λi x ys H3 G' K' hx hP hl2 hS' hG hK'=>?_) λys H3 hP hl2 hS' hD2=>?_
 ·have hxw:=hw x (aak hx);have et:sh.take (i+1)=sh.take i++[x]:=by rw[abh,hx];rfl
  push_cast [jk];refine ⟨hxw,kinds,hS'.tup hK,rfl,bu (λe=>?_) λe=>?_⟩
  ·refine hK' _ _ (ak.refl _) ?_;rw[et,abe,←hP,aau,if_pos ((ny hk hxw).mp e)];rfl
  ·refine hG _ (ak.refl _) ?_;rw[et,abe,←hP,aau,if_neg λz=>e ((ny hk hxw).mpr z)];exact (ab1 _).symm
 ·rw[abx,←jc] at hP;subst hP;obtain ⟨t1,t2,t3,h1,h2,_⟩:=hU;push_cast [tLZ];refine au (hS' _ _ h1) rfl ⟨t1,rfl,u.hs.map plV,SqT.of (hS' _ _ h2),(ba kinds sh).map V.str,SqL.of hD2,by rw[aa1,aa1,hn],λl2 as H2 s2 hl2 hal hL hA=>q l2 H2 (hS'.trans s2) (hS'.free hl2) ⟨as,hL,?_,λj k hj=>?_⟩⟩
  ·rw[hal,aa1,ado,hn,ae5]
  ·obtain ⟨g1,g2⟩:=List.getElem?_zip_eq_some.mp (show (u.hs.zip (ba kinds sh))[j]?=some (k.1,k.2) from hj);exact hA j _ _ (by rw[aa7,g1];rfl) (by rw[aa7,g2];rfl)
noncomputable abbrev gv:Stmt:=top 10
theorem yt:az ["book","words","place","fitting","name","kind","price","shape","deeds","under"] ["book","words","place"] (ah gv):=⟨rfl,rfl,rfl,by decide+kernel,rfl,by decide+kernel,by decide+kernel⟩
theorem Et (G:Gs w K mg) (h_holes_under:Has P w K mg base k "holes_under" ["shape","kinds","under"] (ou K)) (h_laid:Has P w K mg base k "laid" ["shape","kinds","words","place"] (Ai K)) (D:Def K mg "fitting_rules" gv ["book","words","place"]):Has P w K mg base (k+1) "fitting_rules" ["book","words","place"] kq:=by
 refine D.has yt (λvs H Q E h=>?_) (λf cdv A outer s H vs Q E hr h=>?_)
 ·obtain ⟨_,_,_,_,_,_,rfl,_,_,_,_,_,_⟩:=h;rfl
 have nd:=yt.nd;have hu:=b9 hr;have hu0:=aai hu;obtain ⟨b,wt,kinds,rs,ws,p,rfl,hB,hW,bk,tw,hp,q⟩:=h;refine ⟨_,(A5 (A7 3 nd (AC (A3 0))) (A5 (AY (BW (A8 (AF 0) (A0 0) (A2 0))) (BS (AW (AJ 4 nd (by first | exact ab5 rfl | exact ab7 rfl)) (AW (AJ 5 nd (by first | exact ab5 rfl | exact ab7 rfl)) (AW (AJ 6 nd (by first | exact ab5 rfl | exact ab7 rfl)) (AW (AJ 7 nd (by first | exact ab5 rfl | exact ab7 rfl)) (AW (AJ 8 nd (by first | exact ab5 rfl | exact ab7 rfl)) (BO 0))))))) (A5 (A7 9 nd (AG h_laid hr (A1 (A0 7) (A1 (A8 (AF 0) (A0 0) (A2 0)) (A1 (A0 1) (A1 (A0 2) (A3 0))))))) (A6 (AE (BT (@zf _ _ _ _ _ (A0 9)) (by first | exact fw _ (by decide) (by decide) | rfl)) (A6 (AS (AU PySem.F.plainAttrs_list PySem.F.slot_list_append PySem.F.type_list_append (AV 0) (A0 3) (A1 (AI (A1 (A0 4) (A1 (A0 5) (A1 (A0 6) (A1 (AG h_holes_under hr (A1 (A0 7) (A1 (A8 (AF 0) (A0 0) (A2 0)) (A1 (A0 9) (A3 0))))) (A3 0)))))) (A3 0))))) (AT 0))))) (A6 (AD (A0 3))))),?_⟩;rw[show start ["book","words","place","fitting","name","kind","price","shape","deeds","under"] [.ref b,.ref wt,.int (p:Int)]=[some (.ref b),some (.ref wt),some (.int (p:Int)),none,none,none,none,none,none,none] from rfl];clear hu hu0 nd hr;push_cast [and_true];have sz:=sizeLine_eq;have rl:=bk.len;refine ⟨aa8 _,λfl hfl=>?_⟩;have S1:=aa hfl (.lst []);obtain ⟨kt,rt,ra,hb,hkt,hrt,hRA⟩:=hB;refine au (S1 _ _ hb) rfl ⟨rt,rfl,⟨_,SqT.of (S1 _ _ hrt)⟩,?_⟩;obtain ⟨P1,eP1⟩:∃P1:Nat→L2.St→Hp→Prop,∀j σ H',P1 j σ H'↔∃(as:List Addr) (v4 v5 v6 v7 v8 v9:Option V),σ=[some (.ref b),some (.ref wt),some (.int (p:Int)),some (.ref fl),v4,v5,v6,v7,v8,v9]∧ak H H'∧H' fl=some (.lst (as.map V.ref))∧dj H' (λx=>H x≠none∨x=fl) as ((rs.take j).filterMap (kg kinds ws p)):=⟨_,λ_ _ _=>abo⟩;refine qd (xs:=ra.map V.ref) P1 ((eP1 _ _ _).mpr ⟨[],none,none,none,none,none,none,rfl,S1,ae,dj.nil _ _⟩) (λj σ H' _ h=>by obtain ⟨_,_,_,_,_,_,_,_,s,_⟩:=(eP1 _ _ _).mp h;exact SqT.of (s _ _ hrt)) ?_ ?_
 ·intro j y σ H5 hy hh;refine ob7 ((eP1 _ _ _).mp hh) λas v4 v5 v6 v7 v8 v9 hh=>?_;have s5:=hh.2.1;have f5:=hh.2.2.1;have F5:=hh.2.2.2;obtain rfl:=hh.1;clear hh;rw[aa7] at hy;obtain ⟨aj,haj,rfl⟩:=Option.map_eq_some_iff.mp hy;have hjl:j < rs.length:=by rw[←hRA.1];exact (List.getElem?_eq_some_iff.mp haj).1
  have hrj:rs[j]?=some rs[j]:=aa0 hjl;obtain ⟨a',ha',sa,da,ds,g1,g2,g3⟩:=hRA.2 j _ hrj;obtain rfl:a'=aj:=aa3 (ha'.symm.trans haj);generalize rs[j]=r at hrj g1 g2;have hrm:=aak hrj;obtain ⟨n,hn⟩:=tw.eat hp;obtain ⟨w1,w2,w3⟩:=bk.sh r hrm;have twl:=tw.len;have et:(rs.take (j+1)).filterMap (kg kinds ws p)=(rs.take j).filterMap (kg kinds ws p)++(kg kinds ws p r).toList:=by
   rw[abh,hrj,adj];congr 1
  refine Mj (s5 _ _ g1) rfl ?_;push_cast [and_true];refine au (s5 _ _ hb) rfl (mkLaid (n:=n) (SqT.of (s5 _ _ g2)) (SqT.of (s5 _ _ hkt)) (SqT.of (s5 _ _ hW)) bk.kd w1 (λv hv=>(tw.w v hv).1) w2 hn (by omega) twl λH6 s6=>?_);have S6:=s5.trans s6;cases hu:dy kinds ws r.shape p ⟨[],[],[]⟩ with
  | none=>
   have ef:kg kinds ws p r=none:=by unfold kg;rw[hu];rfl
   refine yb ?_;push_cast [vt];rw[if_neg (by simp)];refine (eP1 _ _ _).mpr ⟨as,_,_,_,_,_,_,rfl,S6,s6 _ _ f5,?_⟩;rw[et,ef,show (none:Option Pc.Fr).toList=[] from rfl,ab1];exact F5.kx (Kx.same s6)
  | some u=>
   intro t H7 s7 hu7 ok7;have ef:kg kinds ws p r=some ⟨r.name,r.kind,r.price,u.hs.zip (ba kinds r.shape)⟩:=by unfold kg;rw[hu];rfl
   have S7:=S6.trans s7;push_cast [vt];rw[if_pos (by simp)];have s57:=s6.trans s7;have f7:=s57 _ _ f5;refine ⟨av f7,au (S7 _ _ hb) rfl (Ka (SqT.of (S7 _ _ g2)) (SqT.of (S7 _ _ hkt)) hu7 bk.kd w1 (by omega) (by have:=(sf bk.kd r.shape p _ u w1 hu).1;simpa using this) λl H8 s8 hl8 hh8=>⟨by show (4:Nat)≤sizeLine;decide,λpr hpr=>?_⟩)⟩;have s9:=aa hpr (.tup [V.str r.name,V.str r.kind,V.int r.price,V.ref l]);have e9:upd H8 pr (.tup [V.str r.name,V.str r.kind,V.int r.price,V.ref l]) pr=some (.tup [V.str r.name,V.str r.kind,V.int r.price,V.ref l]):=ae;generalize upd H8 pr (.tup [V.str r.name,V.str r.kind,V.int r.price,V.ref l])=H9 at s9 e9 ⊢;have s79:=s8.trans s9;have f9:=s79 _ _ f7;have fal:as.length≤100:=by
    rw[F5.1];exact aay (aby _ _) (by rw[aaw];omega)
   refine (bb (K:=K) f9 (by rw[aa1];omega) ((eP1 _ _ _).mpr ⟨as++[pr],_,_,_,_,_,_,rfl,(S7.trans s79).upd hfl _,by rw[ae,aaa];rfl,?_⟩)).2;rw[et,ef];refine dj.kx (dj.snoc (F5.kx (Kx.same (s57.trans s79))) ⟨l,?_,e9,hh8.same s9⟩) ((Kx.upd f9).weak λx hx=>.inr hx);rintro (z | z)
   ·exact z (S7.free hl8)
   ·exact (ag f7 hl8) z.symm
 ·intro σ H5 hh;refine ob7 ((eP1 _ _ _).mp hh) λas v4 v5 v6 v7 v8 v9 hh=>?_;have s5:=hh.2.1;have f5:=hh.2.2.1;have F5:=hh.2.2.2;obtain rfl:=hh.1;clear hh;push_cast [and_true];rw[aa1,abu (by rw[hRA.1];exact aa6 _)] at F5;exact q fl as H5 s5 hfl f5 (F5.weak λx hx=>.inl hx)
noncomputable abbrev ng:Stmt:=top 11
theorem Gi:az ["own","holes","least","total","hole"] ["own","holes","least"] (ah ng):=⟨rfl,rfl,rfl,by decide+kernel,rfl,by decide+kernel,by decide+kernel⟩
theorem M3 (G:Gs w K mg) (D:Def K mg "price_there" ng ["own","holes","least"]):Has P w K mg base (k+1) "price_there" ["own","holes","least"] jm:=by
 refine D.has Gi (λvs H Q E h=>?_) (λf cdv A outer s H vs Q E hr h=>?_)
 ·obtain ⟨_,_,_,_,_,_,rfl,_,_,_⟩:=h;rfl
 have nd:=Gi.nd;have hu:=b9 hr;have hu0:=aai hu;obtain ⟨own,hl,d,hs,g,n,rfl,hH,hT,q⟩:=h;refine ⟨_,(A5 (A7 3 nd (A0 0)) (A5 (AY (BD (A0 1)) (AJ 4 nd (by first | exact ab5 rfl | exact ab7 rfl)) (A5 (AE (BT (C6 hu (A0 4) (A0 2)) (by first | exact fw _ (by decide) (by decide) | rfl)) (A6 (AD (@Ed _ _ _))) (AT 0)) (A6 (A7 3 nd (A4 (AK 0) (A0 3) (BC hu (A0 2) (A0 4))))))) (A6 (AD (A0 3))))),?_⟩;rw[show start ["own","holes","least","total","hole"] [.int own,.ref hl,.ref d]=[some (.int own),some (.ref hl),some (.ref d),none,none] from rfl];clear hu hu0 nd hr;push_cast [and_true];obtain ⟨as,h1,h2,h3⟩:=hH;refine ⟨⟨_,SqL.of h1⟩,dg (xs:=as.map V.ref) (λi σ H'=>∃(c:Int) (v4:Option V),σ=[some (.int own),some (.ref hl),some (.ref d),some (.int c),v4]∧H=H'∧cost g c (hs.drop i)=cost g own hs) ⟨own,none,rfl,rfl,rfl⟩ (λi σ H' _ h=>by obtain ⟨_,_,_,rfl,_⟩:=h;exact SqL.of h1) ?_ ?_⟩
 ·rintro i y σ H' hy ⟨c,v4,rfl,rfl,hc⟩;rw[aa7] at hy;obtain ⟨a,ha,rfl⟩:=Option.map_eq_some_iff.mp hy;have hil:i < hs.length:=by rw[←h2];exact (List.getElem?_eq_some_iff.mp ha).1
  have hk:hs[i]?=some hs[i]:=aa0 hil;obtain ⟨a',ha',hA⟩:=h3 i _ hk;obtain rfl:a'=a:=aa3 (ha'.symm.trans ha);rw[aav hil] at hc;push_cast [and_true];refine ⟨_,hT.get hA,?_⟩;cases e:g hs[i] with
  | none=>
   rw[i6 e] at hc;rw[←hc] at q;exact q
  | some v=>
   rw[gu e] at hc;have hG:=hT.val hA e;rw[if_neg (by simp)];exact ⟨_,hG,hc⟩
 ·rintro σ H' ⟨c,v4,rfl,rfl,hc⟩;rw[aa1,h2,ach] at hc;have hc:some c=cost g own hs:=hc;push_cast [and_true];rw[←hc] at q;exact q
noncomputable abbrev ji:Stmt:=top 12
theorem Cq:az ["place","fitting","least","settled","name","kind","own","holes","price"] ["place","fitting","least"] (ah ji):=⟨rfl,rfl,rfl,by decide+kernel,rfl,by decide+kernel,by decide+kernel⟩
theorem Hu (G:Gs w K mg) (h_price_there:Has P w K mg base k "price_there" ["own","holes","least"] jm) (D:Def K mg "settle_part" ji ["place","fitting","least"]):Has P w K mg base (k+1) "settle_part" ["place","fitting","least"] pb:=by
 refine D.has Cq (λvs H Q E h=>?_) (λf cdv A outer s H vs Q E hr h=>?_)
 ·obtain ⟨_,_,_,_,_,_,_,rfl,_,_,_,_,_,_,_,_⟩:=h;rfl
 have nd:=Cq.nd;have hu:=b9 hr;have hu0:=aai hu;obtain ⟨p,fl,d,as,fs,g,n,rfl,hF,hFs,hT,hn,ho,hpos,hnew,q⟩:=h;refine ⟨_,(A5 (A7 3 nd (BB 0)) (A6 (C4 (@Dz _ _ _ _ (BX (A0 3))) (A5 (A7 3 nd (BB 0)) (A6 (AY (BD (A0 1)) (BS (AW (AJ 4 nd (by first | exact ab5 rfl | exact ab7 rfl)) (AW (AJ 5 nd (by first | exact ab5 rfl | exact ab7 rfl)) (AW (AJ 6 nd (by first | exact ab5 rfl | exact ab7 rfl)) (AW (AJ 7 nd (by first | exact ab5 rfl | exact ab7 rfl)) (BO 0)))))) (A5 (A7 8 nd (AG h_price_there hr (A1 (A0 6) (A1 (A0 7) (A1 (A0 2) (A3 0)))))) (A6 (AE (BA (BK (BT (@zf _ _ _ _ _ (A0 8)) (by first | exact fw _ (by decide) (by decide) | rfl)) (BM (BA (BY (BT (C6 hu (AI (A1 (A0 0) (A1 (A0 5) (A3 0)))) (A0 2)) (by first | exact fw _ (by decide) (by decide) | rfl)) (C3 (AB (@ni _) (A0 8) (BC hu (A0 2) (AI (A1 (A0 0) (A1 (A0 5) (A3 0))))) (AA 0)))))))) (A5 (@G2 _ _ _ _ _ _ _ _ _ hu (A0 2) (AI (A1 (A0 0) (A1 (A0 5) (A3 0)))) (A0 8) rfl) (A6 (A7 3 nd (BB 0)))) (AT 0)))))))))),?_⟩;rw[show start ["place","fitting","least","settled","name","kind","own","holes","price"] [.int (p:Int),.ref fl,.ref d]=[some (.int (p:Int)),some (.ref fl),some (.ref d),none,none,none,none,none,none] from rfl];clear hu hu0 nd hr;push_cast [and_true];have sz:=sizeLine_eq;have hal:=hFs.1;have own:∀f∈fs.map (fm p),1≤f.own:=λf hf=>by
  obtain ⟨f',hf',rfl⟩:=List.mem_map.mp hf;exact ho f' hf'
 obtain ⟨μ,Ok,ok0,okpos,okstep⟩:=ends (F:=fs.map (fm p)) hpos own hT.bound;have cl:∀g',cnt (fs.map (fm p)) g'≤fs.length:=λg'=>by have:=Dm (fs.map (fm p)) g';rw[aa1] at this;exact this
 have keep:∀{H':Hp},aq d H H'→H' fl=some (.lst (as.map V.ref))∧dj H' (λ_=>False) as fs:=λs'=>⟨(Kx.tb (no:=λ_=>False) hT s').l id hF,hFs.kx (Kx.tb hT s')⟩;obtain ⟨P1,eP1⟩:∃P1:L2.St→Hp→Prop,∀σ H',P1 σ H'↔∃(g':Ky→Option Int) (b:Bool) (v4 v5 v6 v7 v8:Option V),σ=[some (.int (p:Int)),some (.ref fl),some (.ref d),some (.bl b),v4,v5,v6,v7,v8]∧aq d H H'∧dc H' d g' (n+cnt (fs.map (fm p)) g')∧SetI p fs g Ok g'∧(b=true→jh (fs.map (fm p)) g'):=⟨_,λ_ _=>abo⟩;refine kj P1 (λσ H'=>2*μ (gOf H' d)+blAt σ) ((eP1 _ _).mpr ⟨g,false,none,none,none,none,none,rfl,aq.refl _ _,hT.mono (ab2 _ _),⟨ok0,λ_ _=>rfl,λk v hk hv=>by rw[hnew k hk] at hv;cases hv⟩,λe=>nomatch e⟩) ?_ ?_
 ·intro σ H1 hh;refine ob7 ((eP1 _ _).mp hh) λg1 b v4 v5 v6 v7 v8 hh=>?_;have s1:=hh.2.1;have T1:=hh.2.2.1;have I1:=hh.2.2.2.1;have st1:=hh.2.2.2.2;obtain rfl:=hh.1;clear hh;push_cast [and_true];cases b with
  | true=>
   rw[if_neg (by simp)];exact q H1 g1 s1 (T1.mono (by have:=cl g1;omega)) (st1 rfl) I1.far I1.due (okpos g1 I1.ok)
  | false=>
   rw[if_pos (by simp)];obtain ⟨f1,F1⟩:=keep s1;have e1:=zo T1;obtain ⟨Pv,ePv⟩:∃Pv:Nat→L2.St→Hp→Prop,∀i σ H',Pv i σ H'↔∃(g':Ky→Option Int) (b:Bool) (v4 v5 v6 v7 v8:Option V),σ=[some (.int (p:Int)),some (.ref fl),some (.ref d),some (.bl b),v4,v5,v6,v7,v8]∧aq d H H'∧dc H' d g' (n+cnt (fs.map (fm p)) g')∧SetI p fs g Ok g'∧(b=true→g'=g1∧∀(j:Nat) (f:Pc.Fr),j < i→fs[j]?=some f→Mm p g1 f)∧(b=false→μ g' < μ g1):=⟨_,λ_ _ _=>abo⟩;refine ⟨⟨_,SqL.of f1⟩,dg (xs:=as.map V.ref) Pv ((ePv _ _ _).mpr ⟨g1,true,v4,v5,v6,v7,v8,rfl,s1,T1,I1,λ_=>⟨rfl,λj f h=>absurd h (acb _)⟩,λe=>nomatch e⟩) (λi σ H' _ h=>by obtain ⟨_,_,_,_,_,_,_,_,s,_⟩:=(ePv _ _ _).mp h;exact SqL.of (keep s).1) ?_ ?_⟩
   ·intro i y σ H2 hy hh;refine ob7 ((ePv _ _ _).mp hh) λg2 b v4 v5 v6 v7 v8 hh=>?_;have s2:=hh.2.1;have T2:=hh.2.2.1;have I2:=hh.2.2.2.1;have bt2:=hh.2.2.2.2.1;have bf2:=hh.2.2.2.2.2;obtain rfl:=hh.1;clear hh;rw[aa7] at hy;obtain ⟨a,ha,rfl⟩:=Option.map_eq_some_iff.mp hy;have hil:i < fs.length:=by rw[←hal];exact (List.getElem?_eq_some_iff.mp ha).1
    have hfi:fs[i]?=some fs[i]:=aa0 hil;obtain ⟨f2,F2⟩:=keep s2;obtain ⟨a',ha',hl,_,h3,h4⟩:=F2.2 i _ hfi;obtain rfl:a'=a:=aa3 (ha'.symm.trans ha);generalize fs[i]=f at hfi h3 h4;have hfm:=aak hfi;refine Ck h3 rfl ?_;push_cast [and_true];refine Pd h4 T2 ?_;have no:∀H' w4 w5 w6 w7 w8,ak H2 H'→Mm p g2 f→Pv (i+1) [some (.int (p:Int)),some (.ref fl),some (.ref d),some (.bl b),w4,w5,w6,w7,w8] H':=λH' w4 w5 w6 w7 w8 s' so=>(ePv _ _ _).mpr ⟨g2,b,w4,w5,w6,w7,w8,rfl,s2.trans (aq.of s'),T2.same s',I2,λe=>⟨(bt2 e).1,λj f' hj hf'=>by
     obtain ⟨e1',h⟩:=bt2 e;by_cases c:j < i
     ·exact h j f' c hf'
     ·obtain rfl:j=i:=by omega
      obtain rfl:f=f':=aa3 (hfi.symm.trans hf');rw[←e1'];exact so⟩,bf2⟩
    have yes:∀(H':Hp) (b':Addr) (c:Int) w4 w5 w6 w7 w8,ak H2 H'→H' b'=some (kyT (p,f.kind))→cost g2 f.own f.hs=some c→Imp g2 (p,f.kind) c→∃H'',vw H' d (.ref b') (.int c) H''∧Pv (i+1) [some (.int (p:Int)),some (.ref fl),some (.ref d),some (.bl false),w4,w5,w6,w7,w8] H'':=λH' b' c w4 w5 w6 w7 w8 s' hb hc im=>by
     obtain ⟨o,hput,htb⟩:=(T2.same s').put (v:=c) hb (by have:=cl g2;omega);obtain ⟨ok',lt⟩:=okstep g2 (fm p f) c I2.ok (List.mem_map.mpr ⟨f,hfm,rfl⟩) hc im;refine ⟨upd H' d o,hput,(ePv _ _ _).mpr ⟨gb g2 (p,f.kind) c,false,w4,w5,w6,w7,w8,rfl,(s2.trans (aq.of s')).trans (aq.tb o),htb.mono (cnt_up hfm),I2.put hfm hc im ok',(λe=>nomatch e),λ_=>?_⟩⟩;have lt:μ (gb g2 (p,f.kind) c) < μ g2:=lt;cases b with
     | true=>
      obtain ⟨rfl,_⟩:=bt2 rfl;exact lt
     | false=>
      have:=bf2 rfl;omega
    cases e:cost g2 f.own f.hs with
    | none=>
     push_cast [vt];rw[if_neg (by simp)];exact no H2 _ _ _ _ _ (ak.refl _) (λc hc=>by rw[e] at hc;cases hc)
    | some c=>
     push_cast [vt];rw[if_pos (by simp)];refine ⟨by show (2:Nat)≤sizeLine;decide,λp1 hp1=>⟨_,(T2.same (aa hp1 _)).get (k:=(p,f.kind)) ae,?_⟩⟩;cases e2:g2 (p,f.kind) with
     | none=>
      rw[if_pos (by simp)];exact ⟨by show (2:Nat)≤sizeLine;decide,λp2 hp2=>yes _ p2 c _ _ _ _ _ ((aa hp1 _).trans (aa hp2 _)) ae e (.inl e2)⟩
     | some v=>
      rw[if_neg (by simp)];refine ⟨by show (2:Nat)≤sizeLine;decide,λp2 hp2=>⟨_,(T2.same ((aa hp1 _).trans (aa hp2 _))).val (k:=(p,f.kind)) ae e2,bu (λlt=>⟨by show (2:Nat)≤sizeLine;decide,λp3 hp3=>yes _ p3 c _ _ _ _ _ ((aa hp1 _).trans ((aa hp2 _).trans (aa hp3 _))) ae e (.inr ⟨v,e2,lt⟩)⟩) λnlt=>no _ _ _ _ _ _ ((aa hp1 _).trans (aa hp2 _)) λc' hc'=>⟨v,e2,?_⟩⟩⟩;rw[e] at hc';have:=aa3 hc';omega
   ·intro σ H2 hh;refine ob7 ((ePv _ _ _).mp hh) λg2 b v4 v5 v6 v7 v8 hh=>?_;have s2:=hh.2.1;have T2:=hh.2.2.1;have I2:=hh.2.2.2.1;have bt2:=hh.2.2.2.2.1;have bf2:=hh.2.2.2.2.2;obtain rfl:=hh.1;clear hh;refine ⟨(eP1 _ _).mpr ⟨g2,b,v4,v5,v6,v7,v8,rfl,s2,T2,I2,λe=>?_⟩,?_⟩
    ·obtain ⟨rfl,h⟩:=bt2 e;exact Iv λj f hf=>h j f (by rw[aa1,hal];exact (List.getElem?_eq_some_iff.mp hf).1) hf
    ·rw[e1,zo T2];cases b with
     | true=>
      obtain ⟨rfl,_⟩:=bt2 rfl;show 2*μ g2+0 < 2*μ g2+1
      omega
     | false=>
      have:=bf2 rfl;show 2*μ g2+1 < 2*μ g1+1
      omega
 ·intro σ H1 Q1 Q2 h c;simp only[tNot,j6,tB,ja] at c ⊢;obtain ⟨v,hv,cc,e,hq⟩:=c;exact ⟨v,hv,cc,e,h _ _ hq⟩
noncomputable abbrev uu:Stmt:=top 13
theorem Mf:az ["kind","price","fitting","least"] ["kind","price","fitting","least"] (ah uu):=⟨rfl,rfl,rfl,by decide+kernel,rfl,by decide+kernel,by decide+kernel⟩
theorem hasWith (G:Gs w K mg) (h_price_there:Has P w K mg base k "price_there" ["own","holes","least"] jm) (D:Def K mg "rules_with_price" uu ["kind","price","fitting","least"]):Has P w K mg base (k+1) "rules_with_price" ["kind","price","fitting","least"] zj:=by
 refine D.has Mf (λvs H Q E h=>?_) (λf cdv A outer s H vs Q E hr h=>?_)
 ·obtain ⟨_,_,_,_,_,_,_,_,rfl,_,_,_,_,_⟩:=h;rfl
 have nd:=Mf.nd;have hu:=b9 hr;have hu0:=aai hu;obtain ⟨k,v,fl,d,as,fs,g,n,rfl,hF,hFs,hn,hT,q⟩:=h;refine ⟨_,(A6 (AD (BU (BL ["name","other","own","holes"] ["kind","least","price"] [0,3,1] (aas rfl (aas rfl (aas rfl trivial))) (aas (aas rfl (aas rfl rfl)) (aas (aas rfl (aas rfl rfl)) (aas (aas rfl (aas rfl rfl)) trivial)))) (BD (A0 2)) (λ_ _ _=>(@O3 _ _ K rfl _ _ _ 4 rfl (AW (BE 0 (show ac2 (["name","other","own","holes","kind","least","price"]:List Str) by decide+kernel)) (AW (BE 1 (show ac2 (["name","other","own","holes","kind","least","price"]:List Str) by decide+kernel)) (AW (BE 2 (show ac2 (["name","other","own","holes","kind","least","price"]:List Str) by decide+kernel)) (AW (BE 3 (show ac2 (["name","other","own","holes","kind","least","price"]:List Str) by decide+kernel)) (BO 0))))) rfl rfl)) (λ_ _ _=>(@pif1 _ _ _ (BA (BK (AB (AR 0) (A0 1) (AO 4) (AA 0)) (BM (AB (AR 0) (AG h_price_there hr (A1 (A0 2) (A1 (A0 3) (A1 (AO 5) (A3 0))))) (AO 6) (AA 0))))))) (λ_ _ _=>(A0 0))))),?_⟩;rw[show start ["kind","price","fitting","least"] [.str k,.int v,.ref fl,.ref d]=[some (.str k),some (.int v),some (.ref fl),some (.ref d)] from rfl];clear hu hu0 nd hr;push_cast [jm];have sz:=sizeLine_eq;have hal:=hFs.1;have one:∀(i:Nat) (t:Addr),as[i]?=some t→∃f hl,fs[i]?=some f∧H t=some (.tup [.str f.name,.str f.kind,.int f.own,.ref hl])∧mr H hl f.hs:=λi t ht=>by
  have hi:i < fs.length:=by rw[←hal];exact (List.getElem?_eq_some_iff.mp ht).1
  obtain ⟨a,h1,hl,_,h3,h4⟩:=hFs.2 i _ (aa0 hi);obtain rfl:a=t:=aa3 (h1.symm.trans ht);exact ⟨_,hl,aa0 hi,h3,h4⟩
 refine ⟨⟨_,SqL.of hF⟩,λD hD=>Mh (as:=as) (λi ys _=>ys=(namesW (fs.take i) g k v).map V.str) (λ_ _ _ _ _ h=>h) rfl (SqL.of hF) (λi t ht=>?_) (by omega) hD rfl (λi t x0 x1 x2 x3 ys H3 G' K' ht hx hP hl2 hS' hG hK'=>?_) λys H3 hP hl2 hS' hD2=>?_⟩
 ·obtain ⟨f,hl,_,h,_⟩:=one i t ht;exact ⟨_,_,_,_,h⟩
 ·obtain ⟨f,hl,hf,h,hh⟩:=one i t ht;rw[hx] at h;simp only[ae1,HO.tup.injEq,ac6,and_true] at h;obtain ⟨rfl,rfl,rfl,rfl⟩:=h;have et:namesW (fs.take (i+1)) g k v=namesW (fs.take i) g k v++if f.kind=k∧cost g f.own f.hs=some v then [f.name] else []:=by
   unfold namesW;rw[abh,hf,abe,aaa];congr 1
   show (List.filter _ [f]).map _=_
   rw[aau];by_cases c:f.kind=k∧cost g f.own f.hs=some v
   ·rw[if_pos c,if_pos (decide_eq_true c)];rfl
   ·rw[if_neg c,if_neg (by simpa using c)];rfl
  push_cast [jm];refine ⟨rfl,bu (λe=>?_) λe=>?_⟩
  ·refine ⟨_,hh.same hS',g,⟨n,hT.same hS'⟩,?_⟩;cases e2:cost g f.own f.hs with
   | none=>
    refine ⟨rfl,?_⟩;rw[if_neg (by intro z;cases z)];refine hG _ (ak.refl _) ?_;rw[et,if_neg (λz=>by rw[e2] at z;cases z.2),ab1];exact hP
   | some c=>
    refine ⟨rfl,bu (λe3=>?_) λe3=>?_⟩
    ·have e3:c=v:=V.int.inj e3;refine hK' _ _ (ak.refl _) ?_;rw[et,if_pos ⟨e,by rw[e2,e3]⟩,aaa,←hP];rfl
    ·refine hG _ (ak.refl _) ?_;rw[et,if_neg (λz=>e3 (by rw[e2] at z;rw[aa3 z.2])),ab1];exact hP
  ·refine hG _ (ak.refl _) ?_;rw[et,if_neg (λz=>e z.1),ab1];exact hP
 ·rw[abu (by omega)] at hP;exact q D H3 hS' hD (by rw[←hP];exact hD2)
noncomputable abbrev mh:Stmt:=top 14
theorem G1:az ["book","place","fitting","least","rows","kind","price"] ["book","place","fitting","least"] (ah mh):=⟨rfl,rfl,rfl,by decide+kernel,rfl,by decide+kernel,by decide+kernel⟩
theorem Kr (G:Gs w K mg) (h_rules_with_price:Has P w K mg base k "rules_with_price" ["kind","price","fitting","least"] zj) (D:Def K mg "rows_of_part" mh ["book","place","fitting","least"]):Has P w K mg base (k+1) "rows_of_part" ["book","place","fitting","least"] uh:=by
 refine D.has G1 (λvs H Q E h=>?_) (λf cdv A outer s H vs Q E hr h=>?_)
 ·obtain ⟨_,_,_,_,_,_,_,_,_,_,rfl,_,_,_,_,_,_,_⟩:=h;rfl
 have nd:=G1.nd;have hu:=b9 hr;have hu0:=aai hu;obtain ⟨b,fl,d,p,kinds,rs,as,fs,g,n,rfl,hB,hkl,hF,hFs,hn,hT,q⟩:=h;have m_sorted:=G.m_sorted;refine ⟨_,(A5 (A7 4 nd (AC (A3 0))) (A5 (AY (BD (AN (@og _) m_sorted oz (A1 (A8 (AF 0) (A0 0) (A2 0)) (A3 0)))) (AJ 5 nd (by first | exact ab5 rfl | exact ab7 rfl)) (A6 (AE (BT (@pc_din _ _ _ _ _ hu (AI (A1 (A0 1) (A1 (A0 5) (A3 0)))) (A0 3)) (by first | exact fw _ (by decide) (by decide) | rfl)) (A5 (A7 6 nd (BC hu (A0 3) (AI (A1 (A0 1) (A1 (A0 5) (A3 0)))))) (A6 (AS (AU PySem.F.plainAttrs_list PySem.F.slot_list_append PySem.F.type_list_append (AV 0) (A0 4) (A1 (AI (A1 (A0 1) (A1 (A0 5) (A1 (A0 6) (A1 (AG h_rules_with_price hr (A1 (A0 5) (A1 (A0 6) (A1 (A0 2) (A1 (A0 3) (A3 0)))))) (A3 0)))))) (A3 0)))))) (AT 0)))) (A6 (AD (A0 4))))),?_⟩;rw[show start ["book","place","fitting","least","rows","kind","price"] [.ref b,.int (p:Int),.ref fl,.ref d]=[some (.ref b),some (.int (p:Int)),some (.ref fl),some (.ref d),none,none,none] from rfl];clear hu hu0 nd hr;push_cast [and_true];have sz:=sizeLine_eq;refine ⟨aa8 _,λrl hrl=>?_⟩;have S1:=aa hrl (.lst []);obtain ⟨kt,rt,ra,hb,hkt,hrt,hRA⟩:=hB;refine au (S1 _ _ hb) rfl ⟨kt,rfl,kinds.map V.str,.inr (SqT.of (S1 _ _ hkt)),by rw[aa1];omega,_,L7,(λi j hi hj e=>Ij hi hj e),λkl is hpm hin hk=>?_⟩;rw[zq hpm hin];have S2:=S1.trans (aa hk (.lst ((cv kinds).map V.str)));have k2:upd (upd H rl (.lst [])) kl (.lst ((cv kinds).map V.str)) kl=some (.lst ((cv kinds).map V.str)):=ae;have r2:upd (upd H rl (.lst [])) kl (.lst ((cv kinds).map V.str)) rl=some (.lst []):=aa hk _ _ _ ae;generalize upd (upd H rl (.lst [])) kl (.lst ((cv kinds).map V.str))=H2 at S2 k2 r2 ⊢;have hks:(cv kinds).length≤60:=by rw[qh];exact hkl
 have nrk:rl≠kl:=(ag (ae (H:=H) (a:=rl) (o:=.lst [])) hk);obtain ⟨P1,eP1⟩:∃P1:Nat→L2.St→Hp→Prop,∀i σ H',P1 i σ H'↔∃(bs:List Addr) (v5 v6:Option V),σ=[some (.ref b),some (.int (p:Int)),some (.ref fl),some (.ref d),some (.ref rl),v5,v6]∧ak H H'∧H' kl=some (.lst ((cv kinds).map V.str))∧H' rl=some (.lst (bs.map V.ref))∧cb H' (λx=>H x≠none∨x=rl) bs (dn ((cv kinds).take i) fs p g):=⟨_,λ_ _ _=>abo⟩;refine ⟨⟨_,SqL.of k2⟩,dg (xs:=(cv kinds).map V.str) P1 ((eP1 _ _ _).mpr ⟨[],none,none,rfl,S2,k2,r2,cb.nil _ _⟩) (λi σ H' _ h=>by obtain ⟨_,_,_,_,_,hk',_⟩:=(eP1 _ _ _).mp h;exact SqL.of hk') ?_ ?_⟩
 ·intro i y σ H5 hy hh;refine ob3 ((eP1 _ _ _).mp hh) λbs v5 v6 hh=>?_;have s5:=hh.2.1;have k5:=hh.2.2.1;have r5:=hh.2.2.2.1;have R5:=hh.2.2.2.2;obtain rfl:=hh.1;clear hh;rw[aa7] at hy;obtain ⟨z,hz,rfl⟩:=Option.map_eq_some_iff.mp hy;have et:dn ((cv kinds).take (i+1)) fs p g=dn ((cv kinds).take i) fs p g++((g (p,z)).map λv=>(⟨p,z,v,namesW fs g z v⟩:Rw)).toList:=by
   unfold dn;rw[abh,hz,adj];congr 1
  have hbl:bs.length≤60:=by
   rw[R5.1];exact aay (aby _ _) (by rw[aaw];omega)
  push_cast [and_true];refine ⟨by show (2:Nat)≤sizeLine;decide,λp1 hp1=>⟨_,(hT.same (s5.trans (aa hp1 _))).get (k:=(p,z)) ae,?_⟩⟩;have s6:=aa hp1 (.tup [V.int (p:Int),V.str z]);generalize upd H5 p1 (.tup [V.int (p:Int),V.str z])=H6 at s6 ⊢;have S6:=s5.trans s6;cases e:g (p,z) with
  | none=>
   rw[if_neg (by simp)];refine (eP1 _ _ _).mpr ⟨bs,_,_,rfl,S6,s6 _ _ k5,s6 _ _ r5,?_⟩;rw[et,e];show cb H6 _ bs (_++[])
   rw[ab1];exact R5.kx (Kx.same s6)
  | some v=>
   rw[if_pos (by simp)];refine ⟨by show (2:Nat)≤sizeLine;decide,λp2 hp2=>⟨_,(hT.same (S6.trans (aa hp2 _))).val (k:=(p,z)) ae e,?_⟩⟩;have s7:=aa hp2 (.tup [V.int (p:Int),V.str z]);generalize upd H6 p2 (.tup [V.int (p:Int),V.str z])=H7 at s7 ⊢;have S7:=S6.trans s7;have s57:=s6.trans s7;refine ⟨av (s57 _ _ r5),mkWith (S7 _ _ hF) (hFs.kx (Kx.same S7)) hn (hT.same S7) λl H8 s8 hl8 h8=>⟨by show (4:Nat)≤sizeLine;decide,λp3 hp3=>?_⟩⟩;have s9:=aa hp3 (.tup [V.int (p:Int),V.str z,V.int v,V.ref l]);have e9:upd H8 p3 (.tup [V.int (p:Int),V.str z,V.int v,V.ref l]) p3=some (.tup [V.int (p:Int),V.str z,V.int v,V.ref l]):=ae;generalize upd H8 p3 (.tup [V.int (p:Int),V.str z,V.int v,V.ref l])=H9 at s9 e9 ⊢;have s59:=s57.trans (s8.trans s9);have r9:=s59 _ _ r5;refine (bb (K:=K) r9 (by rw[aa1];omega) ((eP1 _ _ _).mpr ⟨bs++[p3],_,_,rfl,(s5.trans s59).upd hrl _,by rw[af nrk.symm];exact s59 _ _ k5,by rw[ae,aaa];rfl,?_⟩)).2;rw[et,e];refine cb.kx (cb.append (R5.kx (Kx.same s59)) (cb.one ⟨l,?_,e9,s9 _ _ h8⟩)) ((Kx.upd r9).weak λx hx=>.inr hx);rintro (y | y)
   ·exact y (S7.free hl8)
   ·exact (ag (s57 _ _ r5) hl8) y.symm
 ·intro σ H5 hh;refine ob3 ((eP1 _ _ _).mp hh) λbs v5 v6 hh=>?_;have s5:=hh.2.1;have k5:=hh.2.2.1;have r5:=hh.2.2.2.1;have R5:=hh.2.2.2.2;obtain rfl:=hh.1;clear hh;push_cast [and_true];rw[aa1,abx] at R5;exact q rl bs H5 s5 hrl r5 (R5.weak λx hx=>.inl hx)
noncomputable abbrev mi:Stmt:=top 15
theorem Fy:az ["book","words","least","parts","place","fitting","rows","part"] ["book","words"] (ah mi):=⟨rfl,rfl,rfl,by decide+kernel,rfl,by decide+kernel,by decide+kernel⟩
theorem Kv (G:Gs w K mg) (h_fitting_rules:Has P w K mg base k "fitting_rules" ["book","words","place"] kq) (h_rows_of_part:Has P w K mg base k "rows_of_part" ["book","place","fitting","least"] uh) (h_settle_part:Has P w K mg base k "settle_part" ["place","fitting","least"] pb) (D:Def K mg "rows_with_all_rules" mi ["book","words"]):Has P w K mg base (k+1) "rows_with_all_rules" ["book","words"] uc:=by
 refine D.has Fy (λvs H Q E h=>?_) (λf cdv A outer s H vs Q E hr h=>?_)
 ·obtain ⟨_,_,_,_,_,rfl,_,_,_,_,_⟩:=h;rfl
 have nd:=Fy.nd;have hu:=b9 hr;have hu0:=aai hu;obtain ⟨b,wt,kinds,rs,ws,rfl,hB,hW,bk,tw,q⟩:=h;have m_len:=G.m_len;have m_range:=G.m_range;have m_reversed:=G.m_reversed;refine ⟨_,(A5 (A7 2 nd (@Bj _ _)) (A5 (A7 3 nd (AC (A3 0))) (A5 (AY (@Iy _ _ _ _ _ _ _ _ rfl m_range (A1 (A4 (B0 0) (AN (AX 0) m_len cw (A1 (A0 1) (A3 0))) (A2 0)) (A1 (BZ (@jj _) (A2 0)) (A1 (BZ (@jj _) (A2 0)) (A3 0)))) rfl rfl) (AJ 4 nd (by first | exact ab5 rfl | exact ab7 rfl)) (A5 (A7 5 nd (AG h_fitting_rules hr (A1 (A0 0) (A1 (A0 1) (A1 (A0 4) (A3 0)))))) (A5 (AS (AG h_settle_part hr (A1 (A0 4) (A1 (A0 5) (A1 (A0 2) (A3 0)))))) (A6 (AS (AU PySem.F.plainAttrs_list PySem.F.slot_list_append PySem.F.type_list_append (AV 0) (A0 3) (A1 (AG h_rows_of_part hr (A1 (A0 0) (A1 (A0 4) (A1 (A0 5) (A1 (A0 2) (A3 0)))))) (A3 0)))))))) (A5 (A7 6 nd (AC (A3 0))) (A5 (AY (@pi_rev _ _ _ _ _ _ rfl m_reversed (A1 (A0 3) (A3 0)) rfl) (AJ 7 nd (by first | exact ab5 rfl | exact ab7 rfl)) (A6 (AS (AU PySem.F.plainAttrs_list PySem.F.slot_list_extend PySem.F.type_list_extend (@yd _) (A0 6) (A1 (A0 7) (A3 0)))))) (A6 (AD (A0 6)))))))),?_⟩;rw[show start ["book","words","least","parts","place","fitting","rows","part"] [.ref b,.ref wt]=[some (.ref b),some (.ref wt),none,none,none,none,none,none] from rfl];clear hu hu0 nd hr;push_cast [and_true];have sz:=sizeLine_eq;have wl:=tw.len;have rl:=bk.len;push_cast [Lp,iDn];intro d hd;refine ⟨aa8 _,λpl hpl=>?_⟩;have S1:=aa hd (.dT []);have S2:=S1.trans (aa hpl (.lst []));have npd:pl≠d:=(ag (ae (H:=H) (a:=d) (o:=.dT [])) hpl).symm;have d2:dc (upd (upd H d (.dT [])) pl (.lst [])) d (λ_=>none) 0:=(dc.nil (H:=H) (d:=d)).same (aa hpl _);have p2:upd (upd H d (.dT [])) pl (.lst []) pl=some (.lst []):=ae;have fpl:H pl=none:=S1.free hpl;generalize upd (upd H d (.dT [])) pl (.lst [])=H2 at S2 d2 p2 ⊢;refine ⟨ws,.inr (SqT.of (S2 _ _ hW)),ws.length,rfl,by omega,?_⟩;have fl100:∀i,(bp kinds rs ws i).length≤100:=λi=>aay (Lc kinds rs ws i) rl;obtain ⟨P1,eP1⟩:∃P1:Nat→L2.St→Hp→Prop,∀i σ H',P1 i σ H'↔∃(g:Ky→Option Int) (pa:List Addr) (v4 v5:Option V),σ=[some (.ref b),some (.ref wt),some (.ref d),some (.ref pl),v4,v5,none,none]∧ak H H'∧dc H' d g ((ws.length - i)*100)∧xr kinds rs ws i g∧H' pl=some (.lst (pa.map V.ref))∧gp H H' pl pa kinds rs ws i g:=⟨_,λ_ _ _=>abo⟩;refine Qj (n:=ws.length) P1 ((eP1 _ _ _).mpr ⟨λ_=>none,[],none,none,rfl,S2,d2.mono (aa8 _),xr.start kinds rs ws,p2,⟨by simp,λq h1 h2=>by omega⟩⟩) ?_ ?_
 ·intro i σ H5 hi hh;refine ob4 ((eP1 _ _ _).mp hh) λg pa v4 v5 hh=>?_;have s5:=hh.2.1;have T5:=hh.2.2.1;have O5:=hh.2.2.2.1;have p5:=hh.2.2.2.2.1;have P5:=hh.2.2.2.2.2;obtain rfl:=hh.1;clear hh;have fi:=fl100 i;push_cast [and_true];refine Ja (hB.same s5) (s5 _ _ hW) bk tw hi λfl as H6 s6 hfl f6 F6=>?_;refine M5 f6 (F6.weak (λ_ h=>h.elim)) (T5.same s6) (by omega) (λf hf=>(kz bk hf).1) O5.pos (λk hk=>?_) λH7 g' s7 T7 st7 far7 due7 pos7=>?_
  ·cases e:g k with
   | none=>rfl
   | some v=>
    have:=(O5.at' k v e).1;omega
  have S7:ak H H7:=λc o h=>s7 c o (ag h hd) ((s5.trans s6) c o h);have x7:∀{no:Addr→Prop},Kx no H6 H7:=Kx.tb (T5.same s6) s7;have p7:=x7.l (no:=λ_=>False) id (s6 _ _ p5);have f7:=x7.l (no:=λ_=>False) id f6;refine ⟨av p7,N4 (hB.same S7) bk.kl f7 ((F6.weak (no':=λ_=>False) (λ_ h=>h.elim)).kx x7) (by omega) T7 λl bs H8 s8 hl8 h8 R8=>?_⟩;have p8:=s8 _ _ p7;have pal:=P5.1;refine (bb (K:=K) p8 (by rw[aa1];omega) ((eP1 _ _ _).mpr ⟨g',pa++[l],_,_,rfl,(S7.trans s8).upd fpl _,((T7.same s8).at λo e=>by rw[af npd.symm];exact e).mono (by omega),xr.step bk O5 hi st7 far7 due7 pos7,by rw[ae,aaa];rfl,?_⟩)).2;refine gp.kx (gp.snoc bk (P5.kx ((Kx.same s6).trans (x7.trans (Kx.same s8)))) hi far7 ?_ h8 (R8.weak λx hx=>?_)) ((Kx.upd p8).weak λx hx=>.inr hx)
  ·rintro (y | y)
   ·exact y (S7.free hl8)
   ·exact (ag p7 hl8) y.symm
  ·rcases hx with y | y
   ·intro z;exact y (S7.free z)
   ·intro z;rw[y,p7] at z;cases z
 ·intro σ H5 hh;refine ob4 ((eP1 _ _ _).mp hh) λg pa v4 v5 hh=>?_;have s5:=hh.2.1;have T5:=hh.2.2.1;have O5:=hh.2.2.2.1;have p5:=hh.2.2.2.2.1;have P5:=hh.2.2.2.2.2;obtain rfl:=hh.1;clear hh;have pal:=P5.1;push_cast [and_true];refine ⟨aa8 _,λrl2 hrl=>⟨_,SqL.of (aa hrl _ _ _ p5),?_⟩⟩;refine M6 (xs:=pa.map V.ref) (λi σ H'=>∃(bs:List Addr) (v7:Option V),σ=[some (.ref b),some (.ref wt),some (.ref d),some (.ref pl),v4,v5,some (.ref rl2),v7]∧ak H5 H'∧H' rl2=some (.lst (bs.map V.ref))∧cb H5 (λx=>H x≠none) bs (jl kinds rs ws g i)) ⟨[],none,rfl,aa hrl _,ae,cb.nil _ _⟩ (λi σ H' _ h=>by obtain ⟨_,_,_,s,_⟩:=h;exact SqL.of (s _ _ p5)) ?_ ?_
  ·rintro i y σ H6 hi hy ⟨bs,v7,rfl,s6,r6,R6⟩;rw[aa1] at hi hy;have hiw:i < ws.length:=by omega
   obtain ⟨a,bs2,g1,g2,g3,g4⟩:=P5.2 i (aa8 _) hiw;rw[aa7,pal,show ws.length - 0 - 1 - i=ws.length - 1 - i by omega,g1] at hy;have hy:V.ref a=y:=aa3 hy;subst hy;push_cast [and_true];have bl:bs.length≤60*i:=by rw[R6.1];exact m4 kinds rs ws g bk.kl i
   have bl2:bs2.length≤60:=by rw[g4.1];exact aay (xf _ _ _ _) (by rw[qh];exact bk.kl)
   refine ⟨av r6,rl2,a,bs.map V.ref,bs2.map V.ref,rfl,rfl,r6,s6 _ _ g3,by rw[aa1,aa1];omega,?_⟩;refine ⟨s6.upd hrl _,bs++bs2,by rw[ae,aaa],?_⟩;rw[iw];exact R6.append (g4.weak λx hx=>.inl hx)
  ·rintro σ H6 ⟨bs,v7,rfl,s6,r6,R6⟩;push_cast [and_true];rw[aa1,pal,acw] at R6;exact q rl2 bs H6 g (s5.trans s6) (s5.free hrl) r6 O5.tbl (R6.kx (Kx.same s6))
noncomputable abbrev m9:Stmt:=top 16
theorem Gh:az ["book","words","table","rows","told","row"] ["book","words","table"] (ah m9):=⟨rfl,rfl,rfl,by decide+kernel,rfl,by decide+kernel,by decide+kernel⟩
theorem Mb (G:Gs w K mg) (h_rows_with_all_rules:Has P w K mg base k "rows_with_all_rules" ["book","words"] uc) (D:Def K mg "is_table" m9 ["book","words","table"]):Has P w K mg base (k+1) "is_table" ["book","words","table"] sj:=by
 refine D.has Gh (λvs H Q E h=>?_) (λf cdv A outer s H vs Q E hr h=>?_)
 ·obtain ⟨_,_,_,_,_,_,_,_,rfl,_,_,_,_,_,_,_,_⟩:=h;rfl
 have nd:=Gh.nd;have hu:=b9 hr;have hu0:=aai hu;obtain ⟨b,wt,tl,kinds,rs,ws,ts,tab,rfl,hB,hW,bk,tw,hL,hTr,hl,q⟩:=h;have m_len:=G.m_len;have m_zip:=G.m_zip;refine ⟨_,(A5 (A7 3 nd (AG h_rows_with_all_rules hr (A1 (A0 0) (A1 (A0 1) (A3 0))))) (A5 (AE (AB (@Cs _) (AN (AX 0) m_len cw (A1 (A0 2) (A3 0))) (AN (AX 0) m_len cw (A1 (A0 3) (A3 0))) (AA 0)) (A6 (AD (BB 0))) (AT 0)) (A5 (AY (@pi_zip _ false _ _ _ _ _ _ rfl m_zip (ab7 (af0 _ (af0 _ (af0 _ rfl)))) (A1 (A0 2) (A1 (A0 3) (A3 0))) rfl rfl) (BS (AW (AJ 4 nd (by first | exact ab5 rfl | exact ab7 rfl)) (AW (AJ 5 nd (by first | exact ab5 rfl | exact ab7 rfl)) (BO 0)))) (A6 (AE (BA (BY (AB (@op_neK _ hu0) (B6 (@ik _) (A0 4) (B7 0) (B9 (A2 0))) (B6 (@ik _) (A0 5) (B7 0) (B9 (A2 0))) (AA 0)) (C3 (BH (@je _) (A8 (AF 0) (A0 4) (A2 0)) (A8 (AF 0) (A0 5) (A2 0)))))) (A6 (AD (BB 0))) (AT 0)))) (A6 (AD (BB 0)))))),?_⟩;rw[show start ["book","words","table","rows","told","row"] [.ref b,.ref wt,.ref tl]=[some (.ref b),some (.ref wt),some (.ref tl),none,none,none] from rfl];clear hu hu0 nd hr;push_cast [and_true];have sz:=sizeLine_eq;have htl:=hTr.1;refine Ou hB hW bk tw λl as H1 g s1 hl1 h1 T R=>⟨ts.map V.ref,.inl (SqL.of (s1 _ _ hL)),as.map V.ref,.inl (SqL.of h1),rfl,?_⟩;have rl:=Ex (g:=g) bk tw;have hal:=R.1;rw[aa1,aa1];by_cases c:ts.length=as.length
 ·rw[if_neg (by simp[c])];push_cast [iZip];refine ⟨⟨ts.map V.ref,SqL.of (s1 _ _ hL)⟩,⟨_,SqL.of h1⟩,?_⟩;obtain ⟨P1,eP1⟩:∃P1:Nat→L2.St→Hp→Prop,∀i σ H',P1 i σ H'↔∃v4 v5:Option V,σ=[some (.ref b),some (.ref wt),some (.ref tl),some (.ref l),v4,v5]∧ak H1 H'∧∀(j:Nat) (t:Tr) (r:Rw),j < i→tab[j]?=some t→(rowsOf kinds rs ws g)[j]?=some r→trOk t r:=⟨_,λ_ _ _=>abo⟩;refine Kk (c:=false) (xs:=ts.map V.ref) (ys:=as.map V.ref) P1 ((eP1 _ _ _).mpr ⟨none,none,rfl,ak.refl _,λj t r h=>absurd h (acb _)⟩) (by rw[aa1,aa1,c]) (λi σ H' _ h=>by obtain ⟨_,_,_,s,_⟩:=(eP1 _ _ _).mp h;exact ⟨SqL.of ((s1.trans s) _ _ hL),SqL.of (s _ _ h1)⟩) ?_ ?_
  ·intro i x y σ H5 p hx hy hh hp;refine ob2 ((eP1 _ _ _).mp hh) λv4 v5 hh=>?_;have s5:=hh.2.1;have ok5:=hh.2.2;obtain rfl:=hh.1;clear hh;rw[aa7] at hx hy;obtain ⟨ta,hta,rfl⟩:=Option.map_eq_some_iff.mp hx;obtain ⟨ra,hra,rfl⟩:=Option.map_eq_some_iff.mp hy;obtain ⟨r,nl,hr,k1,k2⟩:=R.get hra;have hti:i < tab.length:=by rw[←htl];exact (List.getElem?_eq_some_iff.mp hta).1
   obtain ⟨ta',hta',k3⟩:=hTr.2 i _ (aa0 hti);obtain rfl:ta'=ta:=aa3 (hta'.symm.trans hta);have htt:tab[i]?=some tab[i]:=aa0 hti;generalize tab[i]=t at htt k3;have s6:=s5.trans (aa hp (.tup [V.ref ta',V.ref ra]));have S6:=s1.trans s6;have e6:upd H5 p (.tup [V.ref ta',V.ref ra]) p=some (.tup [V.ref ta',V.ref ra]):=ae;generalize upd H5 p (.tup [V.ref ta',V.ref ra])=H6 at s6 S6 e6 ⊢;refine Bn e6 rfl ?_;push_cast [and_true];refine ⟨ta',_,rfl,S6 _ _ k3,λp1 H7 s7 h7=>⟨ra,_,rfl,(s6.trans s7) _ _ k1,λp2 H8 s8 h8=>?_⟩⟩;rw[cut3] at h7 h8;have s68:=s7.trans s8;refine ⟨p1,p2,[Sum.inl t.place,Sum.inr t.kind,Sum.inl t.price],[Sum.inl (r.place:Int),Sum.inr r.kind,Sum.inl r.price],rfl,rfl,.inl ⟨SqT.of (s8 _ _ h7),SqT.of h8⟩,?_⟩;by_cases e:([Sum.inl t.place,Sum.inr t.kind,Sum.inl t.price]:List Key)=[Sum.inl (r.place:Int),Sum.inr r.kind,Sum.inl r.price]
   ·refine ifN (by simp[e]) ?_;have ev:t.place=(r.place:Int)∧t.kind=r.kind∧t.price=r.price:=by simpa using e
    refine au ((S6.trans s68) _ _ k3) rfl (au ((s6.trans s68) _ _ k1) rfl ⟨nl,r.names.map V.str,rfl,.inl (SqL.of ((s6.trans s68) _ _ k2)),rfl,List.all_eq_true.mpr (λx hx=>by obtain ⟨z,_,rfl⟩:=List.mem_map.mp hx;rfl),?_⟩);have ei:inV (.str t.name) (r.names.map V.str)=decide (t.name∈r.names):=o9 (kinds:=r.names) ⟨Sum.inr t.name,rfl⟩;by_cases m:t.name∈r.names
    ·refine ifN (by rw[ei];simp[m]) ?_;refine (eP1 _ _ _).mpr ⟨_,_,rfl,s6.trans s68,λj t' r' hj ht hr'=>?_⟩;by_cases c2:j < i
     ·exact ok5 j t' r' c2 ht hr'
     ·obtain rfl:j=i:=by omega
      obtain rfl:t=t':=aa3 (htt.symm.trans ht);obtain rfl:r=r':=aa3 (hr.symm.trans hr');exact ⟨ev.1,ev.2.1,ev.2.2,m⟩
    ·refine ifY (by rw[ei];simp[m]) ?_;exact q H8 g false (S6.trans s68) T ⟨(λe=>nomatch e),λh=>absurd (h.2 i t r htt hr).2.2.2 m⟩
   ·refine ifY (by simp only[if_true];rw[decide_eq_false e];rfl) ?_;refine q H8 g false (S6.trans s68) T ⟨(λe=>nomatch e),λh=>absurd ?_ e⟩;obtain ⟨a1,a2,a3,_⟩:=h.2 i t r htt hr;rw[a1,a2,a3]
  ·intro σ H5 hh;refine ob2 ((eP1 _ _ _).mp hh) λv4 v5 hh=>?_;have s5:=hh.2.1;have ok5:=hh.2.2;obtain rfl:=hh.1;clear hh;push_cast [and_true];refine q H5 g true (s1.trans s5) T ⟨λ_=>⟨by omega,λj t r h1 h2=>ok5 j t r ?_ h1 h2⟩,λ_=>rfl⟩;rw[aa1,htl];exact (List.getElem?_eq_some_iff.mp h1).1
 ·rw[if_pos (by simp;omega)];exact q H1 g false s1 T ⟨(λe=>nomatch e),λh=>absurd (h.1) (by omega)⟩
noncomputable abbrev vv:Stmt:=top 18
theorem Mo:az ["deck","cells","at"] ["deck"] (ah vv):=⟨rfl,rfl,rfl,by decide+kernel,rfl,by decide+kernel,by decide+kernel⟩
theorem hasNext (G:Gs w K mg) (D:Def K mg "_law_next" vv ["deck"]):Has P w K mg base (k+1) "_law_next" ["deck"] gn:=by
 refine D.has Mo (λvs H Q E h=>?_) (λf cdv A outer s H vs Q E hr h=>?_)
 ·obtain ⟨_,_,_,_,rfl,_,_,_⟩:=h;rfl
 have nd:=Mo.nd;have hu:=b9 hr;have hu0:=aai hu;obtain ⟨d,b,ns,n,rfl,hD,hn,q⟩:=h;have m_len:=G.m_len;refine ⟨_,(A5 (A7 1 nd (A8 (AM 0) (A0 0) (A2 0))) (A5 (A7 2 nd (A8 (AM 0) (A0 0) (A2 0))) (A5 (C7 (A4 (AK 0) (A0 2) (A2 0)) (C8 (A0 0) (A2 0) (@set_list _))) (A5 (AE (AB (@ni _) (A0 2) (AN (AX 0) m_len cw (A1 (A0 1) (A3 0))) (AA 0)) (A6 (AD (A8 (AM 0) (A0 1) (A0 2)))) (AT 0)) (A5 (AE (AB (AR 0) (AN (AX 0) m_len cw (A1 (A0 1) (A3 0))) (A2 0) (AA 0)) (A6 (AD (A4 (AK 0) (A4 (@zc _) (A4 (@zc _) (A0 2) (A0 2)) (A2 0)) (A0 2)))) (AT 0)) (A6 (AD (A4 (AK 0) (A4 (AQ 0) (A8 (AM 0) (A0 1) (A4 (A9 0) (A0 2) (AN (AX 0) m_len cw (A1 (A0 1) (A3 0))))) (A2 0)) (A4 (@zc _) (A0 2) (A0 2)))))))))),?_⟩;rw[show start ["deck","cells","at"] [.ref d]=[some (.ref d),none,none] from rfl];clear hu hu0 nd hr;push_cast [rIxL,gSub,Mg,pj,CMul];have nb:=hD.ne;obtain ⟨h1,h2⟩:=hD;refine ⟨_,SqL.of h1,.ref b,rfl,_,SqL.of h1,.int (n:Int),rfl,?_⟩;push_cast [and_true];have h3:upd H d (.lst [.ref b,.int ((n:Int)+1)]) b=some (.lst (ns.map V.int)):=by rw[af nb];exact h2
 have hS:aq d H (upd H d (.lst [.ref b,.int ((n:Int)+1)])):=λc o hc ho=>by rw[af hc];exact ho
 have hD':upd H d (.lst [.ref b,.int ((n:Int)+1)]) d=some (.lst [.ref b,.int ((n+1:Nat):Int)]):=ae;refine ⟨_,h1,1,rfl,ns.map V.int,.inl (SqL.of h3),bu (λc=>?_) λc=>⟨ns.map V.int,.inl (SqL.of h3),rfl,bu (λc2=>?_) λc2=>?_⟩⟩
 ·rw[aa1] at c;have hlt:n < ns.length:=by omega
  exact ⟨_,SqL.of h3,.int ns[n],bo (by rw[aa7,aa0 hlt];rfl),q _ _ hS hD'⟩
 ·exact ⟨.inl ⟨by omega,by omega⟩,.inr trivial,q _ _ hS hD'⟩
 ·rw[aa1] at c2;have hpos:0 < ns.length:=by omega
  have hlt:n % ns.length < ns.length:=Nat.mod_lt _ hpos;refine ⟨ns.map V.int,.inl (SqL.of h3),by rw[aa1];omega,_,SqL.of h3,.int ns[n % ns.length],?_,by decide,by decide,.inl ⟨by omega,by omega⟩,q _ _ hS hD'⟩;rw[aa1,show (n:Int) % (ns.length:Int)=((n % ns.length:Nat):Int) from (Int.natCast_emod _ _).symm];exact bo (by rw[aa7,aa0 hlt];rfl)
noncomputable abbrev vg:Stmt:=top 24
theorem Lw:az ["words","ends","stack","back","at","end"] ["words"] (ah vg):=⟨rfl,rfl,rfl,by decide+kernel,rfl,by decide+kernel,by decide+kernel⟩
theorem Ny (G:Gs w K mg) (D:Def K mg "_law_ends" vg ["words"]):Has P w K mg base (k+1) "_law_ends" ["words"] (ze K):=by
 refine D.has Lw (λvs H Q E h=>?_) (λf cdv A outer s H vs Q E hr h=>?_)
 ·obtain ⟨_,_,rfl,_,_,_,_,_⟩:=h;rfl
 have nd:=Lw.nd;have hu:=b9 hr;have hu0:=aai hu;obtain ⟨t,ws,rfl,hT,hw,hTm,hl,q⟩:=h;have m_len:=G.m_len;have m_range:=G.m_range;refine ⟨_,(A5 (A7 1 nd (A4 (@op_rep _) (AC (A1 (A2 0) (A3 0))) (AN (AX 0) m_len cw (A1 (A0 0) (A3 0))))) (A5 (A7 2 nd (AC (A3 0))) (A5 (AY (BP m_range (A1 (AN (AX 0) m_len cw (A1 (A0 0) (A3 0))) (A3 0))) (AJ 3 nd (by first | exact ab5 rfl | exact ab7 rfl)) (A5 (A7 4 nd (A4 (B0 0) (A4 (B0 0) (AN (AX 0) m_len cw (A1 (A0 0) (A3 0))) (A2 0)) (A0 3))) (A5 (A7 5 nd (A4 (AK 0) (A0 4) (A2 0))) (BI (AE (BH (BR 0) (A8 (AF 0) (A0 0) (A0 4)) (AC (BF (AH (AH (AH (BG 0))))))) (A6 (AS (C9 PySem.F.plainAttrs_list PySem.F.slot_list_pop PySem.F.type_list_pop (@za _) (A0 2)))) (AT 0)) (BI (AE (BH (BR 0) (A8 (AF 0) (A0 0) (A0 4)) (AC (BF (AH (AH (AH (AH (BG 0)))))))) (A6 (A7 5 nd (C9 PySem.F.plainAttrs_list PySem.F.slot_list_pop PySem.F.type_list_pop (@za _) (A0 2)))) (AT 0)) (A5 (AS (AU PySem.F.plainAttrs_list PySem.F.slot_list_append PySem.F.type_list_append (AV 0) (A0 2) (A1 (A0 5) (A3 0)))) (A6 (C7 (A0 5) (C8 (A0 1) (A0 4) (@set_list _)))))))))) (A6 (AD (A0 1)))))),?_⟩;rw[show start ["words","ends","stack","back","at","end"] [.ref t]=[some (.ref t),none,none,none,none,none] from rfl];clear hu hu0 nd hr;push_cast [and_true];have sz:=sizeLine_eq;refine ⟨by show (1:Nat)≤sizeLine;decide,λp0 hp0=>⟨ws,.inr ((aa hp0 _).tup hT),O2 ae (by omega) (by omega) λel hel=>⟨aa8 _,λsp hsp=>⟨ws,.inr ((((aa hp0 _).trans (aa hel _)).trans (aa hsp _)).tup hT),by omega,by omega,?_⟩⟩⟩⟩;rw[show ((ws.length:Nat):Int).toNat=ws.length by omega] at hsp ⊢;have S1:=aa hp0 (.lst [V.int 0]);have fe:=S1.free hel;have S2:=S1.trans (aa hel (.lst (aap ws.length (V.int 0))));have fs:=S2.free hsp;have S3:=S2.trans (aa hsp (.lst []));have nes:el≠sp:=ag ae hsp;have e3:=aa hsp (.lst []) _ _ (ae (H:=upd H p0 (.lst [V.int 0])) (a:=el) (o:=.lst (aap ws.length (V.int 0))));have p3:upd (upd (upd H p0 (.lst [V.int 0])) el (.lst (aap ws.length (V.int 0)))) sp (.lst []) sp=some (.lst []):=ae;generalize upd (upd (upd H p0 (.lst [V.int 0])) el (.lst (aap ws.length (V.int 0)))) sp (.lst [])=H3 at S3 e3 p3 ⊢;obtain ⟨P1,eP1⟩:∃P1:Nat→L2.St→Hp→Prop,∀j σ H',P1 j σ H'↔∃v3 v4 v5:Option V,σ=[some (.ref t),some (.ref el),some (.ref sp),v3,v4,v5]∧ak H H'∧H' sp=some (.lst (((uy ws (ws.length - j)).drop 1).reverse.map plV))∧H' el=some (.lst (aap (ws.length - j) (V.int 0)++(aat j).map λi=>plV (endAt ws (ws.length - j+i)))):=⟨_,λ_ _ _=>abo⟩;refine fh (lo:=0) P1 ?_ ?_ ?_
 ·refine (eP1 _ _ _).mpr ⟨none,none,none,rfl,S3,?_,?_⟩
  ·rw[acw,M7];exact p3
  ·rw[e3];simp
 ·intro j σ H5 hj hh;refine ob3 ((eP1 _ _ _).mp hh) λv3 v4 v5 hh=>?_;have s5:=hh.2.1;have p5:=hh.2.2.1;have e5:=hh.2.2.2;obtain rfl:=hh.1;clear hh;obtain ⟨p,hp⟩:∃p,p+j+1=ws.length:=⟨ws.length - 1 - j,by omega⟩;rw[show ws.length - j=p+1 by omega] at p5 e5;have ej:(λ_:Unit=>ws.length - (j+1))=λ_=>p:=by funext _;omega
  have hpl:p < ws.length:=by omega
  have hx:ws[p]?=some ws[p]:=aa0 hpl;have hxw:=hw _ (ab3 hpl);have hat:atI ws (p:Int)=some ws[p]:=bo hx;generalize ws[p]=x at hx hxw hat;obtain ⟨tp,u,tu⟩:=Qu hTm hx;push_cast [and_true];refine ⟨ws,.inr (s5.tup hT),?_⟩;rw[show ((ws.length:Int) - 1 - (0+(j:Int)))=(p:Int) by omega];obtain ⟨E',hT'⟩:=Hr ws (p:=p+1) (by omega);rw[hT'] at p5 tp tu;have p5:H5 sp=some (.lst (E'.reverse.map plV)):=p5;have three:=Ap hxw;have four:=zv hxw;have ar2:=uw x;have rp:∀(y:Nat) (L:List Nat),((y::L).reverse.map plV)=L.reverse.map plV++[plV y]:=λy L=>by rw[af3,aaa];rfl
  refine fb (λσ' H6=>σ'=[some (.ref t),some (.ref el),some (.ref sp),some (.int (0+(j:Int))),some (.int (p:Int)),some (.int ((p:Int)+1))]∧ak H H6∧H6 el=H5 el∧H6 sp=some (.lst ((if arV x=2 then E'.drop 1 else E').reverse.map plV))) ?_ ?_
  ·push_cast [rIn];refine ⟨t,ws,_,x,rfl,rfl,s5.tup hT,hat,by show (3:Nat)≤sizeLine;decide,λa ha=>⟨_,.inl (SqL.of ae),hxw.flat,rfl,bu (λc2=>?_) λc2=>?_⟩⟩
   ·have a2:=three.mp c2;rw[a2] at tu;rw[if_pos a2];cases E' with
    | nil=>cases tu
    | cons e1 E2=>
     rw[rp] at p5;exact Ac (aa ha _ _ _ p5) ⟨(s5.trans (aa ha _)).upd fs _,by rw[af nes,aa ha _ _ _ e5,e5],by rw[ae];rfl⟩
   ·rw[if_neg λe=>c2 (three.mpr e)];exact ⟨s5.trans (aa ha _),by rw[aa ha _ _ _ e5,e5],aa ha _ _ _ p5⟩
  rintro _ H6 ⟨rfl,s6,e6,p6⟩;refine fb (λσ' H7=>σ'=[some (.ref t),some (.ref el),some (.ref sp),some (.int (0+(j:Int))),some (.int (p:Int)),some (plV (endAt ws p))]∧ak H H7∧H7 el=H5 el∧H7 sp=some (.lst (u.reverse.map plV))) ?_ ?_
  ·push_cast [rIn];refine ⟨t,ws,_,x,rfl,rfl,s6.tup hT,hat,by show (4:Nat)≤sizeLine;decide,λa ha=>⟨_,.inl (SqL.of ae),hxw.flat,rfl,bu (λc2=>?_) λc2=>?_⟩⟩
   ·have a1:=four.mp c2;have hE:(if arV x=2 then E'.drop 1 else E')=endAt ws p::u:=by
     by_cases a2:arV x=2
     ·rw[if_pos a2];rw[a2] at tu;exact tu
     ·rw[if_neg a2];rw[show arV x=1 by omega] at tu;exact tu
    rw[hE,rp] at p6;exact Ac (aa ha _ _ _ p6) ⟨rfl,(s6.trans (aa ha _)).upd fs _,by rw[af nes,aa ha _ _ _ (e6.trans e5),e5],ae⟩
   ·have a0:arV x=0:=by
     rcases abr (arV x) with h | h
     ·exact h
     ·exact absurd (four.mpr h) c2
    rw[a0] at tu p6;have tu:(p+1)::E'=endAt ws p::u:=tu;obtain ⟨y1,y2⟩:=abp tu;rw[if_neg (by decide),y2] at p6;exact ⟨by omega,s6.trans (aa ha _),by rw[aa ha _ _ _ (e6.trans e5),e5],aa ha _ _ _ p6⟩
  rintro _ H7 ⟨rfl,s7,e7,p7⟩;push_cast [gSub,Mg];have tl:=Jz ws p;rw[tp,tu,aal,aal] at tl;refine bb p7 (by rw[aa1,aci];omega) ⟨_,by rw[af nes];exact e7.trans e5,p,Qf (by rw[aa2,abi];omega),(eP1 _ _ _).mpr ⟨_,_,_,rfl,(s7.upd fs _).upd fe _,?_,?_⟩⟩
  ·rw[show ws.length - (j+1)=p from congrFun ej (),af nes.symm,ae,tp,tu];show _=some (HO.lst ((endAt ws p::u).reverse.map plV))
   rw[rp]
  ·rw[show ws.length - (j+1)=p from congrFun ej (),ae,Lv,List.range_succ_eq_map,ab0,ac5];show some (HO.lst (_++plV (endAt ws p)::adi (λi=>plV (endAt ws (p+1+i))) (aat j)))=some (HO.lst (_++plV (endAt ws (p+0))::adi ((λi=>plV (endAt ws (p+i))) ∘ Nat.succ) (aat j)))
   have ef:((λi=>plV (endAt ws (p+i))) ∘ Nat.succ)=λi=>plV (endAt ws (p+1+i)):=by
    funext i
    show plV (endAt ws (p+(i+1)))=_
    rw[show p+(i+1)=p+1+i by omega]
   rw[ef];rfl
 ·intro σ H5 hh;refine ob3 ((eP1 _ _ _).mp hh) λv3 v4 v5 hh=>?_;have s5:=hh.2.1;have p5:=hh.2.2.1;have e5:=hh.2.2.2;obtain rfl:=hh.1;clear hh;push_cast [and_true];refine q el H5 s5 fe ?_;rw[e5,acx];simp
noncomputable abbrev mw:Stmt:=top 25
theorem E3:az ["kinds","shape","words","ends","place","under","word","there"] ["kinds","shape","words","ends","place"] (ah mw):=⟨rfl,rfl,rfl,by decide+kernel,rfl,by decide+kernel,by decide+kernel⟩
theorem J6 (G:Gs w K mg) (D:Def K mg "_law_laid" mw ["kinds","shape","words","ends","place"]):Has P w K mg base (k+1) "_law_laid" ["kinds","shape","words","ends","place"] (ub K):=by
 refine D.has E3 (λvs H Q E h=>?_) (λf cdv A outer s H vs Q E hr h=>?_)
 ·obtain ⟨_,_,_,_,_,_,_,_,rfl,_,_,_,_,_,_,_,_,_,_,_⟩:=h;rfl
 have nd:=E3.nd;have hu:=b9 hr;have hu0:=aai hu;obtain ⟨st,kt,wt,et,sh,kinds,ws,p,rfl,hS,hK,hW,hE,hk,hs,hTm,hl1,tw,hp,q⟩:=h;have m_int:=G.m_int;have m_isinstance:=G.m_isinstance;have m_str:=G.m_str;have m_tuple:=G.m_tuple;refine ⟨_,(A5 (A7 5 nd (AC (A1 (AC (A3 0)) (A1 (AC (A3 0)) (A1 (AC (A3 0)) (A3 0)))))) (A5 (AY (BW (A0 1)) (AJ 6 nd (by first | exact ab5 rfl | exact ab7 rfl)) (A5 (A7 7 nd (A8 (AF 0) (A0 2) (A0 4))) (A6 (AE (BH (BR 0) (A0 6) (A0 0)) (A5 (AS (AU PySem.F.plainAttrs_list PySem.F.slot_list_append PySem.F.type_list_append (AV 0) (A8 (AM 0) (A0 5) (A2 0)) (A1 (A0 4) (A3 0)))) (A6 (A7 4 nd (A8 (AM 0) (A0 3) (A0 4))))) (A6 (AE (BA (BK (AB (AR 0) (A0 6) (AL 0) (AA 0)) (BM (BX (AN (C1 0) m_isinstance dr (A1 (A0 7) (A1 (C2 m_int um) (A3 0)))))))) (A5 (AS (AU PySem.F.plainAttrs_list PySem.F.slot_list_append PySem.F.type_list_append (AV 0) (A8 (AM 0) (A0 5) (A2 0)) (A1 (A0 7) (A3 0)))) (A6 (A7 4 nd (A4 (AK 0) (A0 4) (A2 0))))) (A6 (AE (BA (BK (AB (AR 0) (A0 6) (AL 0) (AA 0)) (BK (BX (AN (C1 0) m_isinstance dr (A1 (A0 7) (A1 (C2 m_str Gd) (A3 0))))) (BM (BH (@je _) (A0 7) (AC (BF (AH (AH (AH (AH (BG 0)))))))))))) (A5 (AS (AU PySem.F.plainAttrs_list PySem.F.slot_list_append PySem.F.type_list_append (AV 0) (A8 (AM 0) (A0 5) (A2 0)) (A1 (A0 7) (A3 0)))) (A6 (A7 4 nd (A4 (AK 0) (A0 4) (A2 0))))) (A6 (AE (AB (AR 0) (A0 6) (A0 7) (AA 0)) (A6 (A7 4 nd (A4 (AK 0) (A0 4) (A2 0)))) (A6 (AD (@Ed _ _ _))))))))))))) (A6 (AD (AI (A1 (AZ (BJ 0) m_tuple fc (A1 (A8 (AM 0) (A0 5) (A2 0)) (A3 0))) (A1 (AZ (BJ 0) m_tuple fc (A1 (A8 (AM 0) (A0 5) (A2 0)) (A3 0))) (A1 (AZ (BJ 0) m_tuple fc (A1 (A8 (AM 0) (A0 5) (A2 0)) (A3 0))) (A3 0))))))))),?_⟩;rw[show start ["kinds","shape","words","ends","place","under","word","there"] [.ref kt,.ref st,.ref wt,.ref et,.int (p:Int)]=[some (.ref kt),some (.ref st),some (.ref wt),some (.ref et),some (.int (p:Int)),none,none,none] from rfl];clear hu hu0 nd hr;push_cast [and_true];have sz:=sizeLine_eq;have hw:=λv hv=>(tw.w v hv).1;obtain ⟨n,he⟩:=tw.eat hp;refine ⟨aa8 _,λl1 h1=>⟨aa8 _,λl2 h2=>⟨aa8 _,λl3 h3=>⟨by show (3:Nat)≤sizeLine;decide,λu0 h0=>?_⟩⟩⟩⟩;have n21:l2≠l1:=(ag ae h2).symm;have n31:l3≠l1:=(ag (aa h2 _ _ _ ae) h3).symm;have n32:l3≠l2:=(ag ae h3).symm;have n10:u0≠l1:=(ag (aa h3 _ _ _ (aa h2 _ _ _ ae)) h0).symm;have n20:u0≠l2:=(ag (aa h3 _ _ _ ae) h0).symm;have n30:u0≠l3:=(ag ae h0).symm;have S1:=aa h1 (.lst []);have f2:=S1.free h2;have S2:=S1.trans (aa h2 (.lst []));have f3:=S2.free h3;have S3:=S2.trans (aa h3 (.lst []));have S4:=S3.trans (aa h0 (.lst [.ref l1,.ref l2,.ref l3]));have U4:mv (upd (upd (upd (upd H l1 (.lst [])) l2 (.lst [])) l3 (.lst [])) u0 (.lst [.ref l1,.ref l2,.ref l3])) u0 l1 l2 l3 ⟨[],[],[]⟩:=
  ⟨ae,by rw[af n10.symm,af n31.symm,af n21.symm,ae];rfl,by rw[af n20.symm,af n32.symm,ae],by rw[af n30.symm,ae]⟩
 generalize upd (upd (upd (upd H l1 (.lst [])) l2 (.lst [])) l3 (.lst [])) u0 (.lst [.ref l1,.ref l2,.ref l3])=H4 at S4 U4 ⊢;obtain ⟨P1,eP1⟩:∃P1:Nat→L2.St→Hp→Prop,∀i σ H',P1 i σ H'↔∃(q':Nat) (u:Und) (v6 v7:Option V),σ=[some (.ref kt),some (.ref st),some (.ref wt),some (.ref et),some (.int (q':Int)),some (.ref u0),v6,v7]∧ak H H'∧mv H' u0 l1 l2 l3 u∧dy kinds ws (sh.drop i) q' u=dy kinds ws sh p ⟨[],[],[]⟩∧(u.hs.length≤i∧u.ns.length≤i∧u.vs.length≤i)∧Dg u∧∃d m,pend d ((sh.drop i).map arV)=some 0∧eat d ((ws.drop q').map arV)=some m:=⟨_,λ_ _ _=>abo⟩;refine ⟨⟨sh,S4.tup hS⟩,qd (xs:=sh) P1 ((eP1 _ _ _).mpr ⟨p,⟨[],[],[]⟩,none,none,rfl,S4,U4,rfl,⟨aa8 _,aa8 _,aa8 _⟩,⟨(λ_ h=>nomatch h),(λ_ h=>nomatch h)⟩,1,n,hTm,he⟩) (λi σ H' _ h=>by obtain ⟨_,_,_,_,_,s,_⟩:=(eP1 _ _ _).mp h;exact s.tup hS) ?_ ?_⟩
 ·intro i v σ H5 hvi hh;refine ob4 ((eP1 _ _ _).mp hh) λq' u v6 v7 hh=>?_;have s5:=hh.2.1;have U5:=hh.2.2.1;have e5:=hh.2.2.2.1;have hul:=hh.2.2.2.2.1;have huw:=hh.2.2.2.2.2.1;have hdm:=hh.2.2.2.2.2.2;obtain rfl:=hh.1;clear hh;obtain ⟨d,m,hp5,he5⟩:=hdm;have fin:∀(q2:Nat) (z:Int) (u2:Und) (w6 w7:Option V) (H':Hp),z=(q2:Int)→ak H H'→mv H' u0 l1 l2 l3 u2→dy kinds ws (sh.drop (i+1)) q2 u2=dy kinds ws sh p ⟨[],[],[]⟩→(u2.hs.length≤i+1∧u2.ns.length≤i+1∧u2.vs.length≤i+1)→Dg u2→(∃d m,pend d ((sh.drop (i+1)).map arV)=some 0∧eat d ((ws.drop q2).map arV)=some m)→P1 (i+1) [some (.ref kt),some (.ref st),some (.ref wt),some (.ref et),some (.int z),some (.ref u0),w6,w7] H':=λq2 z u2 w6 w7 H' ez a1 a2 a3 a4 a5 a6=>(eP1 _ _ _).mpr ⟨q2,u2,w6,w7,by rw[ez],a1,a2,a3,a4,a5,a6⟩;have hil:i < sh.length:=(List.getElem?_eq_some_iff.mp hvi).1;have ed:sh.drop i=v::sh.drop (i+1):=by
   rw[aav hil];congr 1
   rw[aa0 hil] at hvi;exact aa3 hvi
  rw[ed] at e5 hp5;obtain ⟨d',rfl⟩:∃d',d=d'+1:=by
   cases d with
   | zero=>cases hp5
   | succ d'=>exact ⟨d',rfl⟩
  have hq:q' < ws.length:=by
   have a1:=zm _ _ _ he5;have a2:=wb _ _ _ he5;rw[aa1,aah] at a2;omega
  have hx:ws[q']?=some ws[q']:=aa0 hq;obtain ⟨hxw,hxa,hxv⟩:=tw.w _ (ab3 hq);have hat:atI ws (q':Int)=some ws[q']:=bo hx;have hvw:=hs v (aak hvi);have hgd:ws.getD q' .non=ws[q']:=by rw[aa4,hx];rfl
  rw[m6,hgd] at e5;generalize ws[q']=x at hx hxw hxa hxv hat hgd e5;have hul':=u.Fb (cm kinds v) q' x hul;have huw':=huw.put hxw (cm kinds v) q';obtain ⟨b1,b2,b3,b4,b5,b6⟩:=lets;have fl:(kinds.map V.str).all ij=true:=List.all_eq_true.mpr λx hx=>by obtain ⟨z,_,rfl⟩:=List.mem_map.mp hx;rfl
  push_cast [rIn];refine ⟨wt,ws,_,x,rfl,rfl,s5.tup hW,hat,_,.inr (s5.tup hK),hvw.flat,fl,?_⟩;have nav:¬ig=V.str (Str.ofString "var"):=by decide+kernel
  have nva:¬gq=V.str (Str.ofString "any"):=by decide+kernel
  rcases gh (kinds:=kinds) hvw with ⟨rfl,h⟩ | ⟨rfl,h⟩ | ⟨⟨z,hz,rfl⟩,h⟩ | ⟨h,hno⟩
  ·rw[if_neg (by rw[show inV ig (kinds.map V.str)=false from hk.out (.inl rfl)];decide)];refine ⟨hvw.sc _,?_⟩;rw[if_pos (show ig=V.str (Str.ofString "any") from rfl)];obtain ⟨k',rfl⟩:=hxw;cases k' with
   | inl i0=>
    have hli:lies (cm kinds ig) ig (kV (Sum.inl i0))=true:=by unfold lies;rw[h,if_neg b1,if_pos rfl];rfl
    obtain ⟨d2,m2,hp6,he6⟩:=jb hk hvw hx ⟨_,rfl⟩ hp5 he5 hli;rw[if_pos hli,h,if_neg b1] at e5;rw[h,if_neg b1] at he6;rw[h] at hul' huw';exact ⟨_,.int i0,true,rfl,iteT (ao U5.1 rfl (bb U5.2.2.1 (by omega) (fin (q'+1) _ _ _ _ _ (by omega) (s5.upd f2 _) (U5.put2 n20 n21 n32 q' _) e5 hul' huw' ⟨d2,m2,hp6,he6⟩)))⟩
   | inr y=>
    have hli:¬lies (cm kinds ig) ig (kV (Sum.inr y))=true:=by unfold lies;rw[h,if_neg b1,if_pos rfl];exact aab
    rw[if_neg hli] at e5;have z:=q H5 s5;rw[←e5] at z;refine ⟨_,.str y,false,rfl,iteF ⟨hvw.sc _,?_⟩⟩;rw[if_neg nav];refine ⟨hvw.sc2 ⟨_,rfl⟩,?_⟩;rw[if_neg λe=>hxa e.symm];exact z
  ·rw[if_neg (by rw[show inV gq (kinds.map V.str)=false from hk.out (.inr rfl)];decide)];refine ⟨hvw.sc _,?_⟩;rw[if_neg nva];refine ⟨hvw.sc _,?_⟩;rw[if_pos (show gq=V.str (Str.ofString "var") from rfl)];have hxw':=hxw;obtain ⟨k',rfl⟩:=hxw;cases k' with
   | inl i0=>
    have hli:¬lies (cm kinds gq) gq (kV (Sum.inl i0))=true:=by unfold lies;rw[h,if_neg b2,if_neg b4,if_pos rfl];exact aab
    rw[if_neg hli] at e5;have z:=q H5 s5;rw[←e5] at z;refine ⟨_,.int i0,false,rfl,iteF ⟨hvw.sc2 ⟨_,rfl⟩,?_⟩⟩;rw[if_neg λe=>hxv e.symm];exact z
   | inr y=>
    refine ⟨_,.str y,true,rfl,iteT ⟨by show (4:Nat)≤sizeLine;decide,λpl hpl=>⟨_,.inl (SqL.of ae),rfl,rfl,?_⟩⟩⟩;have four:=zv hxw';have s6:=s5.trans (aa hpl (.lst [V.str (Str.ofString "add"),V.str (Str.ofString "sub"),V.str (Str.ofString "mul"),V.str (Str.ofString "neg")]));have U6:=U5.same (aa hpl (.lst [V.str (Str.ofString "add"),V.str (Str.ofString "sub"),V.str (Str.ofString "mul"),V.str (Str.ofString "neg")]));by_cases c:0 < arV (kV (Sum.inr y))
    ·have hli:¬lies (cm kinds gq) gq (kV (Sum.inr y))=true:=by
      unfold lies;rw[h,if_neg b2,if_neg b4,if_pos rfl,decide_eq_false (by omega),aed];decide
     rw[if_neg hli] at e5;have z:=q _ s6;rw[←e5] at z;rw[if_neg (by rw[show inV (kV (Sum.inr y)) [V.str (Str.ofString "add"),V.str (Str.ofString "sub"),V.str (Str.ofString "mul"),V.str (Str.ofString "neg")]=true from four.mpr c];decide)];refine ⟨hvw.sc2 ⟨_,rfl⟩,?_⟩;rw[if_neg λe=>hxv e.symm];exact z
    ·have hli:lies (cm kinds gq) gq (kV (Sum.inr y))=true:=by
      unfold lies;rw[h,if_neg b2,if_neg b4,if_pos rfl,decide_eq_true (by omega),Bool.and_true];rfl
     obtain ⟨d2,m2,hp6,he6⟩:=jb hk hvw hx ⟨_,rfl⟩ hp5 he5 hli;rw[if_pos hli,h,if_neg b2] at e5;rw[h,if_neg b2] at he6;rw[h] at hul' huw';have c':inV (kV (Sum.inr y)) [V.str (Str.ofString "add"),V.str (Str.ofString "sub"),V.str (Str.ofString "mul"),V.str (Str.ofString "neg")]=false:=Bool.eq_false_iff.mpr λe=>c (four.mp e);rw[if_pos (by rw[c'];decide)];exact ao U6.1 rfl (bb U6.2.2.2 (by omega) (fin (q'+1) _ _ _ _ _ (by omega) (s6.upd f3 _) (U6.put3 n30 n31 n32 q' _) e5 hul' huw' ⟨d2,m2,hp6,he6⟩))
  ·rw[if_pos (letH h)];have hli:lies (cm kinds (.str z)) (.str z) x=true:=by unfold lies;rw[if_pos h]
   obtain ⟨d2,m2,hp6,he6⟩:=jb hk hvw hx hxw hp5 he5 hli;rw[if_pos hli,if_pos h,h] at e5;rw[if_pos h] at he6;rw[h] at hul' huw';have nel:et≠l1:=ag hE h1;refine ao U5.1 rfl (bb U5.2.1 (by rw[aa1];omega) (ao (by rw[af nel];exact s5 _ _ hE) (bo (by rw[aa7,adq hq];rfl)) (fin (endAt ws q') _ _ _ _ _ rfl (s5.upd h1 _) (U5.put1 n10 n21 n31 q' x) e5 hul' huw' ⟨d2,m2,hp6,he6⟩)))
  ·obtain ⟨na,nv⟩:=letO h;rw[if_neg (by rw[hno];decide)];refine ⟨hvw.sc _,?_⟩;rw[if_neg (show ¬v=V.str (Str.ofString "any") from na)];refine ⟨hvw.sc _,?_⟩;rw[if_neg (show ¬v=V.str (Str.ofString "var") from nv)];refine ⟨hvw.sc2 hxw,?_⟩;by_cases c:v=x
   ·have hli:lies (cm kinds v) v x=true:=by unfold lies;rw[h,if_neg b3,if_neg b5,if_neg b6];exact decide_eq_true c
    obtain ⟨d2,m2,hp6,he6⟩:=jb hk hvw hx hxw hp5 he5 hli;rw[if_pos hli,h,if_neg b3,u.put0] at e5;rw[h,if_neg b3] at he6;rw[h,u.put0] at hul' huw';rw[if_pos c];exact fin (q'+1) _ _ _ _ _ (by omega) s5 U5 e5 hul' huw' ⟨d2,m2,hp6,he6⟩
   ·have hli:¬lies (cm kinds v) v x=true:=by unfold lies;rw[h,if_neg b3,if_neg b5,if_neg b6];exact λe=>c (of_decide_eq_true e)
    rw[if_neg hli] at e5;have z:=q H5 s5;rw[←e5] at z;rw[if_neg c];exact z
 ·intro σ H5 hh;refine ob4 ((eP1 _ _ _).mp hh) λq' u v6 v7 hh=>?_;have s5:=hh.2.1;have U5:=hh.2.2.1;have e5:=hh.2.2.2.1;have hul:=hh.2.2.2.2.1;have huw:=hh.2.2.2.2.2.1;have hdm:=hh.2.2.2.2.2.2;obtain rfl:=hh.1;clear hh;obtain ⟨d,m,hp5,he5⟩:=hdm;rw[ach] at e5;have z:=q H5 s5;rw[←e5] at z;push_cast [and_true];refine ao U5.1 rfl ⟨_,.inl ⟨SqL.of U5.2.1,λt1 ht1=>?_⟩⟩;have U6:=U5.same (aa ht1 (.tup (u.hs.map plV)));refine ao U6.1 rfl ⟨_,.inl ⟨SqL.of U6.2.2.1,λt2 ht2=>?_⟩⟩;have U7:=U6.same (aa ht2 (.tup u.ns));refine ao U7.1 rfl ⟨_,.inl ⟨SqL.of U7.2.2.2,λt3 ht3=>⟨by show (3:Nat)≤sizeLine;decide,λt ht=>?_⟩⟩⟩;exact z t _ ((aa ht1 _).trans ((aa ht2 _).trans ((aa ht3 _).trans (aa ht _)))) ⟨t1,t2,t3,ae,aa ht _ _ _ (aa ht3 _ _ _ (aa ht2 _ _ _ ae)),aa ht _ _ _ (aa ht3 _ _ _ ae),aa ht _ _ _ ae⟩ ⟨⟨huw.1,by omega⟩,⟨huw.2,by omega⟩,by omega⟩
noncomputable abbrev wu:Stmt:=top 23
theorem M9:az ["deck","names","most","words","due","cell","more","room","far"] ["deck","names","most"] (ah wu):=⟨rfl,rfl,rfl,by decide+kernel,rfl,by decide+kernel,by decide+kernel⟩
theorem Ni (G:Gs w K mg) (h_law_next:Has P w K mg base k "_law_next" ["deck"] gn) (D:Def K mg "_law_term" wu ["deck","names","most"]):Has P w K mg base (k+1) "_law_term" ["deck","names","most"] sk:=by
 refine D.has M9 (λvs H Q E h=>?_) (λf cdv A outer s H vs Q E hr h=>?_)
 ·obtain ⟨_,_,_,_,_,_,_,rfl,_,_,_,_,_,_⟩:=h;rfl
 have nd:=M9.nd;have hu:=b9 hr;have hu0:=aai hu;obtain ⟨d,nl,b,ns,zs,m,n,rfl,hD,hN,h1,h2,hn,q⟩:=h;have m_len:=G.m_len;have m_tuple:=G.m_tuple;refine ⟨_,(A5 (A7 3 nd (AC (A3 0))) (A5 (A7 4 nd (A2 0)) (A5 (C4 (AB (@jd _) (A0 4) (A2 0) (AA 0)) (A5 (A7 5 nd (AG h_law_next hr (A1 (A0 0) (A3 0)))) (A5 (A7 6 nd (A4 (AQ 0) (A0 5) (A2 0))) (A5 (A7 7 nd (A4 (B0 0) (A4 (B0 0) (A0 2) (AN (AX 0) m_len cw (A1 (A0 3) (A3 0)))) (A0 4))) (A6 (AE (BA (BK (AB (@ni _) (A4 (A9 0) (A0 5) (A2 0)) (A2 0) (AA 0)) (BM (AB (@jd _) (A0 7) (A2 0) (AA 0))))) (A5 (AS (AU PySem.F.plainAttrs_list PySem.F.slot_list_append PySem.F.type_list_append (AV 0) (A0 3) (A1 (A8 (AM 0) (AC (BF (AH (AH (AH (BG 0)))))) (A4 (A9 0) (A0 5) (A2 0))) (A3 0)))) (A6 (A7 4 nd (A4 (AK 0) (A0 4) (A2 0))))) (A6 (AE (BA (BK (AB (AR 0) (A4 (A9 0) (A0 5) (A2 0)) (A2 0) (AA 0)) (BM (AB (@jd _) (A0 7) (A2 0) (AA 0))))) (A6 (AS (AU PySem.F.plainAttrs_list PySem.F.slot_list_append PySem.F.type_list_append (AV 0) (A0 3) (A1 (AL 0) (A3 0))))) (A5 (A7 4 nd (A4 (B0 0) (A0 4) (A2 0))) (A5 (A7 8 nd (A8 (AM 0) (AC (A1 (A2 0) (A1 (A2 0) (A1 (A2 0) (A1 (A4 (@iu _) (A2 0) (A2 0)) (A1 (A4 (@iu _) (A2 0) (A2 0)) (A1 (A4 (@iu _) (A2 0) (A2 0)) (A3 0)))))))) (A4 (A9 0) (A4 (AQ 0) (A0 6) (A2 0)) (A2 0)))) (A5 (A7 8 nd (A8 (AM 0) (AC (A1 (A4 (B0 0) (A4 (A9 0) (A4 (AQ 0) (A0 6) (A2 0)) (A4 (@iu _) (A2 0) (A2 0))) (A2 0)) (A1 (A0 8) (A1 (A4 (B0 0) (A2 0) (A0 8)) (A3 0))))) (A4 (A9 0) (A4 (AQ 0) (A0 6) (A2 0)) (A2 0)))) (A6 (AS (AU PySem.F.plainAttrs_list PySem.F.slot_list_append PySem.F.type_list_append (AV 0) (A0 3) (A1 (A8 (AM 0) (AC (A1 (A8 (AM 0) (A0 1) (A2 0)) (A1 (A8 (AM 0) (A0 1) (A2 0)) (A1 (A8 (AM 0) (A0 1) (A2 0)) (A1 (A2 0) (A1 (A2 0) (A1 (BZ (@jj _) (A2 0)) (A1 (A2 0) (A1 (A0 8) (A1 (A0 8) (A3 0))))))))))) (A4 (A9 0) (A0 6) (A2 0))) (A3 0)))))))))))))))) (A6 (AD (AZ (BJ 0) m_tuple fc (A1 (A0 3) (A3 0)))))))),?_⟩;rw[show start ["deck","names","most","words","due","cell","more","room","far"] [.ref d,.ref nl,.int (m:Int)]=[some (.ref d),some (.ref nl),some (.int (m:Int)),none,none,none,none,none,none] from rfl];clear hu hu0 nd hr;push_cast [and_true];have sz:=sizeLine_eq;refine ⟨aa8 _,λp hp=>?_⟩;have npd:p≠d:=(ag hD.1 hp).symm;obtain ⟨P1,eP1⟩:∃P1:L2.St→Hp→Prop,∀σ H',P1 σ H'↔∃(ws:List V) (due:Nat) (v1 v2 v3 v4:Option V),σ=[some (.ref d),some (.ref nl),some (.int (m:Int)),some (.ref p),some (.int (due:Int)),v1,v2,v3,v4]∧aq d H H'∧H' d=some (.lst [.ref b,.int ((n+ws.length:Nat):Int)])∧H' p=some (.lst ws)∧(∀v∈ws,twW v)∧pend 1 (ws.map arV)=some due∧ws.length+due≤m:=⟨_,λ_ _=>abo⟩;refine kj P1 (λσ H'=>m - rh H' p) ?_ ?_ ?_
 ·exact (eP1 _ _).mpr ⟨[],1,none,none,none,none,rfl,(aq.refl d H).upd hp _,aa hp _ _ _ hD.1,ae,(λ_ h=>nomatch h),rfl,by show 0+1≤m;omega⟩
 ·intro σ H' hh;refine ob6 ((eP1 _ _).mp hh) λws due v1 v2 v3 v4 hh=>?_;have hS:=hh.2.1;have hD':=hh.2.2.1;have hp':=hh.2.2.2.1;have hw:=hh.2.2.2.2.1;have hpd:=hh.2.2.2.2.2.1;have hr:=hh.2.2.2.2.2.2;obtain rfl:=hh.1;clear hh;push_cast [and_true];have hDk:cu H' d b ns (n+ws.length):=hD.next hS hD'
  refine bu (λhdue=>nh hDk (by omega) λc H1 s1 d1=>?_) λhdue=>?_
  ·push_cast [pj,CPow];have hp1':H1 p=some (.lst ws):=s1 p _ npd hp';have hN1:=hN.b8 hD (hS.trans s1);have at':∀i:Nat,i < 60→atI (zs.map V.str) (i:Int)=some (.str (zs.getD i "")):=λi hi=>bo (by rw[aa7,aa4,aa0 (by rw[hN.2.1];exact hi)];rfl);have ok':∀i:Nat,i < 60→nmOk (zs.getD i ""):=λi hi=>by
    rw[aa4,aa0 (by rw[hN.2.1];exact hi)];exact hN.2.2.2 _ (ab3 _)
   have app:∀(v:V) (H2:Hp) (dd:Int),twW v→dd=(due:Int) - 1+(arV v:Int)→ws.length+due+arV v≤m→ak H1 H2→
     ∀w1 w2 w3 w4,qa (.ref p) [v] H2 λ_ H3=>P1 [some (.ref d),some (.ref nl),some (.int (m:Int)),some (.ref p),some (.int dd),w1,w2,w3,w4] H3∧m - rh H3 p < m - rh H' p:=by
    intro v H2 dd hv hdd hroom s2 w1 w2 w3 w4;have hp2:=s2 _ _ hp1';refine ⟨p,ws,v,rfl,rfl,hp2,by omega,(eP1 _ _).mpr ⟨ws++[v],due - 1+arV v,w1,w2,w3,w4,by rw[show dd=((due - 1+arV v:Nat):Int) by omega],(hS.trans (s1.trans (aq.of s2))).upd hp _,?_,ae,λx hx=>?_,?_,?_⟩,?_⟩
    ·rw[af npd.symm,aa2];exact s2 _ _ d1
    ·rcases List.mem_append.mp hx with h | h
     ·exact hw x h
     ·rw[List.mem_singleton.mp h];exact hv
    ·rw[aaa];exact xw _ _ _ _ hpd (by omega)
    ·rw[aa2,aa9];omega
    ·rw[n0 ae,n0 hp',aa2,aa9];omega
   refine ⟨ws,.inl (SqL.of hp1'),bu (λc3=>bu (λr1=>⟨av hp1',by show (3:Nat)≤sizeLine;decide,λp2 hp2=>?_⟩) λr1=>⟨rfl,bu (λe4=>by omega) λe4=>?_⟩) λc3=>⟨rfl,bu (λe4=>bu (λr0=>⟨av hp1',?_⟩) λr0=>?_) λe4=>?_⟩⟩
   ·obtain ⟨y,hy,hym⟩:=b7 [V.str (Str.ofString "add"),V.str (Str.ofString "sub"),V.str (Str.ofString "mul")] (c % 7) (aar _ (by decide)) (by show c % 7 < 3;omega);obtain ⟨z,rfl,a2⟩:∃z,y=V.str z∧arS z=2:=by
     simp only[aaq,aad,or_false] at hym;rcases hym with rfl | rfl | rfl
     ·exact ⟨_,rfl,by decide+kernel⟩
     ·exact ⟨_,rfl,by decide+kernel⟩
     ·exact ⟨_,rfl,by decide+kernel⟩
    have a2':arV (.str z)=2:=a2;exact ao ae hy (app (.str z) _ ((due:Int)+1) (twW_op (by omega)) (by rw[a2'];omega) (by rw[a2'];omega) (aa hp2 _) _ _ _ _)
   ·refine ⟨by decide,by decide,by decide,by show (6:Nat)≤sizeLine;decide,λp1 hp1=>?_⟩;obtain ⟨f1,hf1,hm1⟩:=b7 [V.int 3,V.int 7,V.int 41,V.int (10 ^ ab6 3),V.int (10 ^ ab6 9),V.int (10 ^ ab6 29)] (c / 7 / 27 % 6) (aar _ (by decide)) (by show c / 7 / 27 % 6 < 6;omega);obtain ⟨i1,rfl⟩:∃i,f1=V.int i:=by
     simp only[aaq,aad,or_false] at hm1;rcases hm1 with rfl | rfl | rfl | rfl | rfl | rfl <;> exact ⟨_,rfl⟩
    refine ao ae hf1 ⟨by decide,by decide+kernel,by show (3:Nat)≤sizeLine;decide,λp2 hp2=>?_⟩;obtain ⟨f2,hf2,hm2⟩:=b7 [V.int (c / 7 / 9 % 10 ^ ab6 20 - 7),V.int i1,V.int (0 - i1)] (c / 7 / 9 % 3) (aar _ (by decide)) (by show c / 7 / 9 % 3 < 3;omega);obtain ⟨i2,rfl⟩:∃i,f2=V.int i:=by
     simp only[aaq,aad,or_false] at hm2;rcases hm2 with rfl | rfl | rfl <;> exact ⟨_,rfl⟩
    have s2:=(aa hp1 (.lst [V.int 3,V.int 7,V.int 41,V.int (10 ^ ab6 3),V.int (10 ^ ab6 9),V.int (10 ^ ab6 29)])).trans (aa hp2 (.lst [V.int (c / 7 / 9 % 10 ^ ab6 20 - 7),V.int i1,V.int (0 - i1)]));refine ao ae hf2 ⟨av (s2 _ _ hp1'),ao (s2 _ _ hN1.1) (at' 0 (by decide)) (ao (s2 _ _ hN1.1) (at' 50 (by decide)) (ao (s2 _ _ hN1.1) (at' 51 (by decide)) ⟨by show (9:Nat)≤sizeLine;decide,λp3 hp3=>?_⟩))⟩;obtain ⟨f3,hf3,hm3⟩:=b7 [V.str (zs.getD 0 ""),V.str (zs.getD 50 ""),V.str (zs.getD 51 ""),V.int 0,V.int 2,V.int (-1),V.int 5,V.int i2,V.int i2] (c / 7 % 9) (aar _ (by decide)) (by show c / 7 % 9 < 9;omega);obtain ⟨t3,a3⟩:twW f3∧arV f3=0:=by
     simp only[aaq,aad,or_false] at hm3;rcases hm3 with rfl | rfl | rfl | rfl | rfl | rfl | rfl | rfl | rfl
     ·exact ⟨twW_name (ok' 0 (by decide)),(ok' 0 (by decide)).1⟩
     ·exact ⟨twW_name (ok' 50 (by decide)),(ok' 50 (by decide)).1⟩
     ·exact ⟨twW_name (ok' 51 (by decide)),(ok' 51 (by decide)).1⟩
     all_goals exact ⟨twW_int _,rfl⟩
    exact ao ae hf3 (app f3 _ ((due:Int) - 1) t3 (by rw[a3];omega) (by rw[a3];omega) (s2.trans (aa hp3 _)) _ _ _ _)
   ·have an:arV (.str (Str.ofString "neg"))=1:=Am;exact app (.str (Str.ofString "neg")) H1 (due:Int) (twW_op (by decide+kernel)) (by rw[an];omega) (by rw[an];omega) (ak.refl _) _ _ _ _
   ·refine ⟨by decide,by decide,by decide,by show (6:Nat)≤sizeLine;decide,λp1 hp1=>?_⟩;obtain ⟨f1,hf1,hm1⟩:=b7 [V.int 3,V.int 7,V.int 41,V.int (10 ^ ab6 3),V.int (10 ^ ab6 9),V.int (10 ^ ab6 29)] (c / 7 / 27 % 6) (aar _ (by decide)) (by show c / 7 / 27 % 6 < 6;omega);obtain ⟨i1,rfl⟩:∃i,f1=V.int i:=by
     simp only[aaq,aad,or_false] at hm1;rcases hm1 with rfl | rfl | rfl | rfl | rfl | rfl <;> exact ⟨_,rfl⟩
    refine ao ae hf1 ⟨by decide,by decide+kernel,by show (3:Nat)≤sizeLine;decide,λp2 hp2=>?_⟩;obtain ⟨f2,hf2,hm2⟩:=b7 [V.int (c / 7 / 9 % 10 ^ ab6 20 - 7),V.int i1,V.int (0 - i1)] (c / 7 / 9 % 3) (aar _ (by decide)) (by show c / 7 / 9 % 3 < 3;omega);obtain ⟨i2,rfl⟩:∃i,f2=V.int i:=by
     simp only[aaq,aad,or_false] at hm2;rcases hm2 with rfl | rfl | rfl <;> exact ⟨_,rfl⟩
    have s2:=(aa hp1 (.lst [V.int 3,V.int 7,V.int 41,V.int (10 ^ ab6 3),V.int (10 ^ ab6 9),V.int (10 ^ ab6 29)])).trans (aa hp2 (.lst [V.int (c / 7 / 9 % 10 ^ ab6 20 - 7),V.int i1,V.int (0 - i1)]));refine ao ae hf2 ⟨av (s2 _ _ hp1'),ao (s2 _ _ hN1.1) (at' 0 (by decide)) (ao (s2 _ _ hN1.1) (at' 50 (by decide)) (ao (s2 _ _ hN1.1) (at' 51 (by decide)) ⟨by show (9:Nat)≤sizeLine;decide,λp3 hp3=>?_⟩))⟩;obtain ⟨f3,hf3,hm3⟩:=b7 [V.str (zs.getD 0 ""),V.str (zs.getD 50 ""),V.str (zs.getD 51 ""),V.int 0,V.int 2,V.int (-1),V.int 5,V.int i2,V.int i2] (c / 7 % 9) (aar _ (by decide)) (by show c / 7 % 9 < 9;omega);obtain ⟨t3,a3⟩:twW f3∧arV f3=0:=by
     simp only[aaq,aad,or_false] at hm3;rcases hm3 with rfl | rfl | rfl | rfl | rfl | rfl | rfl | rfl | rfl
     ·exact ⟨twW_name (ok' 0 (by decide)),(ok' 0 (by decide)).1⟩
     ·exact ⟨twW_name (ok' 50 (by decide)),(ok' 50 (by decide)).1⟩
     ·exact ⟨twW_name (ok' 51 (by decide)),(ok' 51 (by decide)).1⟩
     all_goals exact ⟨twW_int _,rfl⟩
    exact ao ae hf3 (app f3 _ ((due:Int) - 1) t3 (by rw[a3];omega) (by rw[a3];omega) (s2.trans (aa hp3 _)) _ _ _ _)
   ·refine ⟨by decide,by decide,by decide,by show (6:Nat)≤sizeLine;decide,λp1 hp1=>?_⟩;obtain ⟨f1,hf1,hm1⟩:=b7 [V.int 3,V.int 7,V.int 41,V.int (10 ^ ab6 3),V.int (10 ^ ab6 9),V.int (10 ^ ab6 29)] (c / 7 / 27 % 6) (aar _ (by decide)) (by show c / 7 / 27 % 6 < 6;omega);obtain ⟨i1,rfl⟩:∃i,f1=V.int i:=by
     simp only[aaq,aad,or_false] at hm1;rcases hm1 with rfl | rfl | rfl | rfl | rfl | rfl <;> exact ⟨_,rfl⟩
    refine ao ae hf1 ⟨by decide,by decide+kernel,by show (3:Nat)≤sizeLine;decide,λp2 hp2=>?_⟩;obtain ⟨f2,hf2,hm2⟩:=b7 [V.int (c / 7 / 9 % 10 ^ ab6 20 - 7),V.int i1,V.int (0 - i1)] (c / 7 / 9 % 3) (aar _ (by decide)) (by show c / 7 / 9 % 3 < 3;omega);obtain ⟨i2,rfl⟩:∃i,f2=V.int i:=by
     simp only[aaq,aad,or_false] at hm2;rcases hm2 with rfl | rfl | rfl <;> exact ⟨_,rfl⟩
    have s2:=(aa hp1 (.lst [V.int 3,V.int 7,V.int 41,V.int (10 ^ ab6 3),V.int (10 ^ ab6 9),V.int (10 ^ ab6 29)])).trans (aa hp2 (.lst [V.int (c / 7 / 9 % 10 ^ ab6 20 - 7),V.int i1,V.int (0 - i1)]));refine ao ae hf2 ⟨av (s2 _ _ hp1'),ao (s2 _ _ hN1.1) (at' 0 (by decide)) (ao (s2 _ _ hN1.1) (at' 50 (by decide)) (ao (s2 _ _ hN1.1) (at' 51 (by decide)) ⟨by show (9:Nat)≤sizeLine;decide,λp3 hp3=>?_⟩))⟩;obtain ⟨f3,hf3,hm3⟩:=b7 [V.str (zs.getD 0 ""),V.str (zs.getD 50 ""),V.str (zs.getD 51 ""),V.int 0,V.int 2,V.int (-1),V.int 5,V.int i2,V.int i2] (c / 7 % 9) (aar _ (by decide)) (by show c / 7 % 9 < 9;omega);obtain ⟨t3,a3⟩:twW f3∧arV f3=0:=by
     simp only[aaq,aad,or_false] at hm3;rcases hm3 with rfl | rfl | rfl | rfl | rfl | rfl | rfl | rfl | rfl
     ·exact ⟨twW_name (ok' 0 (by decide)),(ok' 0 (by decide)).1⟩
     ·exact ⟨twW_name (ok' 50 (by decide)),(ok' 50 (by decide)).1⟩
     ·exact ⟨twW_name (ok' 51 (by decide)),(ok' 51 (by decide)).1⟩
     all_goals exact ⟨twW_int _,rfl⟩
    exact ao ae hf3 (app f3 _ ((due:Int) - 1) t3 (by rw[a3];omega) (by rw[a3];omega) (s2.trans (aa hp3 _)) _ _ _ _)
  ·have d0:due=0:=by omega
   subst d0;refine ⟨ws,.inl ⟨SqL.of hp',λt ht=>?_⟩⟩;have htn:=hS.free hD' ht;exact q t (n+ws.length) _ ws (hS.upd htn _) (by rw[af (ag hD' ht)];exact hD') (by omega) htn ae ⟨hw,hpd,by omega⟩ (by omega)
 ·intro σ H' Q1 Q2 hq h;simp only[Cp,tOp,rI0,ja,tC,j6,jv,tB] at h ⊢;obtain ⟨v,hv,i,j,e1,e2,k,e3,h⟩:=h;exact ⟨v,hv,i,j,e1,e2,k,e3,hq _ _ h⟩
noncomputable abbrev nq:Stmt:=top 20
theorem Fg:az ["deck","kinds","words","due","left","wide","cell","more","far","number"] ["deck","kinds"] (ah nq):=⟨rfl,rfl,rfl,by decide+kernel,rfl,by decide+kernel,by decide+kernel⟩
theorem J5 (G:Gs w K mg) (h_law_next:Has P w K mg base k "_law_next" ["deck"] gn) (D:Def K mg "_law_shape" nq ["deck","kinds"]):Has P w K mg base (k+1) "_law_shape" ["deck","kinds"] tf:=by
 refine D.has Fg (λvs H Q E h=>?_) (λf cdv A outer s H vs Q E hr h=>?_)
 ·obtain ⟨_,_,_,_,_,_,rfl,_,_,_,_,_,_,_⟩:=h;rfl
 have nd:=Fg.nd;have hu:=b9 hr;have hu0:=aai hu;obtain ⟨d,kt,b,ns,kinds,n,rfl,hD,hK,hk,h1,h2,hn,q⟩:=h;have m_int:=G.m_int;have m_len:=G.m_len;have m_tuple:=G.m_tuple;refine ⟨_,(A5 (A7 2 nd (AC (A3 0))) (A5 (A7 3 nd (A2 0)) (A5 (A7 4 nd (AG h_law_next hr (A1 (A0 0) (A3 0)))) (A5 (A7 5 nd (C5 (AR 0) (A4 (A9 0) (A4 (AQ 0) (A0 4) (A2 0)) (A2 0)) (A2 0) (AA 0))) (A5 (A7 4 nd (A8 (AM 0) (AC (A1 (A4 (AK 0) (A2 0) (A4 (A9 0) (A0 4) (A2 0))) (A1 (A2 0) (A3 0)))) (AZ (@gx _) m_int um (A1 (A0 5) (A3 0))))) (A5 (C4 (AB (@jd _) (A0 3) (A2 0) (AA 0)) (A5 (A7 6 nd (AG h_law_next hr (A1 (A0 0) (A3 0)))) (A5 (A7 7 nd (A4 (AQ 0) (A0 6) (A2 0))) (A6 (AE (BA (BK (AB (@jd _) (A0 4) (A2 0) (AA 0)) (BM (AB (@ni _) (A4 (A9 0) (A0 6) (A2 0)) (A4 (AK 0) (A2 0) (AZ (@gx _) m_int um (A1 (A0 5) (A3 0)))) (AA 0))))) (A5 (A7 4 nd (A4 (B0 0) (A0 4) (A2 0))) (A5 (AS (AU PySem.F.plainAttrs_list PySem.F.slot_list_append PySem.F.type_list_append (AV 0) (A0 2) (A1 (A8 (AM 0) (AC (BF (AH (AH (AH (AH (BG 0))))))) (A4 (A9 0) (A0 7) (A2 0))) (A3 0)))) (A6 (A7 3 nd (A4 (AK 0) (A0 3) (AZ (@gx _) m_int um (A1 (C5 (@ni _) (A4 (A9 0) (A0 7) (A2 0)) (A2 0) (AA 0)) (A3 0)))))))) (A6 (AE (BA (BK (AB (@jd _) (A0 4) (A2 0) (AA 0)) (BM (AB (AR 0) (A4 (A9 0) (A0 6) (A2 0)) (A2 0) (AA 0))))) (A5 (A7 4 nd (A4 (B0 0) (A0 4) (A2 0))) (A5 (A7 3 nd (A4 (B0 0) (A0 3) (A2 0))) (A5 (A7 8 nd (A8 (AM 0) (AC (A1 (A2 0) (A1 (A2 0) (A1 (A2 0) (A1 (A4 (@iu _) (A2 0) (A2 0)) (A1 (A4 (@iu _) (A2 0) (A2 0)) (A1 (A4 (@iu _) (A2 0) (A2 0)) (A3 0)))))))) (A4 (A9 0) (A4 (AQ 0) (A0 7) (A2 0)) (A2 0)))) (A5 (A7 9 nd (A8 (AM 0) (AC (A1 (A2 0) (A1 (A2 0) (A1 (BZ (@jj _) (A2 0)) (A1 (A2 0) (A1 (A0 8) (A1 (A4 (B0 0) (A2 0) (A0 8)) (A3 0)))))))) (A4 (A9 0) (A4 (AQ 0) (A0 7) (A2 0)) (A2 0)))) (A6 (AS (AU PySem.F.plainAttrs_list PySem.F.slot_list_append PySem.F.type_list_append (AV 0) (A0 2) (A1 (A8 (AM 0) (AC (A1 (AL 0) (A1 (AL 0) (A1 (A0 9) (A3 0))))) (A4 (A9 0) (A0 7) (A2 0))) (A3 0))))))))) (A5 (A7 3 nd (A4 (B0 0) (A0 3) (A2 0))) (A6 (AS (AU PySem.F.plainAttrs_list PySem.F.slot_list_append PySem.F.type_list_append (AV 0) (A0 2) (A1 (A8 (AF 0) (A0 1) (A4 (A9 0) (A0 7) (AN (AX 0) m_len cw (A1 (A0 1) (A3 0))))) (A3 0))))))))))))) (A6 (AD (AZ (BJ 0) m_tuple fc (A1 (A0 2) (A3 0))))))))))),?_⟩;rw[show start ["deck","kinds","words","due","left","wide","cell","more","far","number"] [.ref d,.ref kt]=[some (.ref d),some (.ref kt),none,none,none,none,none,none,none,none] from rfl];clear hu hu0 nd hr;push_cast [and_true];have sz:=sizeLine_eq;refine ⟨aa8 _,λp hp=>?_⟩;have npd:p≠d:=(ag hD.1 hp).symm;refine nh (b:=b) (ns:=ns) (n:=n) ⟨aa hp _ _ _ hD.1,aa hp _ _ _ hD.2⟩ (by omega) λc0 H1 s1 d1=>?_;push_cast [pj];refine ⟨rfl,by show (2:Nat)≤sizeLine;decide,λp1 hp1=>?_⟩;have D0:cu (upd H p (.lst [])) d b ns n:=⟨aa hp _ _ _ hD.1,aa hp _ _ _ hD.2⟩;have D1:=D0.next s1 d1
 have S1:aq d H H1:=(aq.of (aa hp _)).trans s1;have hp1':H1 p=some (.lst []):=s1 p _ npd ae;obtain ⟨L0,hL1,hL2,hat⟩:∃L0:Nat,1≤L0∧L0≤5∧atI [V.int (1+c0 % 4),V.int 5] (if c0 / 4 % 8=3 then 1 else 0)=some (.int (L0:Int)):=by
  have a0:0≤c0 % 4:=aar _ (by decide);by_cases e:c0 / 4 % 8=3
  ·rw[if_pos e];exact ⟨5,by decide,by decide,rfl⟩
  ·rw[if_neg e];exact ⟨(1+c0 % 4).toNat,by omega,by omega,(show atI [V.int (1+c0 % 4),V.int 5] 0=some (V.int (1+c0 % 4)) from rfl).trans (by rw[show (((1+c0 % 4).toNat:Nat):Int)=1+c0 % 4 by omega])⟩
 refine ao ae hat ?_;have S2:=S1.upd (S1.free d1 hp1) (.lst [V.int (1+c0 % 4),V.int 5]);have d2:=aa hp1 (.lst [V.int (1+c0 % 4),V.int 5]) _ _ d1;have p2:=aa hp1 (.lst [V.int (1+c0 % 4),V.int 5]) _ _ hp1';generalize upd H1 p1 (.lst [V.int (1+c0 % 4),V.int 5])=H2 at S2 d2 p2 ⊢;obtain ⟨P1,eP1⟩:∃P1:L2.St→Hp→Prop,∀σ H',P1 σ H'↔∃(ws:List V) (due left:Nat) (v6 v7 v8 v9:Option V),σ=[some (.ref d),some (.ref kt),some (.ref p),some (.int (due:Int)),some (.int (left:Int)),some (.bl (decide (c0 / 4 % 8=3))),v6,v7,v8,v9]∧aq d H H'∧H' d=some (.lst [.ref b,.int ((n+1+ws.length:Nat):Int)])∧H' p=some (.lst ws)∧(∀v∈ws,isW v)∧pend 1 (ws.map arV)=some due∧ws.length+due+2*left≤11∧(ws.filter λv=>!inV v (kinds.map V.str)).length+left≤5:=⟨_,λ_ _=>abo⟩;refine kj P1 (λσ H'=>11 - rh H' p) ?_ ?_ ?_
 ·exact (eP1 _ _).mpr ⟨[],1,L0,none,none,none,none,rfl,S2,d2,p2,(λ_ h=>nomatch h),rfl,by show 0+1+2*L0≤11;omega,by show 0+L0≤5;omega⟩
 ·intro σ H' hh;refine ob7 ((eP1 _ _).mp hh) λws due left v6 v7 v8 v9 hh=>?_;have hS:=hh.2.1;have hD':=hh.2.2.1;have hp':=hh.2.2.2.1;have hw:=hh.2.2.2.2.1;have hpd:=hh.2.2.2.2.2.1;have hr:=hh.2.2.2.2.2.2.1;have hfew:=hh.2.2.2.2.2.2.2;obtain rfl:=hh.1;clear hh;push_cast [and_true];have hDk:cu H' d b ns (n+1+ws.length):=hD.next hS hD'
  refine bu (λhdue=>nh hDk (by omega) λc H3 s3 d3=>?_) λhdue=>?_
  ·push_cast [pj,CPow];have p3:H3 p=some (.lst ws):=s3 p _ npd hp';have k3:H3 kt=some (.tup (kinds.map V.str)):=(hS.trans s3) kt _ (df hK hD.1 (by intro e;cases e)) hK;have app:∀(v:V) (H4:Hp) (dd:Int) (left':Nat),isW v→dd=(due:Int) - 1+(arV v:Int)→ws.length+due+arV v+2*left'≤11→(left'+1=left∨(left'=left∧inV v (kinds.map V.str)=true))→ak H3 H4→
     ∀w6 w7 w8 w9,qa (.ref p) [v] H4 λ_ H5=>P1 [some (.ref d),some (.ref kt),some (.ref p),some (.int dd),some (.int (left':Int)),some (.bl (decide (c0 / 4 % 8=3))),w6,w7,w8,w9] H5∧11 - rh H5 p < 11 - rh H' p:=by
    intro v H4 dd left' hv hdd hroom hlf s4 w6 w7 w8 w9;have p4:=s4 _ _ p3;refine ⟨p,ws,v,rfl,rfl,p4,by omega,(eP1 _ _).mpr ⟨ws++[v],due - 1+arV v,left',w6,w7,w8,w9,by rw[show dd=((due - 1+arV v:Nat):Int) by omega],(hS.trans (s3.trans (aq.of s4))).upd hp _,?_,ae,λx hx=>?_,?_,?_,?_⟩,?_⟩
    ·rw[af npd.symm,aa2];exact s4 _ _ d3
    ·rcases List.mem_append.mp hx with h | h
     ·exact hw x h
     ·rw[List.mem_singleton.mp h];exact hv
    ·rw[aaa];exact xw _ _ _ _ hpd (by omega)
    ·rw[aa2,aa9];omega
    ·rw[abe,aa2];rcases hlf with h | ⟨h,hin⟩
     ·have:([v].filter λv=>!inV v (kinds.map V.str)).length≤1:=abf _ _;omega
     ·have:[v].filter (λv=>!inV v (kinds.map V.str))=[]:=by rw[aau,hin];rfl
      rw[this,acn];omega
    ·rw[n0 ae,n0 hp',aa2,aa9];omega
   refine bu (λl0=>bu (λa1=>⟨av p3,by show (4:Nat)≤sizeLine;decide,λp4 hp4=>?_⟩) λa1=>bu (λ_=>⟨rfl,bu (λe3=>?_) λe3=>?_⟩) λnl=>absurd l0 nl) λnl=>bu (λl0=>absurd l0 nl) λ_=>?_
   ·obtain ⟨y,hy,hw2,ha2⟩:∃y,atI [V.str (Str.ofString "add"),V.str (Str.ofString "sub"),V.str (Str.ofString "mul"),V.str (Str.ofString "neg")] (c / 5 % 4)=some y∧isW y∧((due:Int)+if c / 5 % 4 < 3 then 1 else 0)=(due:Int) - 1+(arV y:Int):=by
     rcases (show c / 5 % 4=((0:Nat):Int)∨c / 5 % 4=((1:Nat):Int)∨c / 5 % 4=((2:Nat):Int)∨c / 5 % 4=((3:Nat):Int) by omega) with e | e | e | e
     ·rw[e];exact ⟨_,bo rfl,⟨Sum.inr _,rfl⟩,by rw[show arV (.str (Str.ofString "add"))=2 by decide+kernel,if_pos (by decide)];omega⟩
     ·rw[e];exact ⟨_,bo rfl,⟨Sum.inr _,rfl⟩,by rw[show arV (.str (Str.ofString "sub"))=2 by decide+kernel,if_pos (by decide)];omega⟩
     ·rw[e];exact ⟨_,bo rfl,⟨Sum.inr _,rfl⟩,by rw[show arV (.str (Str.ofString "mul"))=2 by decide+kernel,if_pos (by decide)];omega⟩
     ·rw[e];exact ⟨_,bo rfl,⟨Sum.inr _,rfl⟩,by rw[show arV (.str (Str.ofString "neg"))=1 from Am,if_neg (by decide)];omega⟩
    have ar2:=uw y;obtain ⟨l',rfl⟩:∃l',left=l'+1:=⟨left - 1,by omega⟩;rw[show ((l'+1:Nat):Int) - 1=(l':Int) by omega];exact ao ae hy (app y _ _ l' hw2 ha2 (by omega) (.inl rfl) (aa hp4 _) _ _ _ _)
   ·obtain ⟨l',rfl⟩:∃l',left=l'+1:=⟨left - 1,by omega⟩;rw[show ((l'+1:Nat):Int) - 1=(l':Int) by omega];refine ⟨by decide,by decide,by decide,by show (6:Nat)≤sizeLine;decide,λp4 hp4=>?_⟩;obtain ⟨f1,hf1,hm1⟩:=b7 [V.int 3,V.int 7,V.int 41,V.int (10 ^ ab6 3),V.int (10 ^ ab6 9),V.int (10 ^ ab6 29)] (c / 5 / 18 % 6) (aar _ (by decide)) (by show c / 5 / 18 % 6 < 6;omega);obtain ⟨i1,rfl⟩:∃i,f1=V.int i:=by
     simp only[aaq,aad,or_false] at hm1;rcases hm1 with rfl | rfl | rfl | rfl | rfl | rfl <;> exact ⟨_,rfl⟩
    refine ao ae hf1 ⟨by show (6:Nat)≤sizeLine;decide,λp5 hp5=>?_⟩;obtain ⟨f2,hf2,hm2⟩:=b7 [V.int 0,V.int 2,V.int (-1),V.int 5,V.int i1,V.int (0 - i1)] (c / 5 / 3 % 6) (aar _ (by decide)) (by show c / 5 / 3 % 6 < 6;omega);obtain ⟨i2,rfl⟩:∃i,f2=V.int i:=by
     simp only[aaq,aad,or_false] at hm2;rcases hm2 with rfl | rfl | rfl | rfl | rfl | rfl <;> exact ⟨_,rfl⟩
    have s5:=(aa hp4 (.lst [V.int 3,V.int 7,V.int 41,V.int (10 ^ ab6 3),V.int (10 ^ ab6 9),V.int (10 ^ ab6 29)])).trans (aa hp5 (.lst [V.int 0,V.int 2,V.int (-1),V.int 5,V.int i1,V.int (0 - i1)]));refine ao ae hf2 ⟨av (s5 _ _ p3),by show (3:Nat)≤sizeLine;decide,λp6 hp6=>?_⟩;obtain ⟨f3,hf3,hm3⟩:=b7 [V.str (Str.ofString "any"),V.str (Str.ofString "var"),V.int i2] (c / 5 % 3) (aar _ (by decide)) (by show c / 5 % 3 < 3;omega);obtain ⟨t3,a3⟩:isW f3∧arV f3=0:=by
     simp only[aaq,aad,or_false] at hm3;rcases hm3 with rfl | rfl | rfl
     ·exact ⟨⟨Sum.inr _,rfl⟩,wk⟩
     ·exact ⟨⟨Sum.inr _,rfl⟩,ui⟩
     ·exact ⟨⟨Sum.inl _,rfl⟩,rfl⟩
    exact ao ae hf3 (app f3 _ ((due:Int) - 1) l' t3 (by rw[a3];omega) (by rw[a3];omega) (.inl rfl) (s5.trans (aa hp6 _)) _ _ _ _)
   ·have hm:=b7 (kinds.map V.str) (c / 5 % (((kinds.map V.str).length:Nat):Int)) (aar _ (by rw[aa1];omega)) (abm _ (by rw[aa1];omega));obtain ⟨y,hy,hym⟩:=hm;obtain ⟨z,hz,rfl⟩:=List.mem_map.mp hym;have a0:arV (.str z)=0:=(hk z hz).1;have kn:inV (.str z) (kinds.map V.str)=true:=t8 hym;exact ⟨av p3,_,.inr (SqT.of k3),by rw[aa1];omega,au k3 hy (app (.str z) H3 ((due:Int) - 1) left ⟨Sum.inr z,rfl⟩ (by rw[a0];omega) (by rw[a0];omega) (.inr ⟨rfl,kn⟩) (ak.refl _) _ _ _ _)⟩
   ·have hm:=b7 (kinds.map V.str) (c / 5 % (((kinds.map V.str).length:Nat):Int)) (aar _ (by rw[aa1];omega)) (abm _ (by rw[aa1];omega));obtain ⟨y,hy,hym⟩:=hm;obtain ⟨z,hz,rfl⟩:=List.mem_map.mp hym;have a0:arV (.str z)=0:=(hk z hz).1;have kn:inV (.str z) (kinds.map V.str)=true:=t8 hym;exact ⟨av p3,_,.inr (SqT.of k3),by rw[aa1];omega,au k3 hy (app (.str z) H3 ((due:Int) - 1) left ⟨Sum.inr z,rfl⟩ (by rw[a0];omega) (by rw[a0];omega) (.inr ⟨rfl,kn⟩) (ak.refl _) _ _ _ _)⟩
  ·have d0:due=0:=by omega
   subst d0;refine ⟨ws,.inl ⟨SqL.of hp',λt ht=>?_⟩⟩;have htn:=hS.free hD' ht;exact q t (n+1+ws.length) _ ws (hS.upd htn _) (by rw[af (ag hD' ht)];exact hD') (by omega) htn ae ⟨hw,hpd,by omega,by omega⟩
 ·intro σ H' Q1 Q2 hq h;simp only[Cp,tOp,rI0,ja,tC,j6,jv,tB] at h ⊢;obtain ⟨v,hv,i,j,e1,e2,k,e3,h⟩:=h;exact ⟨v,hv,i,j,e1,e2,k,e3,hq _ _ h⟩
noncomputable abbrev mn:Stmt:=top 21
theorem Fo:az ["kinds","shape","stack","deeds","free","back","at","word","count","read","turn","box"] ["kinds","shape"] (ah mn):=⟨rfl,rfl,rfl,by decide+kernel,rfl,by decide+kernel,by decide+kernel⟩
theorem Kw (G:Gs w K mg) (D:Def K mg "_law_deeds" mn ["kinds","shape"]):Has P w K mg base (k+1) "_law_deeds" ["kinds","shape"] (tj K):=by
 refine D.has Fo (λvs H Q E h=>?_) (λf cdv A outer s H vs Q E hr h=>?_)
 ·obtain ⟨_,_,_,_,rfl,_,_,_,_,_⟩:=h;rfl
 have nd:=Fo.nd;have hu:=b9 hr;have hu0:=aai hu;obtain ⟨kt,st,kinds,sh,rfl,hK,hS,hk,ok,q⟩:=h;have m_int:=G.m_int;have m_isinstance:=G.m_isinstance;have m_len:=G.m_len;have m_range:=G.m_range;have m_str:=G.m_str;have m_tuple:=G.m_tuple;refine ⟨_,(A5 (A7 2 nd (AC (A3 0))) (A5 (A7 3 nd (AC (A3 0))) (A5 (A7 4 nd (AC (BF (AH (AH (AH (BG 0))))))) (A5 (AY (BP m_range (A1 (AN (AX 0) m_len cw (A1 (A0 1) (A3 0))) (A3 0))) (AJ 5 nd (by first | exact ab5 rfl | exact ab7 rfl)) (A5 (A7 6 nd (A4 (B0 0) (A4 (B0 0) (AN (AX 0) m_len cw (A1 (A0 1) (A3 0))) (A2 0)) (A0 5))) (A5 (C0 7 nd (A8 (AF 0) (A0 1) (A0 6))) (A5 (A7 8 nd (AZ (@zt _) m_str Gd (A1 (AN (AX 0) m_len cw (A1 (BU (BL ["one"] ["word","kinds"] [7,0] (aas rfl (aas rfl trivial)) (aas (aas rfl (aas rfl rfl)) (aas (aas rfl (aas rfl rfl)) trivial))) (BW (B6 (@ik _) (A0 1) (B7 0) (B9 (A4 (AK 0) (A0 6) (A2 0))))) (λ_ _ _=>(BE 0 (show ac2 (["one","word","kinds"]:List Str) by decide+kernel))) (λ_ _ _=>(@pif1 _ _ _ (BA (BY (AB (AR 0) (A0 0) (AO 1) (AA 0)) (C3 (BA (BK (BH (@nr _ K rfl) (AO 1) (AO 2)) (BM (BH (@nr _ K rfl) (A0 0) (AO 2)))))))))) (λ_ _ _=>(A0 0))) (A3 0))) (A3 0)))) (A5 (AE (BH (BR 0) (AO 7) (AO 0)) (A5 (AS (AU PySem.F.plainAttrs_list PySem.F.slot_list_append PySem.F.type_list_append (AV 0) (A0 2) (A1 (A4 (BQ 0) (AL 0) (A0 8)) (A3 0)))) (A6 (@Cu _ _))) (AT 0)) (A5 (A7 9 nd (AC (A3 0))) (A5 (AY (BP m_range (A1 (A4 (AK 0) (AZ (@gx _) m_int um (A1 (@Af _ _ _ _ _ _ _ _ (BR 0) (AO 7) (AC (BF (AH (AH (AH (AH (BG 0))))))) (by with_unfolding_all rfl)) (A3 0))) (AZ (@gx _) m_int um (A1 (@Af _ _ _ _ _ _ _ _ (BR 0) (AO 7) (AC (BF (AH (AH (AH (BG 0)))))) (by with_unfolding_all rfl)) (A3 0)))) (A3 0))) (AJ 10 nd (by first | exact ab5 rfl | exact ab7 rfl)) (A6 (AS (AU PySem.F.plainAttrs_list PySem.F.slot_list_append PySem.F.type_list_append (AV 0) (A0 9) (A1 (C9 PySem.F.plainAttrs_list PySem.F.slot_list_pop PySem.F.type_list_pop (@za _) (A0 2)) (A3 0)))))) (A5 (AS (AU PySem.F.plainAttrs_list PySem.F.slot_list_extend PySem.F.type_list_extend (@yd _) (A0 4) (A1 (BU (BL ["box"] [] [] trivial trivial) (BD (A0 9)) (λ_ _ _=>(BE 0 (show ac2 (["box"]:List Str) by decide+kernel))) (λ_ _ _=>(@pif1 _ _ _ (AB (AR 0) (A8 (@ka _) (A0 0) (A2 0)) (AL 0) (AA 0)))) (λ_ _ _=>(A0 0))) (A3 0)))) (A5 (A7 11 nd (AL 0)) (BI (AE (AB (@jd _) (A0 6) (A2 0) (AA 0)) (A6 (A7 11 nd (C9 PySem.F.plainAttrs_list PySem.F.slot_list_pop PySem.F.type_list_pop (@za _) (A0 4)))) (AT 0)) (BI (AE (AB (AR 0) (AO 7) (AL 0) (AA 0)) (A6 (AS (AU PySem.F.plainAttrs_list PySem.F.slot_list_append PySem.F.type_list_append (AV 0) (A0 3) (A1 (AI (A1 (AL 0) (A1 (A0 11) (A1 (A4 (BQ 0) (AL 0) (A0 8)) (A3 0))))) (A3 0))))) (A6 (AE (AB (AR 0) (AO 7) (AL 0) (AA 0)) (A6 (AS (AU PySem.F.plainAttrs_list PySem.F.slot_list_append PySem.F.type_list_append (AV 0) (A0 3) (A1 (AI (A1 (AL 0) (A1 (A0 11) (A1 (A4 (BQ 0) (AL 0) (A0 8)) (A3 0))))) (A3 0))))) (A6 (AE (BX (AN (C1 0) m_isinstance dr (A1 (AO 7) (A1 (C2 m_int um) (A3 0))))) (A6 (AS (AU PySem.F.plainAttrs_list PySem.F.slot_list_append PySem.F.type_list_append (AV 0) (A0 3) (A1 (AI (A1 (AL 0) (A1 (A0 11) (A1 (AO 7) (A3 0))))) (A3 0))))) (A6 (AS (AU PySem.F.plainAttrs_list PySem.F.slot_list_append PySem.F.type_list_append (AV 0) (A0 3) (A1 (A4 (@ua _) (AI (A1 (AO 7) (A1 (A0 11) (A3 0)))) (AZ (BJ 0) m_tuple fc (A1 (A0 9) (A3 0)))) (A3 0)))))))))) (A6 (AS (AU PySem.F.plainAttrs_list PySem.F.slot_list_append PySem.F.type_list_append (AV 0) (A0 2) (A1 (A0 11) (A3 0)))))))))))))))) (A5 (AE (AB (AR 0) (AN (AX 0) m_len cw (A1 (A0 3) (A3 0))) (A2 0) (AA 0)) (A6 (AD (AI (A1 (AI (BF (AH (AH (BV (BG 0)))))) (A1 (AI (BF (AH (AH (AH (AH (BG 0))))))) (A3 0)))))) (AT 0)) (A6 (AD (AZ (BJ 0) m_tuple fc (A1 (A0 3) (A3 0)))))))))),?_⟩;rw[show start ["kinds","shape","stack","deeds","free","back","at","word","count","read","turn","box"] [.ref kt,.ref st]=[some (.ref kt),some (.ref st),none,none,none,none,none,none,none,none,none,none] from rfl];clear hu hu0 nd hr;push_cast [and_true];have sz:=sizeLine_eq;have hlen:=ok.len;refine ⟨aa8 _,λsp h1=>⟨aa8 _,λdp h2=>⟨by show (3:Nat)≤sizeLine;decide,λfp h3=>?_⟩⟩⟩;have nsd:sp≠dp:=ag ae h2;have nsf:sp≠fp:=ag (aa h2 _ _ _ ae) h3;have ndf:dp≠fp:=ag ae h3;have S1:=aa h1 (.lst []);have fd:=S1.free h2;have S2:=S1.trans (aa h2 (.lst []));have ff:=S2.free h3;have S3:=S2.trans (aa h3 (.lst [V.str (Str.ofString "t3"),V.str (Str.ofString "t2"),V.str (Str.ofString "t1")]));have z3:=aa h3 (.lst [V.str (Str.ofString "t3"),V.str (Str.ofString "t2"),V.str (Str.ofString "t1")]) _ _ (aa h2 (.lst []) _ _ (ae (H:=H) (a:=sp) (o:=.lst [])));have d3:=aa h3 (.lst [V.str (Str.ofString "t3"),V.str (Str.ofString "t2"),V.str (Str.ofString "t1")]) _ _ (ae (H:=upd H sp (.lst [])) (a:=dp) (o:=.lst []));have f3:upd (upd (upd H sp (.lst [])) dp (.lst [])) fp (.lst [V.str (Str.ofString "t3"),V.str (Str.ofString "t2"),V.str (Str.ofString "t1")]) fp=some (.lst ([Str.ofString "t3",Str.ofString "t2",Str.ofString "t1"].map V.str)):=ae;generalize upd (upd (upd H sp (.lst [])) dp (.lst [])) fp (.lst [V.str (Str.ofString "t3"),V.str (Str.ofString "t2"),V.str (Str.ofString "t1")])=H3 at S3 z3 d3 f3 ⊢;refine ⟨sh,.inr (SqT.of (S3 _ _ hS)),by omega,by omega,?_⟩;rw[show ((sh.length:Nat):Int).toNat=sh.length by omega];obtain ⟨P1,eP1⟩:∃P1:Nat→L2.St→Hp→Prop,∀j σ H',P1 j σ H'↔∃(zs fs:List Str) (ds:List V) (v5 v6 v7 v8 v9 v10 v11:Option V),σ=[some (.ref kt),some (.ref st),some (.ref sp),some (.ref dp),some (.ref fp),v5,v6,v7,v8,v9,v10,v11]∧ak H H'∧H' sp=some (.lst (zs.map V.str))∧H' dp=some (.lst ds)∧H' fp=some (.lst (fs.map V.str))∧ds.length≤j∧DI kinds sh (sh.length - j) zs fs:=⟨_,λ_ _ _=>abo⟩;refine fh (lo:=0) P1 ((eP1 _ _ _).mpr ⟨[],_,[],none,none,none,none,none,none,none,rfl,S3,z3,d3,f3,aa6 _,DI.start ok⟩) ?_ ?_
 ·intro j σ H5 hj hh;refine ob10 ((eP1 _ _ _).mp hh) λzs fs ds v5 v6 v7 v8 v9 v10 v11 hh=>?_;have s5:=hh.2.1;have z5:=hh.2.2.1;have d5:=hh.2.2.2.1;have f5:=hh.2.2.2.2.1;have hdl:=hh.2.2.2.2.2.1;have di:=hh.2.2.2.2.2.2;obtain rfl:=hh.1;clear hh;obtain ⟨p,hp⟩:∃p,p+j+1=sh.length:=⟨sh.length - 1 - j,by omega⟩;rw[show sh.length - j=p+1 by omega] at di;have ej:(λ_:Unit=>sh.length - (j+1))=λ_=>p:=by funext _;omega
  have hpl:p < sh.length:=by omega
  have hv:sh[p]?=some sh[p]:=aa0 hpl;have hvw:=ok.w _ (ab3 hpl);have hat:atI sh (p:Int)=some sh[p]:=bo hv;generalize sh[p]=v at hv hvw hat;have fl:(kinds.map V.str).all ij=true:=List.all_eq_true.mpr λx hx=>by obtain ⟨z,_,rfl⟩:=List.mem_map.mp hx;rfl
  have zll:=Gj _ _ di.pd;rw[aa1,aah] at zll;push_cast [and_true];refine ⟨sh,.inr (SqT.of (s5 _ _ hS)),?_⟩;rw[show ((sh.length:Int) - 1 - (0+(j:Int)))=(p:Int) by omega];refine au (s5 _ _ hS) hat (Oz (s5 _ _ hS) λa H6 s6 h6=>⟨a,rfl,⟨_,SqT.of h6⟩,λD hD=>?_⟩);have e6:(p:Int)+1=((p+1:Nat):Int):=by omega
  rw[e6,kh sh (p+1) (by omega)] at h6;have S6:=s5.trans s6;refine Dd (λi ys=>True) (SqT.of h6) (by rw[aaw];omega) hD trivial (λi x ys H1 G' K' hx hP hl2 hS' hG hK'=>?_) λys H7 hP hl2 s7 hD2=>?_
  ·have hxw:=ok.w x (abk (aak hx));have kk:=SqT.of (K:=K) (hS' _ _ (S6 _ _ hK));push_cast [rIn];exact ⟨hxw.sc2 hvw,bu (λ_=>hK' _ _ (ak.refl _) trivial) λ_=>⟨_,.inr kk,hvw.flat,fl,bu (λ_=>⟨_,.inr kk,hxw.flat,fl,bu (λ_=>hK' _ _ (ak.refl _) trivial) λ_=>hG _ (ak.refl _) trivial⟩) λ_=>hG _ (ak.refl _) trivial⟩⟩
  rw[aaw] at hl2;have S7:=S6.trans s7;have z7:=s7 _ _ (s6 _ _ z5);have d7:=s7 _ _ (s6 _ _ d5);have f7:=s7 _ _ (s6 _ _ f5);obtain ⟨tx1,tx2⟩:=Dw (n:=ys.length) (by omega);refine ⟨ys,.inl (SqL.of hD2),tx2,kt,_,rfl,.inr (SqT.of (S7 _ _ hK)),hvw.flat,fl,?_⟩;generalize Gk (V.int (ys.length:Int))=tx at tx1 ⊢;clear hD hD2 hl2 tx2 s7 s6 h6 S6 hP;rw[show ∀x y:Bool,(if false=true then x else y)=y from λ_ _=>rfl];have h1l:(Str.ofString "h").length=1:=by decide+kernel
  cases hin:inV v (kinds.map V.str) with
  | true=>
   refine ifY rfl ?_;refine ⟨av z7,by omega,(bb (K:=K) z7 (by rw[aa1];omega) ?_).2⟩;push_cast [tCont];exact (eP1 _ _ _).mpr ⟨zs++[Str.ofString "h"++tx],fs,ds,_,_,_,_,_,_,_,rfl,S7.upd h1 _,by rw[ae,aaa];rfl,by rw[af nsd.symm];exact d7,by rw[af nsf.symm];exact f7,by omega,by rw[show sh.length - (j+1)=p from congrFun ej ()];exact di.hole hv (Qd hk hvw hin) (isT_h tx) (by rw[Str.length_append,h1l];omega)⟩
  | false=>
   refine ifN aab ?_;push_cast [and_true];refine ⟨aa8 _,λrp hrp=>⟨by show (4:Nat)≤sizeLine;decide,λp1 hp1=>⟨p1,_,rfl,.inl (SqL.of ae),hvw.flat,rfl,by show (3:Nat)≤sizeLine;decide,λp2 hp2=>⟨p2,_,rfl,.inl (SqL.of ae),hvw.flat,rfl,?_⟩⟩⟩⟩;dsimp only;rw[show ∀x y:Bool,(if false=true then x else y)=y from λ_ _=>rfl,show ∀x y:Bool,(if false=true then x else y)=y from λ_ _=>rfl];have oc:=Hm hvw;rw[show ((if inV v [V.str (Str.ofString "add"),V.str (Str.ofString "sub"),V.str (Str.ofString "mul"),V.str (Str.ofString "neg")]=true then (1:Int) else 0)+if inV v [V.str (Str.ofString "add"),V.str (Str.ofString "sub"),V.str (Str.ofString "mul")]=true then 1 else 0)=(arV v:Int) from oc];have ar2:=uw v;refine ⟨by omega,by omega,?_⟩;rw[show ((arV v:Nat):Int).toNat=arV v by omega];have frp:=S7.free hrp;have nrs:rp≠sp:=(ag z7 hrp).symm;have nrd:rp≠dp:=(ag d7 hrp).symm;have nrf:rp≠fp:=(ag f7 hrp).symm;have q8:=(aa hrp (.lst [])).trans ((aa hp1 (.lst [V.str (Str.ofString "add"),V.str (Str.ofString "sub"),V.str (Str.ofString "mul"),V.str (Str.ofString "neg")])).trans (aa hp2 (.lst [V.str (Str.ofString "add"),V.str (Str.ofString "sub"),V.str (Str.ofString "mul")])));have r8:=aa hp2 (.lst [V.str (Str.ofString "add"),V.str (Str.ofString "sub"),V.str (Str.ofString "mul")]) _ _ (aa hp1 (.lst [V.str (Str.ofString "add"),V.str (Str.ofString "sub"),V.str (Str.ofString "mul"),V.str (Str.ofString "neg")]) _ _ (ae (H:=H7) (a:=rp) (o:=.lst [])));have S8:=S7.trans q8;have z8:=q8 _ _ z7;have d8:=q8 _ _ d7;have f8:=q8 _ _ f7;generalize upd (upd (upd H7 rp (.lst [])) p1 (.lst [V.str (Str.ofString "add"),V.str (Str.ofString "sub"),V.str (Str.ofString "mul"),V.str (Str.ofString "neg")])) p2 (.lst [V.str (Str.ofString "add"),V.str (Str.ofString "sub"),V.str (Str.ofString "mul")])=H8 at q8 r8 S8 z8 d8 f8 ⊢;obtain ⟨hale,_,_,_⟩:=di.less hv;obtain ⟨P2,eP2⟩:∃P2:Nat→L2.St→Hp→Prop,∀k σ H',P2 k σ H'↔∃v10:Option V,σ=[some (.ref kt),some (.ref st),some (.ref sp),some (.ref dp),some (.ref fp),some (.int (0+(j:Int))),some (.int (p:Int)),some v,some (.str tx),some (.ref rp),v10,v11]∧ak H H'∧H' sp=some (.lst ((zs.take (zs.length - k)).map V.str))∧H' rp=some (.lst ((zs.drop (zs.length - k)).reverse.map V.str))∧H' dp=some (.lst ds)∧H' fp=some (.lst (fs.map V.str)):=⟨_,λ_ _ _=>abo⟩;refine fh (lo:=0) P2 ?_ ?_ ?_
   ·refine (eP2 _ _ _).mpr ⟨v10,rfl,S8,?_,?_,d8,f8⟩
    ·rw[acw,abx];exact z8
    ·rw[acw,ach];exact r8
   ·intro k σ H9 hk9 hh;obtain ⟨w10,hh⟩:=(eP2 _ _ _).mp hh;have s9:=hh.2.1;have z9:=hh.2.2.1;have r9:=hh.2.2.2.1;have d9:=hh.2.2.2.2.1;have f9:=hh.2.2.2.2.2;obtain rfl:=hh.1;clear hh;push_cast [and_true];obtain ⟨m,hm⟩:∃m,m+1=zs.length - k:=⟨zs.length - k - 1,by omega⟩;rw[←hm] at z9 r9;have ek:(λ_:Unit=>zs.length - (k+1))=λ_=>m:=by funext _;omega
    have hml:m < zs.length:=by omega
    have et:zs.take (m+1)=zs.take m++[zs[m]]:=by rw[abh,aa0 hml];rfl
    have ed9:zs.drop m=zs[m]::zs.drop (m+1):=aav hml;rw[et,aaa] at z9;refine ⟨av r9,Ac z9 (bb (K:=K) (by rw[af nrs];exact r9) (by rw[aa1,aci,aah];omega) ((eP2 _ _ _).mpr ⟨_,rfl,(s9.upd h1 _).upd frp _,by rw[show zs.length - (k+1)=m from congrFun ek (),af nrs.symm,ae],?_,by rw[af nrd.symm,af nsd.symm];exact d9,by rw[af nrf.symm,af nsf.symm];exact f9⟩)).2⟩;rw[show zs.length - (k+1)=m from congrFun ek (),ae,ed9,af3,aaa];rfl
   ·intro σ H9 hh;obtain ⟨w10,hh⟩:=(eP2 _ _ _).mp hh;have s9:=hh.2.1;have z9:=hh.2.2.1;have r9:=hh.2.2.2.1;have d9:=hh.2.2.2.2.1;have f9:=hh.2.2.2.2.2;obtain rfl:=hh.1;clear hh;obtain ⟨rd,hrd⟩:∃rd,rd=zs.drop (zs.length - arV v):=⟨_,rfl⟩;obtain ⟨zs0,hz0⟩:∃zs0,zs0=zs.take (zs.length - arV v):=⟨_,rfl⟩;rw[←hrd] at r9;rw[←hz0] at z9;have ezs:zs=zs0++rd:=by rw[hrd,hz0,aba]
    have rdl:rd.length=arV v:=by rw[hrd,aah];omega
    obtain ⟨dp1,dp2,dp3⟩:=di.put hk ok hv hin ezs rdl;push_cast [and_true];refine ⟨av f9,⟨_,SqL.of r9⟩,λD hD=>?_⟩;refine Qo (λi ys=>ys=((rd.reverse.take i).filter isT).map V.str) (SqL.of r9) (by rw[aa1,aci];omega) hD rfl (λi x ys H1 G' K' hx hP hl2 hS' hG hK'=>?_) λys H10 hP hl2 s10 hD2=>?_
    ·rw[aa7] at hx;obtain ⟨z,hz,rfl⟩:=Option.map_eq_some_iff.mp hx;have hzr:z∈rd:=List.mem_reverse.mp (aak hz);obtain ⟨zl1,zl2⟩:=di.zl z (by rw[ezs];exact ab8 _ hzr);obtain ⟨c,hc,hct⟩:=M8 zl1;have tk:rd.reverse.take (i+1)=rd.reverse.take i++[z]:=by rw[abh,hz];rfl
     push_cast [rIxS];refine ⟨by omega,c,hc,rfl,bu (λe=>hK' _ _ (ak.refl _) ?_) λe=>hG _ (ak.refl _) ?_⟩
     ·have e':isT z=true:=hct.mp (by rw[e]);rw[tk,abe,aaa,hP,aau,e'];rfl
     ·have e':isT z=false:=Bool.eq_false_iff.mpr λe2=>e (V.str.inj (hct.mpr e2));rw[tk,abe,aaa,hP,aau,e'];show _=_++[]
      rw[ab1]
    ·rw[aa1,abx] at hP;obtain ⟨gs,hgs⟩:∃gs,gs=rd.reverse.filter isT:=⟨_,rfl⟩;rw[←hgs] at hP;have gl:gs.length=tc rd:=by rw[hgs];unfold tc;rw[List.filter_reverse,aci]
     have gt:∀y∈gs,isT y=true∧1≤y.length∧y.length≤100:=λy hy=>by
      rw[hgs] at hy;obtain ⟨y1,y2⟩:=List.mem_filter.mp hy;exact ⟨y2,di.zl y (by rw[ezs];exact ab8 _ (List.mem_reverse.mp y1))⟩
     have tl:tc rd≤rd.length:=abf _ _;have fl3:fs.length≤3:=by have:=di.three;omega
     subst hP;refine ⟨fp,D,fs.map V.str,gs.map V.str,rfl,rfl,s10 _ _ f9,hD2,by rw[aa1,aa1];omega,?_⟩;have S11:=(s9.trans s10).upd ff (.lst (fs.map V.str++gs.map V.str));have z11:upd H10 fp (.lst (fs.map V.str++gs.map V.str)) sp=some (.lst (zs0.map V.str)):=by rw[af nsf];exact s10 _ _ z9
     have r11:upd H10 fp (.lst (fs.map V.str++gs.map V.str)) rp=some (.lst (rd.reverse.map V.str)):=by rw[af nrf];exact s10 _ _ r9
     have d11:upd H10 fp (.lst (fs.map V.str++gs.map V.str)) dp=some (.lst ds):=by rw[af ndf];exact s10 _ _ d9
     have f11:upd H10 fp (.lst (fs.map V.str++gs.map V.str)) fp=some (.lst ((fs++gs).map V.str)):=by rw[ae,aaa]
     generalize upd H10 fp (.lst (fs.map V.str++gs.map V.str))=H11 at S11 z11 r11 d11 f11 ⊢;have ft:∀y∈fs++gs,isT y=true∧1≤y.length∧y.length≤100:=λy hy=>by
      rcases List.mem_append.mp hy with g | g
      ·exact di.fl y g
      ·exact gt y g
     have fgl:(fs++gs).length=fs.length+tc rd:=by rw[aa2,gl]
     generalize fs++gs=fg at f11 ft fgl;refine fb (λσ' H12=>∃(box:Str) (fs2:List Str),σ'=[some (.ref kt),some (.ref st),some (.ref sp),some (.ref dp),some (.ref fp),some (.int (0+(j:Int))),some (.int (p:Int)),some v,some (.str tx),some (.ref rp),w10,some (.str box)]∧ak H H12∧H12 sp=some (.lst (zs0.map V.str))∧H12 rp=some (.lst (rd.reverse.map V.str))∧H12 dp=some (.lst ds)∧H12 fp=some (.lst (fs2.map V.str))∧DI kinds sh p (zs0++[box]) fs2) ?_ ?_
     ·push_cast [and_true];refine bu (λp0=>?_) λp0=>⟨S11,z11,r11,d11,fg,f11,dp2 _ fg fgl Nd (by decide+kernel) (by decide+kernel) ft⟩;have ne:fg≠[]:=by
       intro e;rw[e] at fgl;have:=dp3 (by omega);simp at fgl;omega
      have ec:fg.dropLast++[fg.getLast ne]=fg:=List.dropLast_concat_getLast ne;rw[←ec,aaa] at f11;have hb:=ft _ (List.getLast_mem ne);have el:fg.dropLast.length+1=fg.length:=by rw[aej];have:=List.length_pos_iff.mpr ne;omega
      refine Ac f11 ⟨_,rfl,S11.upd ff _,by rw[af nsf];exact z11,by rw[af nrf];exact r11,by rw[af ndf];exact d11,fg.dropLast,ae,?_⟩;exact dp1 _ _ (by omega) hb.1 hb.2.1 hb.2.2 λy hy=>ft y ((List.dropLast_sublist fg).subset hy)
     rintro _ H12 ⟨box,fs2,rfl,s12,z12,r12,d12,f12,di12⟩;have hbl:=di12.zl box (ab8 _ aan);refine fb (λσ' H13=>∃ds2:List V,σ'=[some (.ref kt),some (.ref st),some (.ref sp),some (.ref dp),some (.ref fp),some (.int (0+(j:Int))),some (.int (p:Int)),some v,some (.str tx),some (.ref rp),w10,some (.str box)]∧ak H H13∧H13 sp=some (.lst (zs0.map V.str))∧H13 dp=some (.lst ds2)∧H13 fp=some (.lst (fs2.map V.str))∧ds2.length≤j+1) ?_ ?_
     ·push_cast [and_true];have nl1:(Str.ofString "n").length=1:=by decide+kernel
      have vl1:(Str.ofString "v").length=1:=by decide+kernel
      have app:∀(y:V) (H':Hp),ak H12 H'→qa (.ref dp) [y] H' λ_ H1=>ak H H1∧H1 sp=some (.lst (zs0.map V.str))∧∃x:List V,H1 dp=some (.lst x)∧H1 fp=some (.lst (fs2.map V.str))∧x.length≤j+1:=λy H' s'=>
       (bb (K:=K) (s' _ _ d12) (by omega) ⟨(s12.trans s').upd fd _,by rw[af nsd];exact s' _ _ z12,ds++[y],ae,by rw[af ndf.symm];exact s' _ _ f12,by rw[aa2,aa9];omega⟩).2
      refine ⟨hvw.sc _,bu (λ_=>⟨av d12,by omega,by show (3:Nat)≤sizeLine;decide,λp3 hp3=>app _ _ (aa hp3 _)⟩) λ_=>⟨hvw.sc _,bu (λ_=>⟨av d12,by omega,by show (3:Nat)≤sizeLine;decide,λp3 hp3=>app _ _ (aa hp3 _)⟩) λ_=>?_⟩⟩;obtain ⟨k',rfl⟩:=hvw;cases k' with
      | inl i0=>exact ⟨_,.int i0,true,rfl,iteT ⟨av d12,by show (3:Nat)≤sizeLine;decide,λp3 hp3=>app _ _ (aa hp3 _)⟩⟩
      | inr z0=>exact ⟨_,.str z0,false,rfl,iteF ⟨av d12,by show (2:Nat)≤sizeLine;decide,λp3 hp3=>⟨_,.inl ⟨SqL.of (aa hp3 _ _ _ r12),λl hl=>oq (aa hl _ _ _ ae) ae (by rw[aa1,aci];show 2+rd.length≤_;omega) λb H14 s14 h14=>app _ _ ((aa hp3 _).trans ((aa hl _).trans s14))⟩⟩⟩⟩
     ·rintro _ H13 ⟨ds2,rfl,s13,z13,d13,f13,hd13⟩;push_cast [and_true];have z0l:zs0.length≤zs.length:=by rw[hz0,aaw];omega
      exact bb z13 (by rw[aa1];omega) ((eP1 _ _ _).mpr ⟨zs0++[box],fs2,ds2,_,_,_,_,_,_,_,rfl,s13.upd h1 _,by rw[ae,aaa];rfl,by rw[af nsd.symm];exact d13,by rw[af nsf.symm];exact f13,hd13,by rw[show sh.length - (j+1)=p from congrFun ej ()];exact di12⟩)
 ·intro σ H5 hh;refine ob10 ((eP1 _ _ _).mp hh) λzs fs ds v5 v6 v7 v8 v9 v10 v11 hh=>?_;have s5:=hh.2.1;have z5:=hh.2.2.1;have d5:=hh.2.2.2.1;have f5:=hh.2.2.2.2.1;have hdl:=hh.2.2.2.2.2.1;have di:=hh.2.2.2.2.2.2;obtain rfl:=hh.1;clear hh;push_cast [and_true];refine ⟨ds,.inl (SqL.of d5),rfl,bu (λ_=>⟨by show (3:Nat)≤sizeLine;decide,λp1 hp1=>⟨by show (4:Nat)≤sizeLine;decide,λp2 hp2=>⟨by show (2:Nat)≤sizeLine;decide,λp3 hp3=>?_⟩⟩⟩) λ_=>⟨ds,.inl ⟨SqL.of d5,λl hl=>q l _ _ (s5.trans (aa hl _)) ae⟩⟩⟩;exact q p3 _ _ (((s5.trans (aa hp1 _)).trans (aa hp2 _)).trans (aa hp3 _)) ae
noncomputable abbrev wg:Stmt:=top 22
theorem Lu:az ["deck","names","cell","many","drawn","kinds","first","shapes","k","one","shape","rules","kind","price","at"] ["deck","names"] (ah wg):=⟨rfl,rfl,rfl,by decide+kernel,rfl,by decide+kernel,by decide+kernel⟩
theorem Px (G:Gs w K mg) (h_law_deeds:Has P w K mg base k "_law_deeds" ["kinds","shape"] (tj K)) (h_law_next:Has P w K mg base k "_law_next" ["deck"] gn) (h_law_shape:Has P w K mg base k "_law_shape" ["deck","kinds"] tf) (D:Def K mg "_law_book" wg ["deck","names"]):Has P w K mg base (k+1) "_law_book" ["deck","names"] y4:=by
 refine D.has Lu (λvs H Q E h=>?_) (λf cdv A outer s H vs Q E hr h=>?_)
 ·obtain ⟨_,_,_,_,_,_,rfl,_,_,_,_⟩:=h;rfl
 have nd:=Lu.nd;have hu:=b9 hr;have hu0:=aai hu;obtain ⟨d,nl,b,ns,zs,n,rfl,hD,hN,hn,q⟩:=h;have m_len:=G.m_len;have m_range:=G.m_range;have m_tuple:=G.m_tuple;refine ⟨_,(A5 (C0 2 nd (AG h_law_next hr (A1 (A0 0) (A3 0)))) (A5 (A7 3 nd (A4 (AK 0) (A2 0) (A4 (A9 0) (AO 2) (A2 0)))) (A5 (A7 4 nd (A4 (AK 0) (A2 0) (A4 (A9 0) (A4 (AQ 0) (AO 2) (A2 0)) (A2 0)))) (BI (AE (AB (AR 0) (A4 (A9 0) (A4 (AQ 0) (AO 2) (A2 0)) (A2 0)) (A2 0) (AA 0)) (A5 (A7 3 nd (A4 (AK 0) (A2 0) (A4 (A9 0) (A4 (AQ 0) (AO 2) (A2 0)) (A2 0)))) (A6 (A7 4 nd (A2 0)))) (AT 0)) (A5 (A7 5 nd (AZ (BJ 0) m_tuple fc (A1 (B6 (BN 0) (A0 1) (B7 0) (B9 (A0 3))) (A3 0)))) (A5 (A7 6 nd (A8 (AF 0) (A0 5) (A2 0))) (BI (C0 7 nd (AC (A1 (AI (A1 (A0 6) (A1 (AI (A1 (AL 0) (A3 0))) (A3 0)))) (A1 (AI (A1 (A0 6) (A1 (AI (A1 (AL 0) (A3 0))) (A3 0)))) (A1 (AI (A1 (A0 6) (A1 (AI (A1 (AL 0) (A1 (A0 6) (A1 (A0 6) (A3 0))))) (A3 0)))) (A1 (AI (A1 (A0 6) (A1 (AI (A1 (AL 0) (A1 (A0 6) (A3 0)))) (A3 0)))) (A3 0))))))) (A5 (C0 7 nd (BU (BL ["k"] ["cell","shapes"] [2,7] (aas rfl (aas rfl trivial)) (aas (aas rfl (aas rfl rfl)) (aas (aas rfl (aas rfl rfl)) trivial))) (BP m_range (A1 (A2 0) (A3 0))) (λ_ _ _=>(BE 0 (show ac2 (["k","cell","shapes"]:List Str) by decide+kernel))) (λ_ _ _=>(@pif1 _ _ _ (AB (@Cs _) (A4 (A9 0) (A4 (AQ 0) (A4 (AQ 0) (AO 1) (A2 0)) (A8 (@Au _ K rfl) (AC (BF (BV (BV (BV (BV (BG 0))))))) (A0 0))) (A2 0)) (A2 0) (AA 0)))) (λ_ _ _=>(A8 (@Au _ K rfl) (AO 2) (A0 0))))) (A5 (AY (BP m_range (A1 (A0 4) (A3 0))) (AJ 8 nd (by first | exact ab5 rfl | exact ab7 rfl)) (A5 (A7 9 nd (AG h_law_next hr (A1 (A0 0) (A3 0)))) (A5 (A7 10 nd (AG h_law_shape hr (A1 (A0 0) (A1 (A0 5) (A3 0))))) (BI (AE (AB (AR 0) (A4 (A9 0) (A0 9) (A2 0)) (A2 0) (AA 0)) (A6 (A7 10 nd (AI (A1 (A8 (AF 0) (A0 5) (A4 (A9 0) (A4 (AQ 0) (A0 9) (A2 0)) (AN (AX 0) m_len cw (A1 (A0 5) (A3 0))))) (A3 0))))) (AT 0)) (A6 (AS (AU PySem.F.plainAttrs_list PySem.F.slot_list_append PySem.F.type_list_append (AV 0) (AO 7) (A1 (AI (A1 (A8 (AF 0) (A0 5) (A4 (A9 0) (A4 (AQ 0) (A0 9) (A2 0)) (AN (AX 0) m_len cw (A1 (A0 5) (A3 0))))) (A1 (A0 10) (A3 0)))) (A3 0))))))))) (A5 (A7 11 nd (AC (A3 0))) (A5 (AY (BD (AO 7)) (BS (AW (AJ 12 nd (by first | exact ab5 rfl | exact ab7 rfl)) (AW (AJ 10 nd (by first | exact ab5 rfl | exact ab7 rfl)) (BO 0)))) (A5 (A7 9 nd (AG h_law_next hr (A1 (A0 0) (A3 0)))) (A5 (A7 13 nd (A8 (AM 0) (AC (A1 (A4 (AK 0) (A2 0) (A4 (A9 0) (A4 (AQ 0) (A0 9) (A2 0)) (A2 0))) (A1 (A4 (AK 0) (A2 0) (A4 (A9 0) (A4 (AQ 0) (A0 9) (A2 0)) (A2 0))) (A1 (A4 (AK 0) (A2 0) (A4 (A9 0) (A4 (AQ 0) (A0 9) (A2 0)) (A2 0))) (A3 0))))) (A4 (A9 0) (A0 9) (A2 0)))) (A6 (AS (AU PySem.F.plainAttrs_list PySem.F.slot_list_append PySem.F.type_list_append (AV 0) (A0 11) (A1 (AI (A1 (A8 (AM 0) (A0 1) (A4 (AK 0) (A2 0) (AN (AX 0) m_len cw (A1 (A0 11) (A3 0))))) (A1 (A0 12) (A1 (A0 13) (A1 (A0 10) (A1 (AG h_law_deeds hr (A1 (A0 5) (A1 (A0 10) (A3 0)))) (A3 0))))))) (A3 0)))))))) (A5 (A7 14 nd (A4 (A9 0) (A4 (AQ 0) (AO 2) (A2 0)) (AN (AX 0) m_len cw (A1 (A0 11) (A3 0))))) (A6 (AD (AI (A1 (A0 5) (A1 (AZ (BJ 0) m_tuple fc (A1 (A4 (@mz _) (B6 (BN 0) (A0 11) (B9 (A0 14)) (B7 0)) (B6 (BN 0) (A0 11) (B7 0) (B9 (A0 14)))) (A3 0))) (A3 0)))))))))))))))))),?_⟩;rw[show start ["deck","names","cell","many","drawn","kinds","first","shapes","k","one","shape","rules","kind","price","at"] [.ref d,.ref nl]=[some (.ref d),some (.ref nl),none,none,none,none,none,none,none,none,none,none,none,none,none] from rfl];clear hu hu0 nd hr;push_cast [and_true];have sz:=sizeLine_eq;refine nh hD (by omega) λc H1 s1 d1=>?_;push_cast [and_true];have D1:=hD.next s1 d1
 have N1:=hN.b8 hD s1;refine fb (λσ' H2=>∃many drawn:Nat,σ'=[some (.ref d),some (.ref nl),some (.int c),some (.int (many:Int)),some (.int (drawn:Int)),none,none,none,none,none,none,none,none,none,none]∧H1=H2∧1≤many∧many≤8∧3≤drawn∧drawn≤36) ?_ ?_
 ·push_cast [and_true];refine ⟨rfl,bu (λe=>⟨(1+c / 448 % 8).toNat,by omega,36,by rfl,by omega,by omega,by decide,by decide⟩) λe=>⟨(1+c % 3).toNat,by omega,(3+c / 7 % 8).toNat,by omega,by omega,by omega,by omega,by omega⟩⟩
 rintro _ _ ⟨many,drawn,rfl,rfl,m1,m2,r1,r2⟩;push_cast [and_true];have ct:cn (zs.map V.str) none (some (many:Int))=(zs.take many).map V.str:=by rw[kh _ many (by rw[aa1,hN.2.1];omega),aeo]
 refine ⟨zs.map V.str,SqL.of N1.1,λp1 hp1=>?_⟩;rw[ct];refine ⟨_,.inl ⟨SqL.of ae,λkt hkt=>?_⟩⟩;obtain ⟨kinds,hkd⟩:∃kinds,kinds=zs.take many:=⟨_,rfl⟩;rw[←hkd];have kl:kinds.length=many:=by rw[hkd,aaw,hN.2.1];omega
 have hk:Kinds kinds:=λz hz=>hN.2.2.2 z (abk (by rw[←hkd];exact hz));have q2:=(aa hp1 (.lst (kinds.map V.str))).trans (aa (by rw[←hkd] at hkt;exact hkt) (.tup (kinds.map V.str)));rw[←hkd] at hkt;have S2:aq d H (upd (upd H1 p1 (.lst (kinds.map V.str))) kt (.tup (kinds.map V.str))):=s1.trans (aq.of q2);have d2:=q2 _ _ d1;have k2:upd (upd H1 p1 (.lst (kinds.map V.str))) kt (.tup (kinds.map V.str)) kt=some (.tup (kinds.map V.str)):=ae;have N2:=N1.same q2;generalize upd (upd H1 p1 (.lst (kinds.map V.str))) kt (.tup (kinds.map V.str))=H2 at S2 d2 k2 N2 q2 ⊢;obtain ⟨z0,hz0,hk0⟩:∃z,atI (kinds.map V.str) 0=some (.str z)∧z∈kinds:=by
  cases kinds with
  | nil=>simp at kl;omega
  | cons z r=>exact ⟨z,bo (j:=0) rfl,aan⟩
 refine au k2 hz0 ?_;refine fb (λσ' I9=>∃sl b1 b2 b3 b4:Addr,σ'=[some (.ref d),some (.ref nl),some (.int c),some (.int (many:Int)),some (.int (drawn:Int)),some (.ref kt),some (.str z0),some (.ref sl),none,none,none,none,none,none,none]∧ak H2 I9∧I9 sl=some (.lst [V.ref b1,V.ref b2,V.ref b3,V.ref b4])∧∀k':Nat,k' < 4→∃(a s:Addr) (sh:List V),atI [V.ref b1,V.ref b2,V.ref b3,V.ref b4] (k':Int)=some (.ref a)∧I9 a=some (.tup [.str z0,.ref s])∧I9 s=some (.tup sh)∧jy kinds sh) ?_ λσ' I9 hh=>?_
 ·push_cast [and_true];refine ⟨by show (1:Nat)≤sizeLine;decide,λa1 ha1=>?_⟩;have sa1:=aa ha1 (.tup [V.str (Str.ofString "any")]);have ea1:upd H2 a1 (.tup [V.str (Str.ofString "any")]) a1=some (.tup [V.str (Str.ofString "any")]):=ae;generalize upd H2 a1 (.tup [V.str (Str.ofString "any")])=I1 at sa1 ea1 ⊢;refine ⟨by show (2:Nat)≤sizeLine;decide,λb1 hb1=>?_⟩;have sb1:=aa hb1 (.tup [V.str z0,V.ref a1]);have eb1:upd I1 b1 (.tup [V.str z0,V.ref a1]) b1=some (.tup [V.str z0,V.ref a1]):=ae;generalize upd I1 b1 (.tup [V.str z0,V.ref a1])=I2 at sb1 eb1 ⊢;refine ⟨by show (1:Nat)≤sizeLine;decide,λa2 ha2=>?_⟩;have sa2:=aa ha2 (.tup [V.str (Str.ofString "var")]);have ea2:upd I2 a2 (.tup [V.str (Str.ofString "var")]) a2=some (.tup [V.str (Str.ofString "var")]):=ae;generalize upd I2 a2 (.tup [V.str (Str.ofString "var")])=I3 at sa2 ea2 ⊢;refine ⟨by show (2:Nat)≤sizeLine;decide,λb2 hb2=>?_⟩;have sb2:=aa hb2 (.tup [V.str z0,V.ref a2]);have eb2:upd I3 b2 (.tup [V.str z0,V.ref a2]) b2=some (.tup [V.str z0,V.ref a2]):=ae;generalize upd I3 b2 (.tup [V.str z0,V.ref a2])=I4 at sb2 eb2 ⊢;refine ⟨by show (3:Nat)≤sizeLine;decide,λa3 ha3=>?_⟩;have sa3:=aa ha3 (.tup [V.str (Str.ofString "add"),V.str z0,V.str z0]);have ea3:upd I4 a3 (.tup [V.str (Str.ofString "add"),V.str z0,V.str z0]) a3=some (.tup [V.str (Str.ofString "add"),V.str z0,V.str z0]):=ae;generalize upd I4 a3 (.tup [V.str (Str.ofString "add"),V.str z0,V.str z0])=I5 at sa3 ea3 ⊢;refine ⟨by show (2:Nat)≤sizeLine;decide,λb3 hb3=>?_⟩;have sb3:=aa hb3 (.tup [V.str z0,V.ref a3]);have eb3:upd I5 b3 (.tup [V.str z0,V.ref a3]) b3=some (.tup [V.str z0,V.ref a3]):=ae;generalize upd I5 b3 (.tup [V.str z0,V.ref a3])=I6 at sb3 eb3 ⊢;refine ⟨by show (2:Nat)≤sizeLine;decide,λa4 ha4=>?_⟩;have sa4:=aa ha4 (.tup [V.str (Str.ofString "neg"),V.str z0]);have ea4:upd I6 a4 (.tup [V.str (Str.ofString "neg"),V.str z0]) a4=some (.tup [V.str (Str.ofString "neg"),V.str z0]):=ae;generalize upd I6 a4 (.tup [V.str (Str.ofString "neg"),V.str z0])=I7 at sa4 ea4 ⊢;refine ⟨by show (2:Nat)≤sizeLine;decide,λb4 hb4=>?_⟩;have sb4:=aa hb4 (.tup [V.str z0,V.ref a4]);have eb4:upd I7 b4 (.tup [V.str z0,V.ref a4]) b4=some (.tup [V.str z0,V.ref a4]):=ae;generalize upd I7 b4 (.tup [V.str z0,V.ref a4])=I8 at sb4 eb4 ⊢;refine ⟨by show (4:Nat)≤sizeLine;decide,λsl hsl=>?_⟩;have ssl:=aa hsl (.lst [V.ref b1,V.ref b2,V.ref b3,V.ref b4]);have esl:upd I8 sl (.lst [V.ref b1,V.ref b2,V.ref b3,V.ref b4]) sl=some (.lst [V.ref b1,V.ref b2,V.ref b3,V.ref b4]):=ae;generalize upd I8 sl (.lst [V.ref b1,V.ref b2,V.ref b3,V.ref b4])=I9 at ssl esl ⊢;have u8:=sb4.trans ssl;have u7:=sa4.trans u8;have u6:=sb3.trans u7;have u5:=sa3.trans u6;have u4:=sb2.trans u5;have u3:=sa2.trans u4;have u2:=sb1.trans u3;have u1:=sa1.trans u2;have sh4:∀k':Nat,k' < 4→∃(a s:Addr) (sh:List V),atI [V.ref b1,V.ref b2,V.ref b3,V.ref b4] (k':Int)=some (.ref a)∧I9 a=some (.tup [.str z0,.ref s])∧I9 s=some (.tup sh)∧jy kinds sh:=λk' hk'=>by
   rcases k' with _ | _ | _ | _ | k'
   ·exact ⟨b1,a1,_,bo rfl,u3 _ _ eb1,u2 _ _ ea1,Ly kinds⟩
   ·exact ⟨b2,a2,_,bo rfl,u5 _ _ eb2,u4 _ _ ea2,J1 kinds⟩
   ·exact ⟨b3,a3,_,bo rfl,u7 _ _ eb3,u6 _ _ ea3,Mz hk hk0⟩
   ·exact ⟨b4,a4,_,bo rfl,ssl _ _ eb4,u8 _ _ ea4,Lm hk hk0⟩
   ·omega
  exact ⟨u1,b1,b2,b3,b4,esl,λk' hk'=>by obtain ⟨a,s,sh,h1,h2,h3,h4⟩:=sh4 k' hk';exact ⟨a,h1,s,h2,sh,h3,h4⟩⟩
 refine ob5 (hh) λsl b1 b2 b3 b4 hh=>?_;have u1:=hh.2.1;have esl:=hh.2.2.1;have sh4:=hh.2.2.2;obtain rfl:=hh.1;clear hh;have S9:aq d H I9:=S2.trans (aq.of u1);have d9:=u1 _ _ d2;have k9:=u1 _ _ k2;have N9:=N2.same u1;clear u1 q2 hkt N2 d2 k2 S2;push_cast [and_true];intro D hD';refine Jm (n:=4) (λj ys=>∃(sa:List Addr) (ps:List (Str×List V)),ys=sa.map V.ref∧gf I9 sa kinds ps∧ps.length≤j) (by omega) hD' ⟨[],[],rfl,gf.nil _ _,aa6 _⟩ (λj ys H3 G' K' hj hP hl2 hS' hG hK'=>?_) λys H3 hP hl2 hS' hD2=>?_
 ·obtain ⟨sa,ps,rfl,hsh,hpl⟩:=hP;obtain ⟨a,s,sh,g1,g2,g3,g4⟩:=sh4 j hj;obtain ⟨y,hy,hym⟩:=b7 [V.int 1,V.int 3,V.int 9,V.int 27] (0+(j:Int)) (by omega) (by show 0+(j:Int) < 4;omega);obtain ⟨y',rfl,hy0,hy1⟩:∃y':Int,y=.int y'∧0 < y'∧y' < 1073741824:=by
   simp only[aaq,aad,or_false] at hym;rcases hym with rfl | rfl | rfl | rfl <;> exact ⟨_,rfl,by decide,by decide⟩
  push_cast [pj];refine ⟨by show (4:Nat)≤sizeLine;decide,λp4 hp4=>ao ae hy ⟨hy0,hy1,rfl,bu (λe=>?_) λe=>hG _ (aa hp4 _) ⟨sa,ps,rfl,hsh,by omega⟩⟩⟩;refine ao (aa hp4 _ _ _ (hS' _ _ esl)) (by rw[show (0+(j:Int))=((j:Nat):Int) by omega];exact g1) (hK' _ _ (aa hp4 _) ⟨sa++[a],ps++[(z0,sh)],by rw[aaa];rfl,hsh.snoc ⟨g4,hk0⟩ g2 g3,by rw[aa2,aa9];omega⟩)
 ·obtain ⟨sa,ps,rfl,hsh,hpl⟩:=hP;have S10:=S9.trans (aq.of hS');have d10:=hS' _ _ d9;have k10:=hS' _ _ k9;have N10:=N9.same hS';have hsh10:=hsh.same hS';have fD:=S9.free d9 hD';have nDd:D≠d:=(ag d9 hD').symm;have nt:∀{a:Addr} {xs:List V} {H':Hp} {n':Nat},H' d=some (.lst [.ref b,.int (n':Int)])→H' a=some (.tup xs)→a≠d:=λh1 h2=>df h2 h1 (by intro e;cases e);refine ⟨by omega,by omega,?_⟩;rw[show ((drawn:Nat):Int).toNat=drawn by omega];obtain ⟨P1,eP1⟩:∃P1:Nat→L2.St→Hp→Prop,∀j σ H',P1 j σ H'↔∃(sa:List Addr) (ps:List (Str×List V)) (n':Nat) (v8 v9 v10:Option V),σ=[some (.ref d),some (.ref nl),some (.int c),some (.int (many:Int)),some (.int (drawn:Int)),some (.ref kt),some (.str z0),some (.ref D),v8,v9,v10,none,none,none,none]∧aq d H H'∧H' d=some (.lst [.ref b,.int (n':Int)])∧n'≤n+1+13*j∧H' D=some (.lst (sa.map V.ref))∧H' kt=some (.tup (kinds.map V.str))∧cg H' nl zs∧gf H' sa kinds ps∧ps.length≤4+j∧j≤ps.length:=⟨_,λ_ _ _=>abo⟩;refine fh (lo:=0) P1 ((eP1 _ _ _).mpr ⟨sa,ps,n+1,none,none,none,rfl,S10,d10,by omega,hD2,k10,N10,hsh10,by omega,aa8 _⟩) ?_ ?_
  ·intro j σ H5 hj hh;refine ob6 ((eP1 _ _ _).mp hh) λsa ps n' v8 v9 v10 hh=>?_;have s5:=hh.2.1;have d5:=hh.2.2.1;have hn5:=hh.2.2.2.1;have D5:=hh.2.2.2.2.1;have k5:=hh.2.2.2.2.2.1;have N5:=hh.2.2.2.2.2.2.1;have sh5:=hh.2.2.2.2.2.2.2.1;have pl5:=hh.2.2.2.2.2.2.2.2.1;have pj5:=hh.2.2.2.2.2.2.2.2.2;obtain rfl:=hh.1;clear hh;push_cast [and_true];refine nh (hD.next s5 d5) (by omega) λone H6 s6 d6=>?_;have S6:=s5.trans s6;have D6:=s6 D _ nDd D5;have k6:=s6 kt _ (nt d5 k5) k5;have N6:=N5.b8 (hD.next s5 d5) s6;have sh6:=sh5.b8 (hD.next s5 d5) s6;refine Pn (hD.next S6 d6) k6 hk (by omega) (by omega) (by omega) λt n2 H7 sh s7 d7 hn7 ht h7 ok7=>?_;push_cast [and_true];have Dk6:=hD.next S6 d6
   have S7:=S6.trans s7;have D7:=s7 D _ nDd D6;have k7:=s7 kt _ (nt d6 k6) k6;have N7:=N6.b8 Dk6 s7;have sh7:=sh6.b8 Dk6 s7;have kat:∀i:Int,∃z,atI (kinds.map V.str) (i % (((kinds.map V.str).length:Nat):Int))=some (.str z)∧z∈kinds:=λi=>by
    obtain ⟨y,hy,hym⟩:=b7 (kinds.map V.str) (i % (((kinds.map V.str).length:Nat):Int)) (aar _ (by rw[aa1];omega)) (abm _ (by rw[aa1];omega));obtain ⟨z,hz,rfl⟩:=List.mem_map.mp hym;exact ⟨z,hy,hz⟩
   refine fb (λσ' H8=>∃(t':Addr) (sh':List V),σ'=[some (.ref d),some (.ref nl),some (.int c),some (.int (many:Int)),some (.int (drawn:Int)),some (.ref kt),some (.str z0),some (.ref D),some (.int (0+(j:Int))),some (.int one),some (.ref t'),none,none,none,none]∧ak H7 H8∧H8 t'=some (.tup sh')∧jy kinds sh') ?_ ?_
   ·push_cast [pj];refine ⟨rfl,bu (λe=>⟨_,.inr (SqT.of k7),by rw[aa1];omega,?_⟩) λe=>⟨ak.refl _,_,h7,ok7⟩⟩;obtain ⟨z,hz,hzk⟩:=kat (one / 5);exact au k7 hz ⟨by show (1:Nat)≤sizeLine;decide,λt' ht'=>⟨aa ht' _,_,ae,G8 hk hzk⟩⟩
   rintro _ H8 ⟨t',sh',rfl,s8,h8,ok8⟩;push_cast [pj];obtain ⟨z,hz,hzk⟩:=kat (one / 15);refine ⟨av (s8 _ _ D7),_,.inr (SqT.of (s8 _ _ k7)),by rw[aa1];omega,au (s8 _ _ k7) hz ⟨by show (2:Nat)≤sizeLine;decide,λpr hpr=>?_⟩⟩;have s9:=s8.trans (aa hpr (.tup [V.str z,V.ref t']));have S9':=S7.trans (aq.of s9);have e9:upd H8 pr (.tup [V.str z,V.ref t']) pr=some (.tup [V.str z,V.ref t']):=ae;have h9:=aa hpr (.tup [V.str z,V.ref t']) _ _ h8;generalize upd H8 pr (.tup [V.str z,V.ref t'])=H9 at s9 S9' e9 h9 ⊢;have sal:sa.length=ps.length:=sh5.1;have uD:ak H9 (upd H9 D (.lst (sa.map V.ref++[V.ref pr])))∨True:=.inr trivial;have tD:∀{a:Addr} {xs:List V},H9 a=some (.tup xs)→upd H9 D (.lst (sa.map V.ref++[V.ref pr])) a=some (.tup xs):=λh=>by rw[af (df h (s9 _ _ D7) (by intro e;cases e))];exact h
   have sh9:=(sh7.same s9).snoc ⟨ok8,hzk⟩ e9 h9;refine (bb (K:=K) (s9 _ _ D7) (by rw[aa1];omega) ((eP1 _ _ _).mpr ⟨sa++[pr],ps++[(z,sh')],n2,_,_,_,rfl,S9'.upd fD _,by rw[af nDd.symm];exact s9 _ _ d7,by omega,by rw[ae,aaa];rfl,tD (s9 _ _ k7),⟨?_,N7.2⟩,⟨sh9.1,λi k' s' hi=>?_⟩,by rw[aa2,aa9];omega,by rw[aa2,aa9];omega⟩)).2
   ·rw[af (ag hN.1 fD)];exact s9 _ _ N7.1
   ·obtain ⟨o1,a,t,x1,x2,x3⟩:=sh9.2 i k' s' hi;exact ⟨o1,a,t,x1,tD x2,tD x3⟩
  ·intro σ H5 hh;refine ob6 ((eP1 _ _ _).mp hh) λsa ps n' v8 v9 v10 hh=>?_;have s5:=hh.2.1;have d5:=hh.2.2.1;have hn5:=hh.2.2.2.1;have D5:=hh.2.2.2.2.1;have k5:=hh.2.2.2.2.2.1;have N5:=hh.2.2.2.2.2.2.1;have sh5:=hh.2.2.2.2.2.2.2.1;have pl5:=hh.2.2.2.2.2.2.2.2.1;have pj5:=hh.2.2.2.2.2.2.2.2.2;obtain rfl:=hh.1;clear hh;push_cast [and_true];refine ⟨aa8 _,λrl hrl=>⟨⟨_,SqL.of (aa hrl _ _ _ D5)⟩,?_⟩⟩;have frl:=s5.free d5 hrl;have nrd:rl≠d:=(ag d5 hrl).symm;have S6:=s5.trans (aq.of (aa hrl (.lst [])));have d6:=aa hrl (.lst []) _ _ d5;have D6:=aa hrl (.lst []) _ _ D5;have k6:=aa hrl (.lst []) _ _ k5;have N6:=N5.same (aa hrl (.lst []));have sh6:=sh5.same (aa hrl (.lst []));have r6:upd H5 rl (.lst []) rl=some (.lst []):=ae;have nrD:rl≠D:=(ag D5 hrl).symm;generalize upd H5 rl (.lst [])=H6 at S6 d6 D6 k6 N6 sh6 r6 ⊢;have sal:sa.length=ps.length:=sh5.1;obtain ⟨P2,eP2⟩:∃P2:Nat→L2.St→Hp→Prop,∀i σ H',P2 i σ H'↔∃(ra:List Addr) (rs:List Rl) (m:Nat) (w8 w9 w10 w12 w13:Option V),σ=[some (.ref d),some (.ref nl),some (.int c),some (.int (many:Int)),some (.int (drawn:Int)),some (.ref kt),some (.str z0),some (.ref D),w8,w9,w10,some (.ref rl),w12,w13,none]∧aq d H H'∧H' d=some (.lst [.ref b,.int (m:Int)])∧m≤n'+i∧H' D=some (.lst (sa.map V.ref))∧H' kt=some (.tup (kinds.map V.str))∧cg H' nl zs∧gf H' sa kinds ps∧H' rl=some (.lst (ra.map V.ref))∧dk H' ra rs∧rs.length=i∧rs.map (·.name)=(zs.drop 8).take i∧∀r∈rs,jy kinds r.shape∧1≤r.price∧r.kind∈kinds:=⟨_,λ_ _ _=>abo⟩;refine dg (xs:=sa.map V.ref) P2 ((eP2 _ _ _).mpr ⟨[],[],n',v8,v9,v10,none,none,rfl,S6,d6,by omega,D6,k6,N6,sh6,r6,⟨rfl,λi r h=>by simp at h⟩,rfl,rfl,λ_ h=>nomatch h⟩) (λi σ H' _ h=>by obtain ⟨_,_,_,_,_,_,_,_,_,_,_,_,hd,_⟩:=(eP2 _ _ _).mp h;exact SqL.of hd) ?_ ?_
   ·intro i y σ H7 hy hh;refine ob8 ((eP2 _ _ _).mp hh) λra rs m w8 w9 w10 w12 w13 hh=>?_;have s7:=hh.2.1;have d7:=hh.2.2.1;have hm7:=hh.2.2.2.1;have D7:=hh.2.2.2.2.1;have k7:=hh.2.2.2.2.2.1;have N7:=hh.2.2.2.2.2.2.1;have sh7:=hh.2.2.2.2.2.2.2.1;have r7:=hh.2.2.2.2.2.2.2.2.1;have R7:=hh.2.2.2.2.2.2.2.2.2.1;have rl7:=hh.2.2.2.2.2.2.2.2.2.2.1;have nm7:=hh.2.2.2.2.2.2.2.2.2.2.2.1;have so7:=hh.2.2.2.2.2.2.2.2.2.2.2.2;obtain rfl:=hh.1;clear hh;rw[aa7] at hy;obtain ⟨ai,hai,rfl⟩:=Option.map_eq_some_iff.mp hy;have hil:i < ps.length:=by rw[←sal];exact (List.getElem?_eq_some_iff.mp hai).1
    obtain ⟨⟨ki,shi⟩,hpi⟩:∃t,ps[i]?=some t:=⟨_,aa0 hil⟩;obtain ⟨oki,a',si,x1,x2,x3⟩:=sh7.2 i ki shi hpi;obtain rfl:a'=ai:=aa3 (x1.symm.trans hai);have hD7:=hD.next s7 d7
    refine Bn x2 rfl ?_;push_cast [and_true];refine nh hD7 (by omega) λone H8 s8 d8=>?_;push_cast [pj];refine ⟨by show (3:Nat)≤sizeLine;decide,λp hp=>?_⟩;obtain ⟨y,hy,hym⟩:=b7 [V.int (1+one / 3 % 4),V.int (1+one / 3 % 30),V.int (1+one / 3 % 999999)] (one % 3) (aar _ (by decide)) (abm _ (by decide));obtain ⟨y',rfl,hy1⟩:∃y':Int,y=.int y'∧1≤y':=by
     simp only[aaq,aad,or_false] at hym;rcases hym with rfl | rfl | rfl <;> exact ⟨_,rfl,by omega⟩
    refine ao ae hy ?_;have S8:=s7.trans (s8.trans (aq.of (aa hp (.lst [V.int (1+one / 3 % 4),V.int (1+one / 3 % 30),V.int (1+one / 3 % 999999)]))));have s8':=s8.trans (aq.of (d:=d) (aa hp (.lst [V.int (1+one / 3 % 4),V.int (1+one / 3 % 30),V.int (1+one / 3 % 999999)])));have d8':=aa hp (.lst [V.int (1+one / 3 % 4),V.int (1+one / 3 % 30),V.int (1+one / 3 % 999999)]) _ _ d8;generalize upd H8 p (.lst [V.int (1+one / 3 % 4),V.int (1+one / 3 % 30),V.int (1+one / 3 % 999999)])=H9 at S8 s8' d8' ⊢;have r9:=s8' rl _ nrd r7;have D9:=s8' D _ nDd D7;have k9':=dv hD7 s8' k7;have N9':=N7.b8 hD7 s8';have sh9:=sh7.b8 hD7 s8';have R9:=R7.keep (dv hD7 s8');have x39:=dv hD7 s8' x3;have ral:ra.length=i:=by rw[R7.1,rl7]
    have hzl:=hN.2.1;have hz8:zs[8+i]?=some zs[8+i]:=aa0 (by omega);refine ⟨av r9,_,.inl (SqL.of r9),ao (v:=.str zs[8+i]) N9'.1 ?_ (Qg k9' x39 hk oki.1 λt ds H10 s10 h10=>⟨by show (5:Nat)≤sizeLine;decide,λpr hpr=>?_⟩)⟩
    ·rw[aa1,ral,show (8:Int)+(i:Int)=((8+i:Nat):Int) by omega];exact bo (by rw[aa7,hz8];rfl)
    have e11:upd H10 pr (.tup [V.str zs[8+i],V.str ki,V.int y',V.ref si,V.ref t]) pr=some (.tup [V.str zs[8+i],V.str ki,V.int y',V.ref si,V.ref t]):=ae;have q11:=aa hpr (.tup [V.str zs[8+i],V.str ki,V.int y',V.ref si,V.ref t]);have s11:=s10.trans q11;have h11:=q11 _ _ h10;clear q11;generalize upd H10 pr (.tup [V.str zs[8+i],V.str ki,V.int y',V.ref si,V.ref t])=H11 at e11 s11 h11 ⊢;have S11:=S8.trans (aq.of s11);have r11:=s11 _ _ r9;have R11:=(R9.same s11).snoc (r:=⟨zs[8+i],ki,y',shi⟩) ⟨si,t,ds,e11,s11 _ _ x39,h11⟩;have tD:∀{a:Addr} {xs:List V},H11 a=some (.tup xs)→upd H11 rl (.lst (ra.map V.ref++[V.ref pr])) a=some (.tup xs):=λh=>by rw[af (df h r11 (by intro e;cases e))];exact h
    refine (bb (K:=K) r11 (by rw[aa1];omega) ((eP2 _ _ _).mpr ⟨ra++[pr],rs++[⟨zs[8+i],ki,y',shi⟩],m+1,_,_,_,_,_,rfl,S11.upd frl _,by rw[af nrd.symm];exact s11 _ _ d8',by omega,by rw[af nrD.symm];exact s11 _ _ D9,tD (s11 _ _ k9'),⟨?_,hN.2⟩,(sh9.same s11).keep tD,by rw[ae,aaa];rfl,R11.keep tD,by rw[aa2,aa9,rl7],Ei nm7 hz8,λr' hr'=>?_⟩)).2
    ·rw[af (ag hN.1 frl)];exact s11 _ _ N9'.1
    ·rcases List.mem_append.mp hr' with g | g
     ·exact so7 r' g
     ·rw[List.mem_singleton.mp g];exact ⟨oki.1,hy1,oki.2⟩
   ·intro σ H7 hh;refine ob8 ((eP2 _ _ _).mp hh) λra rs m w8 w9 w10 w12 w13 hh=>?_;have s7:=hh.2.1;have d7:=hh.2.2.1;have hm7:=hh.2.2.2.1;have D7:=hh.2.2.2.2.1;have k7:=hh.2.2.2.2.2.1;have N7:=hh.2.2.2.2.2.2.1;have sh7:=hh.2.2.2.2.2.2.2.1;have r7:=hh.2.2.2.2.2.2.2.2.1;have R7:=hh.2.2.2.2.2.2.2.2.2.1;have rl7:=hh.2.2.2.2.2.2.2.2.2.2.1;have nm7:=hh.2.2.2.2.2.2.2.2.2.2.2.1;have so7:=hh.2.2.2.2.2.2.2.2.2.2.2.2;obtain rfl:=hh.1;clear hh;push_cast [and_true];have ral:ra.length=rs.length:=R7.1;rw[aa1] at hm7 rl7 nm7;rw[←rl7] at nm7;have rsl:rs.length=ps.length:=by rw[rl7,sal]
    obtain ⟨at',hat,hlt⟩:∃a:Nat,c / 11 % (((ra.map V.ref).length:Nat):Int)=(a:Int)∧a < ra.length:=⟨(c / 11 % (((ra.map V.ref).length:Nat):Int)).toNat,by
     rw[aa1];have h1:=aar (c / 11) (show ((ra.length:Nat):Int)≠0 by omega);omega,by
     rw[aa1];have h1:=aar (c / 11) (show ((ra.length:Nat):Int)≠0 by omega);have h2:=abm (c / 11) (show (0:Int) < ((ra.length:Nat):Int) by omega);omega⟩
    refine ⟨_,.inl (SqL.of r7),by rw[aa1];omega,_,SqL.of r7,λp hp=>?_⟩;rw[hat];have c1:cn (ra.map V.ref) (some (at':Int)) none=(ra.drop at').map V.ref:=by
     have:=As (ra.map V.ref) at' 0 (by rw[aa1];omega);rw[show ((at':Int)+((0:Nat):Int))=(at':Int) by omega,Nat.add_zero] at this;rw[this,acj]
    have c2:cn (ra.map V.ref) none (some (at':Int))=(ra.take at').map V.ref:=by rw[kh _ _ (by rw[aa1];omega),aeo]
    rw[c1] at*;refine ⟨_,SqL.of (aa hp _ _ _ r7),λp2 hp2=>?_⟩;rw[c2];refine Of (aa hp2 _ _ _ ae) ae (by rw[aa1,aa1,aah,aaw];omega) λp3 hp3=>⟨_,.inl ⟨SqL.of ae,λt ht=>⟨by show (2:Nat)≤sizeLine;decide,λbt hbt=>?_⟩⟩⟩;have s8:=(aa hp (.lst ((ra.drop at').map V.ref))).trans ((aa hp2 (.lst ((ra.take at').map V.ref))).trans ((aa hp3 (.lst ((ra.drop at').map V.ref++(ra.take at').map V.ref))).trans ((aa ht (.tup ((ra.drop at').map V.ref++(ra.take at').map V.ref))).trans (aa hbt (.tup [V.ref kt,V.ref t])))));refine q bt m _ kinds (rs.drop at'++rs.take at') (s7.trans (aq.of s8)) (s8 _ _ d7) (by omega) ⟨kt,t,ra.drop at'++ra.take at',ae,s8 _ _ k7,?_,(R7.rot at').same s8⟩ (bk_rot hk (by rw[hkd];exact hN.2.2.1.sublist (adw _ _)) (by omega) hN.2.2.1 nm7 so7 (by omega) at') (by rw[aa2,aah,aaw];omega);rw[aaa];exact aa hbt _ _ _ ae
noncomputable abbrev m7:Stmt:=top 19
theorem G3:az ["deck","own","letters","cell","more","tail","names","k","sign","name"] ["deck"] (ah m7):=⟨rfl,rfl,rfl,by decide+kernel,rfl,by decide+kernel,by decide+kernel⟩
theorem Ll (G:Gs w K mg) (h_law_next:Has P w K mg base k "_law_next" ["deck"] gn) (D:Def K mg "_law_names" m7 ["deck"]):Has P w K mg base (k+1) "_law_names" ["deck"] oo:=by
 refine D.has G3 (λvs H Q E h=>?_) (λf cdv A outer s H vs Q E hr h=>?_)
 ·obtain ⟨_,_,_,_,rfl,_,_,_⟩:=h;rfl
 have nd:=G3.nd;have hu:=b9 hr;have hu0:=aai hu;obtain ⟨d,b,ns,n,rfl,hD,hn,q⟩:=h;have m_range:=G.m_range;refine ⟨_,(A5 (A7 1 nd (AC (BF (AH (AH (AH (AH (AH (AH (AH (AH (AH (BG 0))))))))))))) (A5 (A7 2 nd (AL 0)) (A5 (A7 3 nd (AG h_law_next hr (A1 (A0 0) (A3 0)))) (A5 (A7 4 nd (A4 (AQ 0) (A0 3) (A2 0))) (A5 (A7 5 nd (A4 (@mj _) (A8 (@ka _) (A0 2) (A4 (A9 0) (A4 (AQ 0) (A0 4) (A2 0)) (A2 0))) (A4 (A9 0) (A4 (AQ 0) (A0 4) (A2 0)) (A2 0)))) (A5 (A7 6 nd (AC (A3 0))) (A5 (AY (BP m_range (A1 (A2 0) (A3 0))) (AJ 7 nd (by first | exact ab5 rfl | exact ab7 rfl)) (A5 (A7 8 nd (A8 (@ka _) (A0 2) (A4 (A9 0) (A4 (AK 0) (A0 4) (A0 7)) (A2 0)))) (A5 (A7 9 nd (A4 (BQ 0) (A4 (BQ 0) (A0 8) (A8 (@ka _) (A0 2) (A4 (A9 0) (A4 (AK 0) (A4 (AQ 0) (A0 4) (A2 0)) (A4 (AQ 0) (A0 7) (A2 0))) (A2 0)))) (A0 5))) (BI (AE (AB (AR 0) (A4 (A9 0) (A0 3) (A2 0)) (A2 0) (AA 0)) (A6 (A7 9 nd (A4 (BQ 0) (A8 (AM 0) (A0 1) (A4 (A9 0) (A4 (AK 0) (A0 7) (A0 4)) (A2 0))) (A8 (@ka _) (A0 2) (A4 (A9 0) (A4 (AK 0) (A4 (AQ 0) (A0 4) (A2 0)) (A4 (AQ 0) (A0 7) (A2 0))) (A2 0)))))) (AT 0)) (BI (AE (AB (AR 0) (A4 (A9 0) (A0 3) (A2 0)) (A2 0) (AA 0)) (A5 (A7 9 nd (A4 (@mj _) (A8 (@ka _) (A0 2) (A4 (A9 0) (A0 4) (A2 0))) (A4 (AK 0) (A2 0) (A4 (A9 0) (A0 7) (A2 0))))) (A5 (A7 9 nd (A4 (BQ 0) (A0 9) (A4 (@mj _) (A8 (@ka _) (A0 2) (A4 (A9 0) (A4 (AK 0) (A0 4) (A2 0)) (A2 0))) (A4 (A9 0) (A4 (AQ 0) (A0 7) (A2 0)) (A2 0))))) (A6 (A7 9 nd (A4 (BQ 0) (A0 9) (A8 (@ka _) (A0 2) (A4 (A9 0) (A4 (AK 0) (A4 (AK 0) (A0 4) (A2 0)) (A4 (AQ 0) (A0 7) (A2 0))) (A2 0)))))))) (AT 0)) (BI (AE (BH (BR 0) (A0 9) (A0 1)) (A6 (A7 9 nd (A4 (BQ 0) (A0 9) (AL 0)))) (AT 0)) (A6 (AS (AU PySem.F.plainAttrs_list PySem.F.slot_list_append PySem.F.type_list_append (AV 0) (A0 6) (A1 (A0 9) (A3 0))))))))))) (A6 (AD (A0 6)))))))))),?_⟩;rw[show start ["deck","own","letters","cell","more","tail","names","k","sign","name"] [.ref d]=[some (.ref d),none,none,none,none,none,none,none,none,none] from rfl];clear hu hu0 nd hr;push_cast [and_true];have sz:=sizeLine_eq;refine ⟨by show (9:Nat)≤sizeLine;decide,λp hp=>nh (hD.same (aa hp _)) (by omega) λc H1 s1 d1=>?_⟩;push_cast [pj];refine gy ⟨_,rfl,by omega,by omega,by show (1:Nat)≤1000;decide,aa8 _,λl hl=>?_⟩;have npd:p≠d:=(ag hD.1 hp).symm;have p1:H1 p=some (.lst (d4.map V.str)):=s1 p _ npd ae;have S1:aq d H H1:=(aq.of (aa hp (.lst (d4.map V.str)))).trans s1;have fl:=S1.free d1 hl;have nld:l≠d:=(ag d1 hl).symm;have nlp:l≠p:=(ag p1 hl).symm;obtain ⟨P1,eP1⟩:∃P1:Nat→L2.St→Hp→Prop,∀j σ H',P1 j σ H'↔∃v7 v8 v9:Option V,σ=[some (.ref d),some (.ref p),some (.str Bx),some (.int c),some (.int (c / 3)),some (.str (rf (c / 3))),some (.ref l),v7,v8,v9]∧aq d H H'∧H' d=some (.lst [.ref b,.int ((n+1:Nat):Int)])∧H' p=some (.lst (d4.map V.str))∧H' l=some (.lst ((aat j).map λk=>V.str (nmP c k))):=⟨_,λ_ _ _=>abo⟩;refine fh (lo:=0) P1 ((eP1 _ _ _).mpr ⟨none,none,none,rfl,S1.upd fl _,aa hl _ _ _ d1,aa hl _ _ _ p1,ae⟩) ?_ ?_
 ·intro j σ H5 hj hh;refine ob3 ((eP1 _ _ _).mp hh) λv7 v8 v9 hh=>?_;have s5:=hh.2.1;have d5:=hh.2.2.1;have p5:=hh.2.2.2.1;have l5:=hh.2.2.2.2;obtain rfl:=hh.1;clear hh;push_cast [and_true];simp only[Int.zero_add];refine gy (gy ⟨_,rfl,_,rfl,by rw[dq,dq];omega,by have:=Fe (c / 3) (c / 3) j;unfold nm0 at this;rw[Str.length_append] at this;omega,?_⟩);refine fb (λσ' H6=>σ'=[some (.ref d),some (.ref p),some (.str Bx),some (.int c),some (.int (c / 3)),some (.str (rf (c / 3))),some (.ref l),some (.int (j:Int)),some (.str (ltr (c / 3+(j:Int)))),some (.str (if c % 3=1 then nm1 (c / 3) j else nm0 (c / 3) (rf (c / 3)) j))]∧H5=H6) ?_ ?_
  ·push_cast [and_true];refine ⟨rfl,bu (λe=>?_) λe=>?_⟩
   ·rw[if_pos e];have b1:(((j:Int)+c / 3) % 9).toNat < d4.length:=by show _ < 9;omega
    have g:=Gz (c / 3) j;have g2:nm1 (c / 3) j=d4[(((j:Int)+c / 3) % 9).toNat]++ltr (c / 3 / 9+(j:Int) / 9):=by
     unfold nm1;rw[aa4,aa0 b1];rfl
    refine ao (v:=.str d4[(((j:Int)+c / 3) % 9).toNat]) p5 ?_ (gy ⟨_,rfl,_,rfl,?_,g2.symm,rfl⟩)
    ·have g3:((((j:Int)+c / 3) % 9).toNat:Int)=((j:Int)+c / 3) % 9:=by omega
     have g4:=bo (xs:=d4.map V.str) (j:=(((j:Int)+c / 3) % 9).toNat) (v:=.str d4[(((j:Int)+c / 3) % 9).toNat]) (by rw[aa7,aa0 b1];rfl);rw[g3] at g4;exact g4
    ·rw[g2,Str.length_append] at g;omega
   ·rw[if_neg e];rfl
  rintro _ _ ⟨rfl,rfl⟩;refine fb (λσ' H6=>∃v8:Option V,σ'=[some (.ref d),some (.ref p),some (.str Bx),some (.int c),some (.int (c / 3)),some (.str (rf (c / 3))),some (.ref l),some (.int (j:Int)),v8,some (.str (nmX c j))]∧H5=H6) ?_ ?_
  ·push_cast [and_true];refine ⟨rfl,bu (λe=>?_) λe=>?_⟩
   ·refine gy ⟨_,rfl,by omega,by omega,by rw[dq];omega,gy ⟨_,rfl,by omega,by omega,by rw[dq];omega,by rw[lh,lh];omega,gy ⟨_,rfl,by rw[Str.length_append,lh,lh,dq];omega,?_,rfl⟩⟩⟩;unfold nmX;rw[if_pos e];rfl
   ·unfold nmX;rw[if_neg e]
  rintro _ _ ⟨v8',rfl,rfl⟩;refine fb (λσ' H6=>∃v8:Option V,σ'=[some (.ref d),some (.ref p),some (.str Bx),some (.int c),some (.int (c / 3)),some (.str (rf (c / 3))),some (.ref l),some (.int (j:Int)),v8,some (.str (nmP c j))]∧H5=H6) ?_ ?_
  ·push_cast [rIn];have g:=Qe c j;have hx:(Str.ofString "xq").length=2:=Di;refine ⟨_,.inl (SqL.of p5),rfl,List.all_eq_true.mpr λx hx=>by obtain ⟨z,_,rfl⟩:=List.mem_map.mp hx;rfl,bu (λe=>⟨by omega,?_⟩) λe=>?_⟩
   ·unfold nmP;rw[if_pos ((Jk _).mp e)]
   ·unfold nmP;rw[if_neg λh=>e ((Jk _).mpr h)]
  rintro _ _ ⟨v8'',rfl,rfl⟩;push_cast [and_true];refine bb l5 (by rw[aa1,abd];omega) ((eP1 _ _ _).mpr ⟨_,_,_,rfl,s5.upd fl _,by rw[af nld.symm];exact d5,by rw[af nlp.symm];exact p5,?_⟩);rw[ae,aeb,aaa];rfl
 ·intro σ H5 hh;refine ob3 ((eP1 _ _ _).mp hh) λv7 v8 v9 hh=>?_;have s5:=hh.2.1;have d5:=hh.2.2.1;have p5:=hh.2.2.2.1;have l5:=hh.2.2.2.2;obtain rfl:=hh.1;clear hh;push_cast [and_true];exact q l H5 _ s5 d5 (Eu l5)
noncomputable abbrev jx:Stmt:=top 26
theorem Cf:az ["kinds","shape"] ["kinds","shape"] (ah jx):=⟨rfl,rfl,rfl,by decide+kernel,rfl,by decide+kernel,by decide+kernel⟩
theorem Ib (G:Gs w K mg) (D:Def K mg "_law_holes" jx ["kinds","shape"]):Has P w K mg base (k+1) "_law_holes" ["kinds","shape"] (nz K):=by
 refine D.has Cf (λvs H Q E h=>?_) (λf cdv A outer s H vs Q E hr h=>?_)
 ·obtain ⟨_,_,_,_,rfl,_,_,_,_,_⟩:=h;rfl
 have nd:=Cf.nd;have hu:=b9 hr;have hu0:=aai hu;obtain ⟨kt,st,kinds,sh,rfl,hK,hS,hw,hl,q⟩:=h;refine ⟨_,(A6 (AD (BU (BL ["word"] ["kinds"] [0] (aas rfl trivial) (aas (aas rfl (aas rfl rfl)) trivial)) (BW (A0 1)) (λ_ _ _=>(BE 0 (show ac2 (["word","kinds"]:List Str) by decide+kernel))) (λ_ _ _=>(@pif1 _ _ _ (BH (@nr _ K rfl) (A0 0) (AO 1)))) (λ_ _ _=>(A0 0))))),?_⟩;rw[show start ["kinds","shape"] [.ref kt,.ref st]=[some (.ref kt),some (.ref st)] from rfl];clear hu hu0 nd hr;push_cast [and_true];have sz:=sizeLine_eq;have fl:(kinds.map V.str).all ij=true:=List.all_eq_true.mpr λx hx=>by obtain ⟨z,_,rfl⟩:=List.mem_map.mp hx;rfl
 refine ⟨⟨sh,hS⟩,λD hD=>Dd (xs:=sh) (λi ys=>ys=(sh.take i).filter (isH kinds)) hS (by omega) hD rfl (λi x ys H3 G' K' hx hP hl2 hS' hG hK'=>?_) λys H3 hP hl2 hS' hD2=>?_⟩
 ·have hxw:=hw x (aak hx);have et:sh.take (i+1)=sh.take i++[x]:=by rw[abh,hx];rfl
  push_cast [rIn];refine ⟨_,.inr (hS'.tup hK),hxw.flat,fl,bu (λe=>?_) λe=>?_⟩
  ·rw[o9 hxw] at e;refine hK' _ _ (ak.refl _) ?_;rw[et,abe,←hP,aau,if_pos e];rfl
  ·rw[o9 hxw] at e;refine hG _ (ak.refl _) ?_;rw[et,abe,←hP,aau,if_neg e];exact (ab1 _).symm
 ·rw[abx,←jc] at hP;subst hP;exact q D H3 hS' hD hD2
noncomputable abbrev mx:Stmt:=top 27
theorem Fn:az ["book","words","ends","found","back","place","rule","under"] ["book","words"] (ah mx):=⟨rfl,rfl,rfl,by decide+kernel,rfl,by decide+kernel,by decide+kernel⟩
theorem Lo (G:Gs w K mg) (h_law_ends:Has P w K mg base k "_law_ends" ["words"] (ze K)) (h_law_holes:Has P w K mg base k "_law_holes" ["kinds","shape"] (nz K)) (h_law_laid:Has P w K mg base k "_law_laid" ["kinds","shape","words","ends","place"] (ub K)) (D:Def K mg "_law_fits" mx ["book","words"]):Has P w K mg base (k+1) "_law_fits" ["book","words"] ud:=by
 refine D.has Fn (λvs H Q E h=>?_) (λf cdv A outer s H vs Q E hr h=>?_)
 ·obtain ⟨_,_,_,_,_,rfl,_,_,_,_,_⟩:=h;rfl
 have nd:=Fn.nd;have hu:=b9 hr;have hu0:=aai hu;obtain ⟨b,wt,kinds,rs,ws,rfl,hB,hW,bk,tw,q⟩:=h;have m_len:=G.m_len;have m_list:=G.m_list;have m_range:=G.m_range;have m_zip:=G.m_zip;refine ⟨_,(A5 (A7 2 nd (AG h_law_ends hr (A1 (A0 1) (A3 0)))) (A5 (A7 3 nd (AC (A3 0))) (A5 (AY (BP m_range (A1 (AN (AX 0) m_len cw (A1 (A0 1) (A3 0))) (A3 0))) (AJ 4 nd (by first | exact ab5 rfl | exact ab7 rfl)) (A5 (A7 5 nd (A4 (B0 0) (A4 (B0 0) (AN (AX 0) m_len cw (A1 (A0 1) (A3 0))) (A2 0)) (A0 4))) (A6 (AY (BW (A8 (AF 0) (A0 0) (A2 0))) (AJ 6 nd (by first | exact ab5 rfl | exact ab7 rfl)) (A5 (A7 7 nd (AG h_law_laid hr (A1 (A8 (AF 0) (A0 0) (A2 0)) (A1 (A8 (AF 0) (A0 6) (A2 0)) (A1 (A0 1) (A1 (A0 2) (A1 (A0 5) (A3 0)))))))) (A6 (AE (BT (@zf _ _ _ _ _ (A0 7)) (by first | exact fw _ (by decide) (by decide) | rfl)) (A6 (AS (AU PySem.F.plainAttrs_list PySem.F.slot_list_append PySem.F.type_list_append (AV 0) (A0 3) (A1 (AI (A1 (A0 6) (A1 (A0 5) (A1 (@vm _ _ _ _ _ _ _ _ rfl rfl m_list rfl m_zip (A1 (A8 (AF 0) (A0 7) (A2 0)) (A1 (AG h_law_holes hr (A1 (A8 (AF 0) (A0 0) (A2 0)) (A1 (A8 (AF 0) (A0 6) (A2 0)) (A3 0)))) (A3 0))) rfl rfl rfl) (A3 0))))) (A3 0))))) (AT 0)))))))) (A6 (AD (A0 3)))))),?_⟩;rw[show start ["book","words","ends","found","back","place","rule","under"] [.ref b,.ref wt]=[some (.ref b),some (.ref wt),none,none,none,none,none,none] from rfl];clear hu hu0 nd hr;push_cast [and_true];have sz:=sizeLine_eq;have wl:=tw.len;have rl:=bk.len;refine mkEnds (SqT.of hW) (λv hv=>(tw.w v hv).1) tw.one wl λet H1 s1 het e1=>⟨aa8 _,λfl hfl=>⟨ws,.inr (SqT.of ((s1.trans (aa hfl _)) _ _ hW)),by omega,by omega,?_⟩⟩;obtain ⟨kt,rt,ra,hb,hkt,hrt,hRA⟩:=hB;rw[show ((ws.length:Nat):Int).toNat=ws.length by omega];obtain ⟨P1,eP1⟩:∃P1:Nat→L2.St→Hp→Prop,∀j σ H',P1 j σ H'↔∃(as:List Addr) (v4 v5 v6 v7:Option V),σ=[some (.ref b),some (.ref wt),some (.ref et),some (.ref fl),v4,v5,v6,v7]∧ak H1 H'∧H' fl=some (.lst (as.map V.ref))∧cq H' (λx=>H1 x≠none∨x=fl) as (Ah kinds rs ws j):=⟨_,λ_ _ _=>abo⟩;refine fh (lo:=0) P1 ((eP1 _ _ _).mpr ⟨[],none,none,none,none,rfl,aa hfl _,ae,cq.nil _ _⟩) ?_ ?_
 ·intro j σ H2 hj hh;refine ob5 ((eP1 _ _ _).mp hh) λas v4 v5 v6 v7 hh=>?_;have s2:=hh.2.1;have f2:=hh.2.2.1;have F2:=hh.2.2.2;obtain rfl:=hh.1;clear hh;have S2:=s1.trans s2;push_cast [and_true];refine ⟨ws,.inr (SqT.of (S2 _ _ hW)),?_⟩;obtain ⟨p,hp,ep⟩:∃p:Nat,p=ws.length - 1 - j∧((ws.length:Nat):Int) - 1 - (0+(j:Int))=(p:Int):=⟨_,rfl,by omega⟩;rw[ep];refine au (S2 _ _ hb) rfl ⟨rt,rfl,⟨_,SqT.of (S2 _ _ hrt)⟩,?_⟩;obtain ⟨P2,eP2⟩:∃P2:Nat→L2.St→Hp→Prop,∀i σ H',P2 i σ H'↔∃(as:List Addr) (v6 v7:Option V),σ=[some (.ref b),some (.ref wt),some (.ref et),some (.ref fl),some (.int (0+(j:Int))),some (.int (p:Int)),v6,v7]∧ak H1 H'∧H' fl=some (.lst (as.map V.ref))∧cq H' (λx=>H1 x≠none∨x=fl) as (Ah kinds rs ws j++(rs.take i).filterMap (i9 kinds ws p)):=⟨_,λ_ _ _=>abo⟩;refine qd (xs:=ra.map V.ref) P2 ((eP2 _ _ _).mpr ⟨as,v6,v7,rfl,s2,f2,by rw[List.take_zero];exact (ab1 _).symm ▸ F2⟩) (λi σ H' _ h=>by obtain ⟨_,_,_,_,s,_⟩:=(eP2 _ _ _).mp h;exact SqT.of ((s1.trans s) _ _ hrt)) ?_ ?_
  ·intro i y σ H5 hy hh;refine ob3 ((eP2 _ _ _).mp hh) λas v6 v7 hh=>?_;have s5:=hh.2.1;have f5:=hh.2.2.1;have F5:=hh.2.2.2;obtain rfl:=hh.1;clear hh;have S5:=s1.trans s5;rw[aa7] at hy;obtain ⟨ai,hai,rfl⟩:=Option.map_eq_some_iff.mp hy;have hil:i < rs.length:=by rw[←hRA.1];exact (List.getElem?_eq_some_iff.mp hai).1
   have hri:rs[i]?=some rs[i]:=aa0 hil;obtain ⟨a',ha',sa,da,ds,g1,g2,g3⟩:=hRA.2 i _ hri;obtain rfl:a'=ai:=aa3 (ha'.symm.trans hai);generalize rs[i]=r at hri g1 g2;have hrm:=aak hri;obtain ⟨w1,w2,w3⟩:=bk.sh r hrm;have et':(rs.take (i+1)).filterMap (i9 kinds ws p)=(rs.take i).filterMap (i9 kinds ws p)++(i9 kinds ws p r).toList:=by
    rw[abh,hri,adj];congr 1
   push_cast [and_true];refine au (S5 _ _ hb) rfl (au (S5 _ _ g1) rfl (Ow (SqT.of (S5 _ _ g2)) (SqT.of (S5 _ _ hkt)) (SqT.of (S5 _ _ hW)) (s5 _ _ e1) bk.kd w1 w2 (by omega) tw (by omega) λH6 s6=>?_));have S6:=S5.trans s6;cases hu:dy kinds ws r.shape p ⟨[],[],[]⟩ with
   | none=>
    have ef:i9 kinds ws p r=none:=by unfold i9;rw[hu];rfl
    refine yb ?_;push_cast [vt];rw[if_neg (by simp)];refine (eP2 _ _ _).mpr ⟨as,_,_,rfl,s5.trans s6,s6 _ _ f5,?_⟩;rw[et',ef,show (none:Option Pc.Lf).toList=[] from rfl,ab1];exact F5.same s6
   | some u=>
    intro t H7 s7 hu7 ok7;have ef:i9 kinds ws p r=some ⟨p,r,u.hs.zip (ba kinds r.shape)⟩:=by unfold i9;rw[hu];rfl
    have S7:=S6.trans s7;obtain ⟨t1,t2,t3,u1,u2,_⟩:=id hu7;push_cast [vt,tLZ];rw[if_pos (by simp)];have s57:=s6.trans s7;have f7:=s57 _ _ f5;have hn:=(sf bk.kd r.shape p _ u w1 hu).1;refine ⟨av f7,au u1 rfl (au (S7 _ _ hb) rfl (au (S7 _ _ g1) rfl (J8 (SqT.of (S7 _ _ hkt)) (SqT.of (S7 _ _ g2)) w1 (by omega) λl H8 s8 hl8 h8=>?_)))⟩;refine ⟨t1,rfl,l,rfl,u.hs.map plV,SqT.of (s8 _ _ u2),(ba kinds r.shape).map V.str,SqL.of h8,by rw[aa1,aa1];simpa using hn,λl2 bs H9 s9 hl9 hal hL hA=>⟨by show (3:Nat)≤sizeLine;decide,λpr hpr=>?_⟩⟩;have sA:=aa hpr (.tup [V.ref a',V.int (p:Int),V.ref l2]);have eA:upd H9 pr (.tup [V.ref a',V.int (p:Int),V.ref l2]) pr=some (.tup [V.ref a',V.int (p:Int),V.ref l2]):=ae;generalize upd H9 pr (.tup [V.ref a',V.int (p:Int),V.ref l2])=HA at sA eA ⊢;have s7A:=s8.trans (s9.trans sA);have fA:=s7A _ _ f7;have fal:as.length≤100000+100:=by
     rw[F5.1,aa2];have h1:=wy kinds rs ws rl j;have h2:((rs.take i).filterMap (i9 kinds ws p)).length≤(rs.take i).length:=aby _ _;rw[aaw] at h2;omega
    refine (bb (K:=K) fA (by rw[aa1];omega) ((eP2 _ _ _).mpr ⟨as++[pr],_,_,rfl,((s5.trans s57).trans s7A).upd hfl _,by rw[ae,aaa];rfl,?_⟩)).2;rw[et',ef,←aax];refine cq.kx (cq.snoc (F5.same (s57.trans s7A)) ⟨a',l2,?_,eA,⟨sa,da,ds,(S7.trans s7A) _ _ g1,(S7.trans s7A) _ _ g2,(S7.trans s7A) _ _ g3⟩,?_⟩) ((Kx.upd fA).weak λx hx=>.inr hx)
    ·have f9:H7 l2=none:=s8.free hl9;rintro (z | z)
     ·exact z ((s5.trans s57).free f9)
     ·exact (ag f7 f9) z.symm
    ·refine ⟨bs,sA _ _ hL,?_,λj' k hj'=>?_⟩
     ·rw[hal,aa1,ado];have:u.hs.length=(ba kinds r.shape).length:=by simpa using hn
      omega
     ·obtain ⟨k1,k2⟩:=List.getElem?_zip_eq_some.mp (show (u.hs.zip (ba kinds r.shape))[j']?=some (k.1,k.2) from hj');obtain ⟨a2,b1,b2⟩:=hA j' _ _ (by rw[aa7,k1];rfl) (by rw[aa7,k2];rfl);exact ⟨a2,b1,sA _ _ b2⟩
  ·intro σ H5 hh;refine ob3 ((eP2 _ _ _).mp hh) λas v6 v7 hh=>?_;have s5:=hh.2.1;have f5:=hh.2.2.1;have F5:=hh.2.2.2;obtain rfl:=hh.1;clear hh;refine (eP1 _ _ _).mpr ⟨as,_,_,_,_,rfl,s5,f5,?_⟩;rw[aa1,abu (by rw[hRA.1];exact aa6 _),hp] at F5;rw[qt];exact F5
 ·intro σ H2 hh;refine ob5 ((eP1 _ _ _).mp hh) λas v4 v5 v6 v7 hh=>?_;have s2:=hh.2.1;have f2:=hh.2.2.1;have F2:=hh.2.2.2;obtain rfl:=hh.1;clear hh;push_cast [and_true];exact q fl as H2 (s1.trans s2) (s1.free hfl) f2 (F2.weak λx hx=>.inl λz=>hx (s1.free z))
noncomputable abbrev nj:Stmt:=top 28
theorem G5:az ["rule","keys","least","cost","key"] ["rule","keys","least"] (ah nj):=⟨rfl,rfl,rfl,by decide+kernel,rfl,by decide+kernel,by decide+kernel⟩
theorem Jx (G:Gs w K mg) (D:Def K mg "_law_cost" nj ["rule","keys","least"]):Has P w K mg base (k+1) "_law_cost" ["rule","keys","least"] n8:=by
 refine D.has G5 (λvs H Q E h=>?_) (λf cdv A outer s H vs Q E hr h=>?_)
 ·obtain ⟨_,_,_,_,_,_,_,rfl,_,_,_,_⟩:=h;rfl
 have nd:=G5.nd;have hu:=b9 hr;have hu0:=aai hu;obtain ⟨ra,hl,d,r,hs,g,n,rfl,hR,hH,hT,q⟩:=h;refine ⟨_,(A5 (A7 3 nd (A8 (AF 0) (A0 0) (A2 0))) (A5 (AY (BD (A0 1)) (AJ 4 nd (by first | exact ab5 rfl | exact ab7 rfl)) (A5 (AE (BT (C6 hu (A0 4) (A0 2)) (by first | exact fw _ (by decide) (by decide) | rfl)) (A6 (AD (A2 0))) (AT 0)) (A6 (A7 3 nd (A4 (AK 0) (A0 3) (BC hu (A0 2) (A0 4))))))) (A6 (AD (A0 3))))),?_⟩;rw[show start ["rule","keys","least","cost","key"] [.ref ra,.ref hl,.ref d]=[some (.ref ra),some (.ref hl),some (.ref d),none,none] from rfl];clear hu hu0 nd hr;push_cast [and_true];obtain ⟨as,h1,h2,h3⟩:=hH;obtain ⟨sa,da,ds,r1,r2,r3⟩:=hR;refine au r1 rfl ⟨⟨_,SqL.of h1⟩,dg (xs:=as.map V.ref) (λi σ H'=>∃(c:Int) (v4:Option V),σ=[some (.ref ra),some (.ref hl),some (.ref d),some (.int c),v4]∧H=H'∧cost g c (hs.drop i)=cost g r.price hs) ⟨r.price,none,rfl,rfl,rfl⟩ (λi σ H' _ h=>by obtain ⟨_,_,_,rfl,_⟩:=h;exact SqL.of h1) ?_ ?_⟩
 ·rintro i y σ H' hy ⟨c,v4,rfl,rfl,hc⟩;rw[aa7] at hy;obtain ⟨a,ha,rfl⟩:=Option.map_eq_some_iff.mp hy;have hil:i < hs.length:=by rw[←h2];exact (List.getElem?_eq_some_iff.mp ha).1
  have hk:hs[i]?=some hs[i]:=aa0 hil;obtain ⟨a',ha',hA⟩:=h3 i _ hk;obtain rfl:a'=a:=aa3 (ha'.symm.trans ha);rw[aav hil] at hc;push_cast [and_true];refine ⟨_,hT.get hA,?_⟩;cases e:g hs[i] with
  | none=>
   rw[i6 e] at hc;rw[←hc] at q;rw[if_pos (by simp)];exact q
  | some v=>
   rw[gu e] at hc;have hG:=hT.val hA e;rw[if_neg (by simp)];exact ⟨_,hG,hc⟩
 ·rintro σ H' ⟨c,v4,rfl,rfl,hc⟩;rw[aa1,h2,ach] at hc;have hc:some c=cost g r.price hs:=hc;push_cast [and_true];rw[←hc] at q;exact q
noncomputable abbrev ju:Stmt:=top 29
theorem Ba:az ["fits","least","again","rule","place","keys","cost","key"] ["fits"] (ah ju):=⟨rfl,rfl,rfl,by decide+kernel,rfl,by decide+kernel,by decide+kernel⟩
theorem Hq (G:Gs w K mg) (h_law_cost:Has P w K mg base k "_law_cost" ["rule","keys","least"] n8) (D:Def K mg "_law_least" ju ["fits"]):Has P w K mg base (k+1) "_law_least" ["fits"] ox:=by
 refine D.has Ba (λvs H Q E h=>?_) (λf cdv A outer s H vs Q E hr h=>?_)
 ·obtain ⟨_,_,_,rfl,_,_,_,_,_⟩:=h;rfl
 have nd:=Ba.nd;have hu:=b9 hr;have hu0:=aai hu;obtain ⟨fl,as,fs,rfl,hF,hFs,hn,ho,q⟩:=h;refine ⟨_,(A5 (A7 1 nd (@Bj _ _)) (A5 (A7 2 nd (BB 0)) (A5 (C4 (BX (A0 2)) (A5 (A7 2 nd (BB 0)) (A6 (AY (BD (A0 0)) (BS (AW (AJ 3 nd (by first | exact ab5 rfl | exact ab7 rfl)) (AW (AJ 4 nd (by first | exact ab5 rfl | exact ab7 rfl)) (AW (AJ 5 nd (by first | exact ab5 rfl | exact ab7 rfl)) (BO 0))))) (A5 (A7 6 nd (AG h_law_cost hr (A1 (A0 3) (A1 (A0 5) (A1 (A0 1) (A3 0)))))) (A5 (A7 7 nd (AI (A1 (A0 4) (A1 (A8 (AF 0) (A0 3) (A2 0)) (A3 0))))) (A6 (AE (BA (BK (AB (@jd _) (A0 6) (A2 0) (AA 0)) (BM (BA (BY (BT (C6 hu (A0 7) (A0 1)) (by first | exact fw _ (by decide) (by decide) | rfl)) (C3 (AB (@ni _) (A0 6) (BC hu (A0 1) (A0 7)) (AA 0)))))))) (A5 (@G2 _ _ _ _ _ _ _ _ _ hu (A0 1) (A0 7) (A0 6) rfl) (A6 (A7 2 nd (BB 0)))) (AT 0))))))))) (A6 (AD (A0 1)))))),?_⟩;rw[show start ["fits","least","again","rule","place","keys","cost","key"] [.ref fl]=[some (.ref fl),none,none,none,none,none,none,none] from rfl];clear hu hu0 nd hr;push_cast [and_true];have sz:=sizeLine_eq;have hal:=hFs.1;intro d hd;have own:∀f∈fs.map ie,1≤f.own:=λf hf=>by
  obtain ⟨f',hf',rfl⟩:=List.mem_map.mp hf;exact ho f' hf'
 obtain ⟨μ,Ok,ok0,okpos,okstep⟩:=ends (F:=fs.map ie) (g0:=λ_=>none) (λk v h=>nomatch h) own ⟨0,λk v h=>nomatch h⟩;have cl:∀g',cnt (fs.map ie) g'≤fs.length:=λg'=>by have:=Dm (fs.map ie) g';rw[aa1] at this;exact this
 obtain ⟨P1,eP1⟩:∃P1:L2.St→Hp→Prop,∀σ H',P1 σ H'↔∃(g':Ky→Option Int) (ks:List Ky) (b:Bool) (v3 v4 v5 v6 v7:Option V),σ=[some (.ref fl),some (.ref d),some (.bl b),v3,v4,v5,v6,v7]∧ak H H'∧TbK H' d g' ks∧ks.length≤cnt (fs.map ie) g'∧Ok g'∧Due (fs.map ie) g'∧(b=false→jh (fs.map ie) g'):=⟨_,λ_ _=>abo⟩;refine kj P1 (λσ H'=>2*μ (gOf H' d)+blAt2 σ) ((eP1 _ _).mpr ⟨λ_=>none,[],true,none,none,none,none,none,rfl,aa hd _,TbK.nil,aa8 _,ok0,(λk v h=>nomatch h),λe=>nomatch e⟩) ?_ ?_
 ·intro σ H1 hh;refine ob8 ((eP1 _ _).mp hh) λg1 ks1 b v3 v4 v5 v6 v7 hh=>?_;have s1:=hh.2.1;have T1:=hh.2.2.1;have L1:=hh.2.2.2.1;have ok1:=hh.2.2.2.2.1;have du1:=hh.2.2.2.2.2.1;have st1:=hh.2.2.2.2.2.2;obtain rfl:=hh.1;clear hh;push_cast [and_true];cases b with
  | false=>
   rw[if_neg (by simp)];exact q d H1 g1 ks1 s1 hd T1 ⟨st1 rfl,du1,okpos g1 ok1⟩ (aay L1 (cl g1))
  | true=>
   rw[if_pos (by simp)];have e1:=zo T1.tb;obtain ⟨Pv,ePv⟩:∃Pv:Nat→L2.St→Hp→Prop,∀i σ H',Pv i σ H'↔∃(g':Ky→Option Int) (ks:List Ky) (b:Bool) (v3 v4 v5 v6 v7:Option V),σ=[some (.ref fl),some (.ref d),some (.bl b),v3,v4,v5,v6,v7]∧ak H H'∧TbK H' d g' ks∧ks.length≤cnt (fs.map ie) g'∧Ok g'∧Due (fs.map ie) g'∧(b=false→g'=g1∧∀(j:Nat) (f:Pc.Lf),j < i→fs[j]?=some f→StL g1 f)∧(b=true→μ g' < μ g1):=⟨_,λ_ _ _=>abo⟩;refine ⟨⟨_,SqL.of (s1 _ _ hF)⟩,dg (xs:=as.map V.ref) Pv ((ePv _ _ _).mpr ⟨g1,ks1,false,v3,v4,v5,v6,v7,rfl,s1,T1,L1,ok1,du1,λ_=>⟨rfl,λj f h=>absurd h (acb _)⟩,λe=>nomatch e⟩) (λi σ H' _ h=>by obtain ⟨_,_,_,_,_,_,_,_,_,s,_⟩:=(ePv _ _ _).mp h;exact SqL.of (s _ _ hF)) ?_ ?_⟩
   ·intro i y σ H2 hy hh;refine ob8 ((ePv _ _ _).mp hh) λg2 ks2 b v3 v4 v5 v6 v7 hh=>?_;have s2:=hh.2.1;have T2:=hh.2.2.1;have L2:=hh.2.2.2.1;have ok2:=hh.2.2.2.2.1;have du2:=hh.2.2.2.2.2.1;have bt2:=hh.2.2.2.2.2.2.1;have bf2:=hh.2.2.2.2.2.2.2;obtain rfl:=hh.1;clear hh;rw[aa7] at hy;obtain ⟨a,ha,rfl⟩:=Option.map_eq_some_iff.mp hy;obtain ⟨f,hfi,ra,hl,_,h3,h4,h5⟩:=(hFs.same s2).get ha;have hfm:=aak hfi;refine Cg h3 rfl ?_;push_cast [and_true];refine Gm h4 h5 T2.tb ?_;obtain ⟨sa,da,ds,r1,r2,r3⟩:=h4;refine au r1 rfl ⟨by show (2:Nat)≤sizeLine;decide,λp1 hp1=>?_⟩;have s3:=aa hp1 (.tup [V.int (f.place:Int),V.str f.r.kind]);have k3:upd H2 p1 (.tup [V.int (f.place:Int),V.str f.r.kind]) p1=some (kyT (f.place,f.r.kind)):=ae;generalize upd H2 p1 (.tup [V.int (f.place:Int),V.str f.r.kind])=H3 at s3 k3 ⊢;have T3:=T2.same s3;have no:∀w3 w4 w5 w6 w7,StL g2 f→Pv (i+1) [some (.ref fl),some (.ref d),some (.bl b),w3,w4,w5,w6,w7] H3:=λw3 w4 w5 w6 w7 so=>(ePv _ _ _).mpr ⟨g2,ks2,b,w3,w4,w5,w6,w7,rfl,s2.trans s3,T3,L2,ok2,du2,λe=>⟨(bt2 e).1,λj f' hj hf'=>by
     obtain ⟨e1',h⟩:=bt2 e;by_cases c:j < i
     ·exact h j f' c hf'
     ·obtain rfl:j=i:=by omega
      obtain rfl:f=f':=aa3 (hfi.symm.trans hf');rw[←e1'];exact so⟩,bf2⟩
    have yes:∀(c:Int) w3 w4 w5 w6 w7,cost g2 f.r.price f.hs=some c→Imp g2 (f.place,f.r.kind) c→∃H'',vw H3 d (.ref p1) (.int c) H''∧Pv (i+1) [some (.ref fl),some (.ref d),some (.bl true),w3,w4,w5,w6,w7] H'':=λc w3 w4 w5 w6 w7 hc im=>by
     have hfF:ie f∈fs.map ie:=List.mem_map.mpr ⟨f,hfm,rfl⟩;obtain ⟨o,ks',hput,htb,hle⟩:=T3.put (v:=c) k3 (by have:=cl g2;omega);obtain ⟨ok',lt⟩:=okstep g2 (ie f) c ok2 hfF hc im;refine ⟨upd H3 d o,hput,(ePv _ _ _).mpr ⟨gb g2 (f.place,f.r.kind) c,ks',true,w3,w4,w5,w6,w7,rfl,(s2.trans s3).upd hd o,htb,Od hfF (f:=ie f) ?_,ok',Pq du2 hfF hc im,(λe=>nomatch e),λ_=>?_⟩⟩
     ·show ks'.length≤if (g2 (f.place,f.r.kind)).isSome then _ else _
      cases e:g2 (f.place,f.r.kind) with
      | none=>
       rw[e] at hle;simp only[aco,aaz,if_false] at hle ⊢;omega
      | some v=>
       rw[e] at hle;simp only[aca,if_true] at hle ⊢;omega
     ·have lt:μ (gb g2 (f.place,f.r.kind) c) < μ g2:=lt;cases b with
      | false=>
       obtain ⟨rfl,_⟩:=bt2 rfl;exact lt
      | true=>
       have:=bf2 rfl;omega
    cases e:cost g2 f.r.price f.hs with
    | none=>
     exact ifN (by show ¬(0:Int) > 0;decide) (no _ _ _ _ _ λc hc=>by rw[e] at hc;cases hc)
    | some c=>
     have cp:=sq (okpos g2 ok2) e;have cp2:=ho f hfm;refine bu (λ_=>⟨_,T3.tb.get k3,?_⟩) λz=>absurd (show c > 0 by omega) z;cases e2:g2 (f.place,f.r.kind) with
     | none=>
      rw[if_pos (by simp)];exact yes c _ _ _ _ _ e (.inl e2)
     | some v=>
      rw[if_neg (by simp)];refine ⟨_,T3.tb.val k3 e2,bu (λlt=>yes c _ _ _ _ _ e (.inr ⟨v,e2,lt⟩)) λnlt=>no _ _ _ _ _ λc' hc'=>⟨v,e2,?_⟩⟩;rw[e] at hc';have:=aa3 hc';have nlt:¬c < v:=nlt;omega
   ·intro σ H2 hh;refine ob8 ((ePv _ _ _).mp hh) λg2 ks2 b v3 v4 v5 v6 v7 hh=>?_;have s2:=hh.2.1;have T2:=hh.2.2.1;have L2:=hh.2.2.2.1;have ok2:=hh.2.2.2.2.1;have du2:=hh.2.2.2.2.2.1;have bt2:=hh.2.2.2.2.2.2.1;have bf2:=hh.2.2.2.2.2.2.2;obtain rfl:=hh.1;clear hh;refine ⟨(eP1 _ _).mpr ⟨g2,ks2,b,v3,v4,v5,v6,v7,rfl,s2,T2,L2,ok2,du2,λe=>?_⟩,?_⟩
    ·obtain ⟨rfl,h⟩:=bt2 e;exact Ec λj f hf=>h j f (by rw[aa1,hal];exact (List.getElem?_eq_some_iff.mp hf).1) hf
    ·rw[e1,zo T2.tb];cases b with
     | false=>
      obtain ⟨rfl,_⟩:=bt2 rfl;show 2*μ g2+0 < 2*μ g2+1
      omega
     | true=>
      have:=bf2 rfl;show 2*μ g2+1 < 2*μ g1+1
      omega
 ·intro σ H1 Q1 Q2 h c;simp only[j6,tB,ja] at c ⊢;obtain ⟨v,hv,cc,e,hq⟩:=c;exact ⟨v,hv,cc,e,h _ _ hq⟩
noncomputable abbrev jf:Stmt:=top 30
theorem Ct:az ["fits","least","found","rule","place","keys"] ["fits","least"] (ah jf):=⟨rfl,rfl,rfl,by decide+kernel,rfl,by decide+kernel,by decide+kernel⟩
theorem Ha (G:Gs w K mg) (h_law_cost:Has P w K mg base k "_law_cost" ["rule","keys","least"] n8) (D:Def K mg "_law_reaching" jf ["fits","least"]):Has P w K mg base (k+1) "_law_reaching" ["fits","least"] pq:=by
 refine D.has Ct (λvs H Q E h=>?_) (λf cdv A outer s H vs Q E hr h=>?_)
 ·obtain ⟨_,_,_,_,_,_,rfl,_,_,_,_,_,_,_⟩:=h;rfl
 have nd:=Ct.nd;have hu:=b9 hr;have hu0:=aai hu;have hu8:=Dh hr;obtain ⟨fl,d,as,fs,g,ks,rfl,hF,hFs,hn,hT,hk,T,q⟩:=h;have m_dict:=G.m_dict;refine ⟨_,(A5 (A7 2 nd (AZ (@mq _ hu8) m_dict b_dict (A1 (@Kn _ _ _ (BU (BL ["key"] [] [] trivial trivial) (@Ml _ _ _ _ (A0 1)) (λ_ _ _=>(BE 0 (show ac2 (["key"]:List Str) by decide+kernel))) (λ_ _ _=>(@pif0 _)) (λ_ _ _=>(AI (A1 (A0 0) (A1 (AC (A3 0)) (A3 0))))))) (A3 0)))) (A5 (AY (BD (A0 0)) (BS (AW (AJ 3 nd (by first | exact ab5 rfl | exact ab7 rfl)) (AW (AJ 4 nd (by first | exact ab5 rfl | exact ab7 rfl)) (AW (AJ 5 nd (by first | exact ab5 rfl | exact ab7 rfl)) (BO 0))))) (A6 (AE (AB (AR 0) (AG h_law_cost hr (A1 (A0 3) (A1 (A0 5) (A1 (A0 1) (A3 0))))) (AU PySem.F.plainAttrs_dict PySem.F.slot_dict_get PySem.F.type_dict_get (@K4 _ hu) (A0 1) (A1 (AI (A1 (A0 4) (A1 (A8 (AF 0) (A0 3) (A2 0)) (A3 0)))) (A1 (BZ (@jj _) (A2 0)) (A3 0)))) (AA 0)) (A6 (AS (AU PySem.F.plainAttrs_list PySem.F.slot_list_append PySem.F.type_list_append (AV 0) (BC hu (A0 2) (AI (A1 (A0 4) (A1 (A8 (AF 0) (A0 3) (A2 0)) (A3 0))))) (A1 (A8 (AF 0) (A0 3) (A2 0)) (A3 0))))) (AT 0)))) (A6 (AD (A0 2))))),?_⟩;rw[show start ["fits","least","found","rule","place","keys"] [.ref fl,.ref d]=[some (.ref fl),some (.ref d),none,none,none,none] from rfl];clear hu hu0 nd hr;push_cast [K7,Lg];have sz:=sizeLine_eq;have hal:=hFs.1;have hm:=hT.mem;obtain ⟨kvs,hd,hks,nd,hv⟩:=id hT;have kl:kvs.length=ks.length:=by
  have:=congrArg ac0 hks;rw[aa1,aa1] at this;exact this
 have ats:∀(i:Nat) (k:List Key) (v:V),kvs[i]?=some (k,v)→∃k',ks[i]?=some k'∧k=kyK k':=λi k v hi=>by
  have e:=congrArg (λl=>l[i]?) hks;simp only[aa7,hi,abw] at e;obtain ⟨k',h1,h2⟩:=Option.map_eq_some_iff.mp e.symm;exact ⟨k',h1,h2.symm⟩
 refine ⟨d,kvs,hd,kvs,hd,λo D hDn=>Kp (λi ys H1=>∃cs ls:List Addr,ys=cs.map V.ref∧Cj H H1 D ks i cs ls) (λi ys H1 H2 s h=>by obtain ⟨cs,ls,h1,h2⟩:=h;exact ⟨cs,ls,h1,h2.mono s⟩) ae (by omega) hDn ⟨[],[],rfl,rfl,rfl,acv,λj k h=>absurd h (acb _)⟩ (λi t k v ys H1 G' K' hi ht hP hys hl2 hS hG hK=>?_) λys H2 hP hl2 hS hD2=>?_⟩
 ·obtain ⟨k',hk',rfl⟩:=ats i k v hi;obtain ⟨cs,ls,rfl,hP⟩:=hP;have ht:H1 t=some (kyT k'):=ht;push_cast [and_true];refine ⟨aa8 _,λl hl=>⟨by show (2:Nat)≤sizeLine;decide,λc hc=>?_⟩⟩;have s2:=(aa hl (.lst [])).trans (aa hc (.tup [V.ref t,V.ref l]));have fl1:upd H d (.frz o (.dT kvs)) l=none:=hS.free hl;have nld:l≠d:=λz=>by rw[z,ae] at fl1;cases fl1
  have fc1:=(aa hl (.lst [])).free hc;refine hK _ _ s2 ⟨cs++[c],ls++[l],by rw[aaa];rfl,Cj.snoc (by rw[←kl];exact (List.getElem?_eq_some_iff.mp hi).1) hP hk' s2 hl (by rw[af nld] at fl1;exact fl1) (ag hys fc1).symm (df ht hys (by intro z;cases z)) (ag hys hl).symm ae (s2 _ _ ht) (aa hc _ _ _ ae)⟩
 ·obtain ⟨cs,ls,rfl,hP⟩:=hP;rw[kl] at hP;have S3:=Dr hd hS;have fz:H2 d=some (.frz o (.dT kvs)):=hS _ _ ae;have nD:D≠d:=df hD2 fz (by intro z;cases z);have kp:∀(b:Addr) (u:HO),(∀o' x,u≠.frz o' x)→H2 b=some u→upd H2 d (.dT kvs) b=some u:=λb u hu e=>by rw[af (df e fz (hu _ _))];exact e
  have ll:=hP.2.1;refine ⟨⟨o,fz⟩,rfl,cs.map V.ref,by rw[af nD];exact hD2,(ks.zip ls).map λp=>(kyK p.1,V.ref p.2),by rw[aa1,aa1,ado,hP.1,ll,ae5],λi p hi=>?_,λfd hfd=>?_⟩
  ·rw[aa7] at hi;obtain ⟨⟨k,l⟩,hi2,rfl⟩:=Option.map_eq_some_iff.mp hi;obtain ⟨e1,e2⟩:=List.getElem?_zip_eq_some.mp hi2;obtain ⟨c,l',t,h1,h2,_,_,_,_,h7,h8,_⟩:=hP.2.2.2 i k (List.getElem?_eq_some_iff.mp e1).1 e1;obtain rfl:l'=l:=aa3 (h2.symm.trans e2);exact ⟨c,by rw[aa7,h1];rfl,t,kp _ _ (by intro _ _ z;cases z) h7,kp _ _ (by intro _ _ z;cases z) h8⟩
  ·rw[yv _ [] (by rw[ad5,wm ll];exact ly (λa b e=>oy e) nd),ad5];have S4:=S3.trans (aa hfd (.dT ((ks.zip ls).map λp=>(kyK p.1,V.ref p.2))));have hfd0:=S3.free hfd;have R4:RcAt (upd (upd H2 d (.dT kvs)) fd (.dT ((ks.zip ls).map λp=>(kyK p.1,V.ref p.2)))) fd ks ls (dz (fs.take 0) g):=⟨ae,ll,λj k l h1 h2=>by
    obtain ⟨c,l',t,g1,g2,_,_,_,_,g7,g8,g9⟩:=hP.2.2.2 j k (List.getElem?_eq_some_iff.mp h1).1 h1;obtain rfl:l'=l:=aa3 (g2.symm.trans h2);have g9:=kp _ _ (by intro _ _ z;cases z) g9;rw[af (ag g9 hfd)];exact g9⟩
   have lf:∀l∈ls,H l=none:=λl hl=>by
    obtain ⟨j,hj⟩:=List.mem_iff_getElem?.mp hl;have hjl:j < ks.length:=by rw[←ll];exact (List.getElem?_eq_some_iff.mp hj).1
    obtain ⟨_,l',_,_,g2,_,_,_,g6,_⟩:=hP.2.2.2 j _ hjl (aa0 hjl);obtain rfl:l'=l:=aa3 (g2.symm.trans hj);exact g6
   have nl:=hP.2.2.1;generalize upd (upd H2 d (.dT kvs)) fd (.dT ((ks.zip ls).map λp=>(kyK p.1,V.ref p.2)))=H4 at S4 R4 ⊢;obtain ⟨P1,eP1⟩:∃P1:Nat→L2.St→Hp→Prop,∀i σ H',P1 i σ H'↔∃v3 v4 v5:Option V,σ=[some (.ref fl),some (.ref d),some (.ref fd),v3,v4,v5]∧ak H H'∧RcAt H' fd ks ls (dz (fs.take i) g):=⟨_,λ_ _ _=>abo⟩;refine ⟨⟨_,SqL.of (S4 _ _ hF)⟩,dg (xs:=as.map V.ref) P1 ((eP1 _ _ _).mpr ⟨none,none,none,rfl,S4,R4⟩) (λi σ H' _ h=>by obtain ⟨_,_,_,_,s,_⟩:=(eP1 _ _ _).mp h;exact SqL.of (s _ _ hF)) ?_ ?_⟩
   ·intro i y σ H5 hy hh;refine ob3 ((eP1 _ _ _).mp hh) λv3 v4 v5 hh=>?_;have s5:=hh.2.1;have R5:=hh.2.2;obtain rfl:=hh.1;clear hh;rw[aa7] at hy;obtain ⟨a,ha,rfl⟩:=Option.map_eq_some_iff.mp hy;obtain ⟨f,hfi,ra,hl,_,h3,h4,h5⟩:=(hFs.same s5).get ha;have hfm:=aak hfi;have T5:=hT.same s5;refine Cg h3 rfl ?_;push_cast [K8];refine Gm h4 h5 T5.tb ?_;obtain ⟨sa,da,ds,r1,r2,r3⟩:=h4;have en:=Be hfi g;refine ⟨Ii (s5 _ _ hd),au r1 rfl ⟨by show (2:Nat)≤sizeLine;decide,λp hp=>?_⟩⟩;have s6:=aa hp (.tup [V.int (f.place:Int),V.str f.r.kind]);have e6:upd H5 p (.tup [V.int (f.place:Int),V.str f.r.kind]) p=some (kyT (f.place,f.r.kind)):=ae;generalize upd H5 p (.tup [V.int (f.place:Int),V.str f.r.kind])=H6 at s6 e6 ⊢;have T6:=T5.same s6;have R6:=R5.same s6;refine ⟨_,T6.tb.get e6,?_⟩;have no:(∀k∈ks,¬((f.place,f.r.kind)=k∧cost g f.r.price f.hs=g k))→∀w3 w4 w5,P1 (i+1) [some (.ref fl),some (.ref d),some (.ref fd),w3,w4,w5] H6:=λh w3 w4 w5=>(eP1 _ _ _).mpr ⟨w3,w4,w5,rfl,s5.trans s6,R6.congr λk hk=>by rw[en k,if_neg (h k hk),ab1]⟩;cases e:g (f.place,f.r.kind) with
    | none=>
     refine ⟨rfl,?_⟩;have nk:(f.place,f.r.kind)∉ks:=λz=>by have:=(hm _).mp z;rw[e] at this;cases this
     rw[if_neg (λz=>by
      cases e2:cost g f.r.price f.hs with
      | none=>rw[e2] at z;exact absurd (V.int.inj z) (by decide)
      | some c=>
       obtain ⟨v,hv',_⟩:=T.st (ie f) (List.mem_map.mpr ⟨f,hfm,rfl⟩) c e2;rw[show g (ie f).key=g (f.place,f.r.kind) from rfl,e] at hv';cases hv')]
     exact no (λk hk z=>nk (by rw[z.1];exact hk)) _ _ _
    | some v=>
     have vp:=T.pos _ v e;have hkin:=(hm (f.place,f.r.kind)).mpr (by rw[e];rfl);refine ⟨rfl,?_⟩;by_cases c:cost g f.r.price f.hs=some v
     ·rw[if_pos (by rw[c];rfl)];refine au (s6 _ _ r1) rfl ⟨by show (2:Nat)≤sizeLine;decide,λp2 hp2=>?_⟩;have s7:=aa hp2 (.tup [V.int (f.place:Int),V.str f.r.kind]);have e7:upd H6 p2 (.tup [V.int (f.place:Int),V.str f.r.kind]) p2=some (kyT (f.place,f.r.kind)):=ae;generalize upd H6 p2 (.tup [V.int (f.place:Int),V.str f.r.kind])=H7 at s7 e7 ⊢;have R7:=R6.same s7;obtain ⟨j,l,hj,hlj,hG,hL⟩:=R7.get nd e7 hkin;have nle:(dz (fs.take i) g (f.place,f.r.kind)).length≤fs.length:=by
       unfold dz;rw[aa1];exact aay (abf _ _) (by rw[aaw];omega)
      refine ⟨_,hG,av hL,au ((s6.trans s7) _ _ r1) rfl (bb (K:=K) hL (by rw[aa1];omega) ((eP1 _ _ _).mpr ⟨_,_,_,rfl,(s5.trans (s6.trans s7)).upd (lf l (aak hlj)) _,?_⟩)).2⟩;exact R7.put nd nl hj hlj (by rw[en _,if_pos ⟨rfl,by rw[c,e]⟩]) λk' hk' ne=>by rw[en k',if_neg λz=>ne z.1.symm,ab1]
     ·rw[if_neg (λz=>by
       cases e2:cost g f.r.price f.hs with
       | none=>rw[e2] at z;have:(0:Int)=v:=V.int.inj z;omega
       | some c'=>rw[e2] at z;have:c'=v:=V.int.inj z;rw[e2,this] at c;exact c rfl)]
      exact no (λk hk z=>by rw[←z.1,e] at z;exact c z.2) _ _ _
   ·intro σ H5 hh;refine ob3 ((eP1 _ _ _).mp hh) λv3 v4 v5 hh=>?_;have s5:=hh.2.1;have R5:=hh.2.2;obtain rfl:=hh.1;clear hh;push_cast [and_true];rw[aa1,hal,abx] at R5;exact q fd ls H5 s5 hfd0 R5
noncomputable abbrev jt:Stmt:=top 31
theorem Bg:az ["deck","least","reaching","found","key","some"] ["deck","least","reaching"] (ah jt):=⟨rfl,rfl,rfl,by decide+kernel,rfl,by decide+kernel,by decide+kernel⟩
theorem Hl (G:Gs w K mg) (h_law_next:Has P w K mg base k "_law_next" ["deck"] gn) (D:Def K mg "_law_any_table" jt ["deck","least","reaching"]):Has P w K mg base (k+1) "_law_any_table" ["deck","least","reaching"] oj:=by
 refine D.has Bg (λvs H Q E h=>?_) (λf cdv A outer s H vs Q E hr h=>?_)
 ·obtain ⟨_,_,_,_,_,_,_,_,_,_,_,_,rfl,_,_,_,_⟩:=h;rfl
 have nd:=Bg.nd;have hu:=b9 hr;have hu0:=aai hu;obtain ⟨d,b,ld,rd,ns,n,kinds,rs,ws,g,ks,lx,rfl,hD,hn,hL,q⟩:=h;have m_len:=G.m_len;have m_sorted:=G.m_sorted;refine ⟨_,(A5 (A7 3 nd (AC (A3 0))) (A5 (AY (BD (AN (@om _ rfl) m_sorted oz (A1 (A0 1) (A3 0)))) (AJ 4 nd (by first | exact ab5 rfl | exact ab7 rfl)) (A5 (A7 5 nd (BC hu (A0 2) (A0 4))) (A6 (AS (AU PySem.F.plainAttrs_list PySem.F.slot_list_append PySem.F.type_list_append (AV 0) (A0 3) (A1 (A4 (@ua _) (A0 4) (AI (A1 (BC hu (A0 1) (A0 4)) (A1 (A8 (AM 0) (A0 5) (A4 (A9 0) (AG h_law_next hr (A1 (A0 0) (A3 0))) (AN (AX 0) m_len cw (A1 (A0 5) (A3 0))))) (A3 0))))) (A3 0))))))) (A6 (AD (A0 3))))),?_⟩;rw[show start ["deck","least","reaching","found","key","some"] [.ref d,.ref ld,.ref rd]=[some (.ref d),some (.ref ld),some (.ref rd),none,none,none] from rfl];clear hu hu0 nd hr;push_cast [gn,pj];have sz:=sizeLine_eq;have hkl:=hL.k;refine ⟨aa8 _,λfl hfl=>?_⟩;have s1:=aa hfl (.lst []);have f1:upd H fl (.lst []) fl=some (.lst []):=ae;generalize upd H fl (.lst [])=H1 at s1 f1 ⊢;have L1:=hL.same s1;have D1:=hD.same s1;refine Bp L1.l hkl λl is ts hp _ key hl=>?_;have il:is.length=ks.length:=by rw[hp.length_eq,abd]
 have s2:=aa hl (.lst (is.map λi=>V.ref (ts.getD i 0)));have l2:upd H1 l (.lst (is.map λi=>V.ref (ts.getD i 0))) l=some (.lst (is.map λi=>V.ref (ts.getD i 0))):=ae;generalize upd H1 l (.lst (is.map λi=>V.ref (ts.getD i 0)))=H2 at s2 l2 ⊢;have nfd:fl≠d:=(ag hD.1 hfl).symm;have nld:l≠d:=(ag D1.1 hl).symm;have nlf:l≠fl:=(ag f1 hl).symm;have hm:=hL.l.mem;have nd:=hL.l.nd;obtain ⟨P1,eP1⟩:∃P1:Nat→L2.St→Hp→Prop,∀i σ H',P1 i σ H'↔∃(xs:List V) (v4 v5:Option V),σ=[some (.ref d),some (.ref ld),some (.ref rd),some (.ref fl),v4,v5]∧(∀c o,c≠d→c≠fl→H2 c=some o→H' c=some o)∧H' d=some (.lst [.ref b,.int ((n+i:Nat):Int)])∧H' fl=some (.lst xs)∧cz H' xs i:=⟨_,λ_ _ _=>abo⟩;have toB:∀{H':Hp},(∀c o,c≠d→c≠fl→H2 c=some o→H' c=some o)→aq d H H':=λs c o n h=>s c o n (ag h hfl) ((s1.trans s2) c o h);refine ⟨⟨_,SqL.of l2⟩,dg (xs:=is.map λi=>V.ref (ts.getD i 0)) P1 ((eP1 _ _ _).mpr ⟨[],none,none,rfl,λc o _ _ h=>h,(s1.trans s2) _ _ hD.1,s2 _ _ f1,cz.nil _ _⟩) (λi σ H' _ h=>by obtain ⟨_,_,_,_,s,_⟩:=(eP1 _ _ _).mp h;exact SqL.of (s _ _ nld nlf l2)) ?_ ?_⟩
 ·intro i y σ H5 hy hh;refine ob3 ((eP1 _ _ _).mp hh) λxs v4 v5 hh=>?_;have s5:=hh.2.1;have d5:=hh.2.2.1;have f5:=hh.2.2.2.1;have T5:=hh.2.2.2.2;obtain rfl:=hh.1;clear hh;rw[aa7] at hy;obtain ⟨u,hu,rfl⟩:=Option.map_eq_some_iff.mp hy;have hil:i < ks.length:=by rw[←il];exact (List.getElem?_eq_some_iff.mp hu).1
  have hul:u < ks.length:=List.mem_range.mp (hp.mem_iff.mp (aak hu));have k2:=s2 _ _ (key u hul);have kin:ks.getD u (0,"")∈ks:=by rw[aa4,aa0 hul];exact ab3 hul
  generalize ks.getD u (0,"")=k0 at k2 kin;generalize ts.getD u 0=t at k2;obtain ⟨v,hv⟩:=Option.isSome_iff_exists.mp ((hm k0).mp kin);have B5:=toB s5;have D5:cu H5 d b ns (n+i):=hD.next B5 d5
  have L5:=hL.b8 hD B5;have k5:H5 t=some (kyT k0):=s5 _ _ (df k2 ((s1.trans s2) _ _ hD.1) (by intro z;cases z)) (df k2 (s2 _ _ f1) (by intro z;cases z)) k2;push_cast [and_true];obtain ⟨j,lj,hj,hlj,hG1,hL1⟩:=L5.r.get nd k5 kin;refine ⟨_,hG1,av f5,_,L5.l.tb.val k5 hv,⟨d,b,ns,n+i,rfl,D5,by omega,λc H6 s6 d6=>?_⟩⟩;have np:=Hb hL.bk hL.T hv;have l6:=(L5.r.b8 D5 s6).2.2 j k0 lj hj hlj;generalize dz (i5 kinds rs ws) g k0=nms at np l6;have ip:(0:Int) < ((nms.map V.str).length:Nat):=by rw[aa1];omega
  obtain ⟨x,hx,hxm⟩:=b7 (nms.map V.str) (c % ((nms.map V.str).length:Nat)) (aar _ (by omega)) (abm _ ip);obtain ⟨nm,_,rfl⟩:=List.mem_map.mp hxm;refine ⟨_,.inl (SqL.of l6),ip,ao l6 hx ⟨by show (2:Nat)≤sizeLine;decide,λp2 hp2=>?_⟩⟩;have k6:=s6 _ _ (df k5 d5 (by intro z;cases z)) k5;have s7:=aa hp2 (.tup [V.int v,V.str nm]);refine oq (s7 _ _ k6) ae (by show (4:Nat)≤sizeLine;decide) λpc H8 s8 h8=>?_;have s78:=s7.trans s8;have f8:=s78 _ _ (s6 _ _ nfd f5);have il5:=T5.1;refine (bb (K:=K) f8 (by omega) ((eP1 _ _ _).mpr ⟨xs++[.ref pc],_,_,rfl,λc o n1 n2 h=>?_,?_,ae,?_⟩)).2
  ·rw[af n2];exact s78 _ _ (s6 _ _ n1 (s5 _ _ n1 n2 h))
  ·rw[af nfd.symm];exact s78 _ _ d6
  ·have tk:TK H5 (upd H8 fl (.lst (xs++[.ref pc]))):=λa ys e=>by
    have e8:=s78 _ _ (TK.b8 D5 s6 _ _ e);rw[af (df e8 f8 (by intro z;cases z))];exact e8
   refine (T5.tk tk).snoc ⟨pc,⟨k0.1,k0.2,v,nm⟩,rfl,?_⟩;rw[af (df h8 f8 (by intro z;cases z))];exact h8
 ·intro σ H5 hh;refine ob3 ((eP1 _ _ _).mp hh) λxs v4 v5 hh=>?_;have s5:=hh.2.1;have d5:=hh.2.2.1;have f5:=hh.2.2.2.1;have T5:=hh.2.2.2.2;obtain rfl:=hh.1;clear hh;rw[aa1,il] at d5 T5;push_cast [and_true];exact q fl (n+ks.length) H5 (toB s5) d5 (aa6 _) hfl ⟨xs,f5,T5⟩
noncomputable abbrev jw:Stmt:=top 34
theorem Co:az ["table"] ["table"] (ah jw):=⟨rfl,rfl,rfl,by decide+kernel,rfl,by decide+kernel,by decide+kernel⟩
theorem Iw (G:Gs w K mg) (D:Def K mg "_law_lesser" jw ["table"]):Has P w K mg base (k+1) "_law_lesser" ["table"] oh:=by
 refine D.has Co (λvs H Q E h=>?_) (λf cdv A outer s H vs Q E hr h=>?_)
 ·obtain ⟨_,_,rfl,_,_,_⟩:=h;rfl
 have nd:=Co.nd;have hu:=b9 hr;have hu0:=aai hu;obtain ⟨tl,m,rfl,hT,hm,q⟩:=h;have m_max:=G.m_max;refine ⟨_,(A6 (AD (BU (BL ["row"] [] [] trivial trivial) (BD (A0 0)) (λ_ _ _=>(BE 0 (show ac2 (["row"]:List Str) by decide+kernel))) (λ_ _ _=>(@pif0 _)) (λ_ _ _=>(A4 (@ua _) (A4 (@ua _) (B6 (@ik _) (A0 0) (B7 0) (B9 (A2 0))) (AI (A1 (AN (@Hh _ rfl) m_max b_max (A1 (A2 0) (A1 (A4 (B0 0) (A8 (@Nx _ K rfl) (A0 0) (A2 0)) (A2 0)) (A3 0)))) (A3 0)))) (B6 (@ik _) (A0 0) (B9 (A2 0)) (B7 0))))))),?_⟩;rw[show start ["table"] [.ref tl]=[some (.ref tl)] from rfl];clear hu hu0 nd hr;push_cast [and_true];have sz:=sizeLine_eq;obtain ⟨xs,h1,h2⟩:=hT;have xl:=h2.1;refine ⟨⟨_,SqL.of h1⟩,λD hD=>Bc (xs:=xs) (λi ys H'=>cz H' ys i) (λi ys H' H'' tk h=>h.tk tk) (SqL.of h1) (by omega) hD (cz.nil _ _) (λi x ys HA G' K' hx hP hl2 hS' hG hK'=>?_) λys HA hP hl2 hS' hD2=>?_⟩
 ·obtain ⟨a,t,rfl,ha⟩:=h2.2 x (aak hx);have ha:=hS' _ _ ha;push_cast [and_true];refine ⟨a,_,rfl,ha,λp1 H7 s7 h7=>?_⟩;rw[cut2] at h7;have a7:=s7 _ _ ha;refine au a7 rfl ⟨by show (1:Nat)≤sizeLine;decide,λp2 hp2=>?_⟩;generalize (if t.price - 1 > 1 then t.price - 1 else 1)=pr at hp2 ⊢;have s8:=aa hp2 (.tup [V.int pr]);refine oq (s8 _ _ h7) ae (by show (3:Nat)≤sizeLine;decide) λp3 H9 s9 h9=>⟨a,_,rfl,(s8.trans s9) _ _ a7,λp4 HB sB hB=>?_⟩;rw[cut3t] at hB;refine oq (sB _ _ h9) hB (by show (4:Nat)≤sizeLine;decide) λp5 HC sC hC=>?_;have S:=s7.trans (s8.trans (s9.trans (sB.trans sC)));exact hK' _ _ S ((hP.same S).snoc ⟨p5,⟨t.place,t.kind,pr,t.name⟩,rfl,hC⟩)
 ·exact q D HA hS' hD ⟨ys,hD2,hP.mono xl⟩
noncomputable abbrev uj:Stmt:=top 33
theorem J7:az ["table","least","reaching","row"] ["table","least","reaching"] (ah uj):=⟨rfl,rfl,rfl,by decide+kernel,rfl,by decide+kernel,by decide+kernel⟩
theorem Qv (G:Gs w K mg) (D:Def K mg "_law_due" uj ["table","least","reaching"]):Has P w K mg base (k+1) "_law_due" ["table","least","reaching"] zp:=by
 refine D.has J7 (λvs H Q E h=>?_) (λf cdv A outer s H vs Q E hr h=>?_)
 ·obtain ⟨_,_,_,_,_,_,_,_,_,_,_,rfl,_,_,_,_,_⟩:=h;rfl
 have nd:=J7.nd;have hu:=b9 hr;have hu0:=aai hu;have hu8:=Dh hr;obtain ⟨tl,ld,rd,ts,tab,kinds,rs,ws,g,ks,lx,rfl,hF,hTr,htl,hL,q⟩:=h;have m_sorted:=G.m_sorted;refine ⟨_,(A5 (AE (AB (E1 hu8) (BU (BL ["row"] [] [] trivial trivial) (BD (A0 0)) (λ_ _ _=>(BE 0 (show ac2 (["row"]:List Str) by decide+kernel))) (λ_ _ _=>(@pif0 _)) (λ_ _ _=>(B6 (@ik _) (A0 0) (B7 0) (B9 (A2 0))))) (AN (@om _ rfl) m_sorted oz (A1 (A0 1) (A3 0))) (AA 0)) (A6 (AD (BB 0))) (AT 0)) (A5 (AY (BD (A0 0)) (AJ 3 nd (by first | exact ab5 rfl | exact ab7 rfl)) (A6 (AE (BA (BY (AB (@Cs _) (A8 (AF 0) (A0 3) (A2 0)) (BC hu (A0 1) (B6 (@ik _) (A0 3) (B7 0) (B9 (A2 0)))) (AA 0)) (C3 (BH (@je _) (A8 (AF 0) (A0 3) (A2 0)) (BC hu (A0 2) (B6 (@ik _) (A0 3) (B7 0) (B9 (A2 0)))))))) (A6 (AD (BB 0))) (AT 0)))) (A6 (AD (BB 0))))),?_⟩;rw[show start ["table","least","reaching","row"] [.ref tl,.ref ld,.ref rd]=[some (.ref tl),some (.ref ld),some (.ref rd),none] from rfl];clear hu hu0 nd hr;push_cast [and_true];have sz:=sizeLine_eq;have tl1:=hTr.1;refine ⟨⟨_,SqL.of hF⟩,λD hD=>Bc (xs:=ts.map V.ref) (λi ys H'=>∃cs:List Addr,ys=cs.map V.ref∧iz H' cs ((tab.take i).map Ep)) (λi ys H' H'' tk h=>by obtain ⟨cs,h1,h2⟩:=h;exact ⟨cs,h1,zk h2 tk⟩) (SqL.of hF) (by rw[aa1];omega) hD ⟨[],rfl,Jy _⟩ (λi x ys HA G' K' hx hP hl2 hS' hG hK'=>?_) λys HA hP hl2 hS' hD2=>?_⟩
 ·rw[aa7] at hx;obtain ⟨a,ha,rfl⟩:=Option.map_eq_some_iff.mp hx;have hil:i < tab.length:=by rw[←tl1];exact (List.getElem?_eq_some_iff.mp ha).1
  obtain ⟨a',ha',e⟩:=hTr.2 i _ (aa0 hil);obtain rfl:a'=a:=aa3 (ha'.symm.trans ha);obtain ⟨cs,rfl,hc⟩:=hP;push_cast [and_true];refine ⟨a',_,rfl,hS' _ _ e,λp1 H7 s7 h7=>hK' _ _ s7 ⟨cs++[p1],by rw[aaa];rfl,?_⟩⟩;rw[cut2] at h7;rw[abh,aa0 hil,aaa];exact Hi (zk hc (TK.of s7)) h7
 ·obtain ⟨cs,rfl,hc⟩:=hP;rw[aa1,tl1,abx] at hc;have L1:=hL.same hS';refine Bp L1.l hL.k λl is us hp hs key hl=>?_;have kr:=Io hL.bk hL.T L1.l.nd L1.l.mem hp hs;have s2:=aa hl (.lst (is.map λi=>V.ref (us.getD i 0)));have l2:upd HA l (.lst (is.map λi=>V.ref (us.getD i 0))) l=some (.lst (is.map λi=>V.ref (us.getD i 0))):=ae;generalize upd HA l (.lst (is.map λi=>V.ref (us.getD i 0)))=H2 at s2 l2 ⊢;have tp:iz H2 (is.map λi=>us.getD i 0) ((rowsOf kinds rs ws g).map Ce):=by
   have e:(rowsOf kinds rs ws g).map Ce=is.map λi=>kyK (ks.getD i (0,"")):=by
    have:=congrArg (adi kyK) kr;rw[ac5,ac5] at this;exact this.symm
   rw[e];refine ⟨by rw[aa1,aa1],λj x hx=>?_⟩;rw[aa7] at hx;obtain ⟨u,hu,rfl⟩:=Option.map_eq_some_iff.mp hx;exact ⟨us.getD u 0,by rw[aa7,hu];rfl,s2 _ _ (key u (List.mem_range.mp (hp.mem_iff.mp (aak hu))))⟩
  have S2:=hS'.trans s2;refine ⟨D,l,cs,is.map λi=>us.getD i 0,tab.map Ep,(rowsOf kinds rs ws g).map Ce,rfl,rfl,s2 _ _ hD2,by rw[l2,ac5];rfl,zk hc (TK.of s2),tp,?_⟩;by_cases e:tab.map Ep=(rowsOf kinds rs ws g).map Ce
  ·refine ifN (by simp[e]) ?_;obtain ⟨le,ke⟩:=Jf e;obtain ⟨P1,eP1⟩:∃P1:Nat→L2.St→Hp→Prop,∀i σ H',P1 i σ H'↔∃v3:Option V,σ=[some (.ref tl),some (.ref ld),some (.ref rd),v3]∧ak H H'∧∀(j:Nat) (t:Tr) (r:Rw),j < i→tab[j]?=some t→(rowsOf kinds rs ws g)[j]?=some r→trOk t r:=⟨_,λ_ _ _=>abo⟩;refine ⟨⟨_,SqL.of (S2 _ _ hF)⟩,dg (xs:=ts.map V.ref) P1 ((eP1 _ _ _).mpr ⟨none,rfl,S2,λj t r h=>absurd h (acb _)⟩) (λi σ H' _ h=>by obtain ⟨_,_,s,_⟩:=(eP1 _ _ _).mp h;exact SqL.of (s _ _ hF)) ?_ ?_⟩
   ·intro i y σ H5 hy hh;obtain ⟨v3,rfl,s5,ok5⟩:=(eP1 _ _ _).mp hh;rw[aa7] at hy;obtain ⟨a,ha,rfl⟩:=Option.map_eq_some_iff.mp hy;have hil:i < tab.length:=by rw[←tl1];exact (List.getElem?_eq_some_iff.mp ha).1
    have hti:tab[i]?=some tab[i]:=aa0 hil;obtain ⟨a',ha',e4⟩:=hTr.2 i _ hti;obtain rfl:a'=a:=aa3 (ha'.symm.trans ha);have hri:(rowsOf kinds rs ws g)[i]?=some ((rowsOf kinds rs ws g)[i]'(by omega)):=aa0 (by omega);obtain ⟨e1,e2⟩:=ke i _ _ hti hri;generalize tab[i]=t at hti e4 e1 e2;generalize (rowsOf kinds rs ws g)[i]'(by omega)=r at hri e1 e2;obtain ⟨m1,m2,m3⟩:=vb (aak hri);have no:¬trOk t r→∀H',ak H H'→Q (.bl false) H':=λh H' s'=>q false H' s' ⟨(λz=>nomatch z),λz=>absurd (z.2 i t r hti hri) h⟩;push_cast [and_true];have kin:ee r∈ks:=(hL.l.mem _).mpr (by show (g (r.place,r.kind)).isSome=true;rw[m2];rfl);refine au (s5 _ _ e4) rfl ⟨a',_,rfl,s5 _ _ e4,λp1 H6 s6 h6=>?_⟩;rw[cut2,e1,e2] at h6;have S6:=s5.trans s6;refine ⟨_,(hL.same S6).l.tb.val (k:=ee r) h6 m2,rfl,?_⟩;by_cases c1:t.price=r.price
    ·refine ifN (by simp[c1]) (au (S6 _ _ e4) rfl ⟨a',_,rfl,S6 _ _ e4,λp2 H7 s7 h7=>?_⟩);rw[cut2,e1,e2] at h7;have S7:=S6.trans s7;obtain ⟨j,lj,hj,hlj,hG,hLj⟩:=(hL.same S7).r.get (k:=ee r) hL.l.nd h7 kin;rw[show dz (i5 kinds rs ws) g (ee r)=r.names by unfold ee;rw[Ay m2 m1,←m3]] at hLj;refine ⟨_,hG,lj,r.names.map V.str,rfl,.inl (SqL.of hLj),rfl,List.all_eq_true.mpr (λx hx=>by obtain ⟨z,_,rfl⟩:=List.mem_map.mp hx;rfl),?_⟩;have ei:inV (.str t.name) (r.names.map V.str)=decide (t.name∈r.names):=o9 (kinds:=r.names) ⟨Sum.inr t.name,rfl⟩;by_cases m:t.name∈r.names
     ·refine ifN (by rw[ei];simp[m]) ?_;refine (eP1 _ _ _).mpr ⟨_,rfl,S7,λj t' r' hj ht hr'=>?_⟩;by_cases c2:j < i
      ·exact ok5 j t' r' c2 ht hr'
      ·obtain rfl:j=i:=by omega
       obtain rfl:t=t':=aa3 (hti.symm.trans ht);obtain rfl:r=r':=aa3 (hri.symm.trans hr');exact ⟨e1,e2,c1,m⟩
     ·refine ifY (by rw[ei];simp[m]) ?_;exact no (λz=>m z.2.2.2) _ S7
    ·refine ifY (by simp[c1]) ?_;exact no (λz=>c1 z.2.2.1) _ S6
   ·intro σ H5 hh;obtain ⟨v3,rfl,s5,ok5⟩:=(eP1 _ _ _).mp hh;push_cast [and_true];refine q true H5 s5 ⟨λ_=>⟨le,λj t r h1 h2=>ok5 j t r ?_ h1 h2⟩,λ_=>rfl⟩;rw[aa1,tl1];exact (List.getElem?_eq_some_iff.mp h1).1
  ·refine ifY (by simp[e]) ?_;exact q false _ S2 ⟨(λz=>nomatch z),λz=>absurd z.keys e⟩
noncomputable abbrev ic:Stmt:=top 32
theorem yg:az ["deck","table","book","names","cell","way","more","at","place","kind","price","name","row","there","some"] ["deck","table","book","names"] (ah ic):=⟨rfl,rfl,rfl,by decide+kernel,rfl,by decide+kernel,by decide+kernel⟩
theorem hasChanged (G:Gs w K mg) (h_law_next:Has P w K mg base k "_law_next" ["deck"] gn) (D:Def K mg "_law_changed" ic ["deck","table","book","names"]):Has P w K mg base (k+1) "_law_changed" ["deck","table","book","names"] lz:=by
 refine D.has yg (λvs H Q E h=>?_) (λf cdv A outer s H vs Q E hr h=>?_)
 ·obtain ⟨_,_,_,_,_,_,_,_,_,_,_,rfl,_,_,_,_,_,_,_,_,_⟩:=h;rfl
 have nd:=yg.nd;have hu:=b9 hr;have hu0:=aai hu;obtain ⟨d,b,tl,bt,nl,ns,n,m,kinds,rs,zs,rfl,hD,hn,hT,hm,hB,bk,hr1,hN,q⟩:=h;have m_len:=G.m_len;have m_list:=G.m_list;have m_sorted:=G.m_sorted;refine ⟨_,(A5 (A7 4 nd (AG h_law_next hr (A1 (A0 0) (A3 0)))) (A5 (A7 5 nd (A4 (A9 0) (A0 4) (A2 0))) (A5 (A7 6 nd (A4 (AQ 0) (A0 4) (A2 0))) (A5 (AE (AB (@Nb _ hu0) (A0 1) (AC (A3 0)) (AA 0)) (A6 (AD (AC (A1 (AI (A1 (A4 (A9 0) (A0 6) (A2 0)) (A1 (A8 (AF 0) (A8 (AF 0) (A0 2) (A2 0)) (A2 0)) (A1 (A4 (AK 0) (A2 0) (A4 (A9 0) (A0 6) (A2 0))) (A1 (A8 (AF 0) (A8 (AF 0) (A8 (AF 0) (A0 2) (A2 0)) (A2 0)) (A2 0)) (A3 0)))))) (A3 0))))) (AT 0)) (A5 (A7 7 nd (A4 (A9 0) (A0 6) (AN (AX 0) m_len cw (A1 (A0 1) (A3 0))))) (A5 (C7 (A8 (AM 0) (A0 1) (A0 7)) (BS (AW (AJ 8 nd (by first | exact ab5 rfl | exact ab7 rfl)) (AW (AJ 9 nd (by first | exact ab5 rfl | exact ab7 rfl)) (AW (AJ 10 nd (by first | exact ab5 rfl | exact ab7 rfl)) (AW (AJ 11 nd (by first | exact ab5 rfl | exact ab7 rfl)) (BO 0))))))) (BI (AE (AB (AR 0) (A0 5) (A2 0) (AA 0)) (A6 (A7 12 nd (AI (A1 (A4 (AK 0) (A0 8) (A8 (AM 0) (AC (A1 (A2 0) (A1 (BZ (@jj _) (A2 0)) (A1 (A2 0) (A3 0))))) (A4 (A9 0) (A0 6) (A2 0)))) (A1 (A0 9) (A1 (A0 10) (A1 (A0 11) (A3 0)))))))) (A6 (AE (AB (AR 0) (A0 5) (A2 0) (AA 0)) (A6 (A7 12 nd (AI (A1 (A0 8) (A1 (A8 (AM 0) (AC (A1 (A8 (AF 0) (A8 (AF 0) (A0 2) (A2 0)) (A4 (A9 0) (A4 (AQ 0) (A0 6) (A2 0)) (AN (AX 0) m_len cw (A1 (A8 (AF 0) (A0 2) (A2 0)) (A3 0))))) (A1 (A8 (AM 0) (A0 3) (A2 0)) (A3 0)))) (A4 (AQ 0) (A4 (A9 0) (A0 6) (A2 0)) (A2 0))) (A1 (A0 10) (A1 (A0 11) (A3 0)))))))) (A6 (AE (AB (AR 0) (A0 5) (A2 0) (AA 0)) (A6 (A7 12 nd (AI (A1 (A0 8) (A1 (A0 9) (A1 (A4 (AK 0) (A0 10) (A8 (AM 0) (AC (A1 (A2 0) (A1 (BZ (@jj _) (A2 0)) (A1 (A4 (@iu _) (A2 0) (A2 0)) (A1 (A4 (B0 0) (A2 0) (A0 10)) (A3 0)))))) (A4 (A9 0) (A4 (AQ 0) (A0 6) (A2 0)) (A2 0)))) (A1 (A0 11) (A3 0)))))))) (A6 (AE (AB (@ni _) (A0 5) (A2 0) (AA 0)) (A6 (A7 12 nd (AI (A1 (A0 8) (A1 (A0 9) (A1 (A0 10) (A1 (A8 (AM 0) (AC (A1 (A8 (AF 0) (A8 (AF 0) (A8 (AF 0) (A0 2) (A2 0)) (A4 (A9 0) (A4 (AQ 0) (A0 6) (A2 0)) (AN (AX 0) m_len cw (A1 (A8 (AF 0) (A0 2) (A2 0)) (A3 0))))) (A2 0)) (A1 (A0 9) (A3 0)))) (A4 (AQ 0) (A4 (A9 0) (A0 6) (A2 0)) (A2 0))) (A3 0)))))))) (A6 (AE (AB (AR 0) (A0 5) (A2 0) (AA 0)) (A6 (AD (A4 (@mz _) (B6 (BN 0) (A0 1) (B7 0) (B9 (A0 7))) (B6 (BN 0) (A0 1) (B9 (A4 (AK 0) (A0 7) (A2 0))) (B7 0))))) (A6 (AE (AB (AR 0) (A0 5) (A2 0) (AA 0)) (A6 (AD (A4 (@mz _) (A4 (@mz _) (B6 (BN 0) (A0 1) (B7 0) (B9 (A0 7))) (AC (A1 (A8 (AM 0) (A0 1) (A0 7)) (A3 0)))) (B6 (BN 0) (A0 1) (B9 (A0 7)) (B7 0))))) (A6 (AE (AB (AR 0) (A0 5) (A2 0) (AA 0)) (A5 (A7 13 nd (A4 (A9 0) (A4 (AK 0) (A0 7) (A2 0)) (AN (AX 0) m_len cw (A1 (A0 1) (A3 0))))) (A5 (A7 14 nd (AZ (@ow _) m_list Dt (A1 (A0 1) (A3 0)))) (A5 (C7 (AI (A1 (A8 (AM 0) (A0 1) (A0 13)) (A1 (A8 (AM 0) (A0 1) (A0 7)) (A3 0)))) (BS (AW (C8 (A0 14) (A0 7) (@set_list _)) (AW (C8 (A0 14) (A0 13) (@set_list _)) (BO 0))))) (A6 (AD (A0 14)))))) (A6 (AD (AN (@og _) m_sorted oz (A1 (A4 (@mz _) (A0 1) (AC (A1 (AI (A1 (A4 (A9 0) (A4 (AQ 0) (A0 6) (A2 0)) (A2 0)) (A1 (A8 (AF 0) (A8 (AF 0) (A0 2) (A2 0)) (A4 (A9 0) (A0 6) (AN (AX 0) m_len cw (A1 (A8 (AF 0) (A0 2) (A2 0)) (A3 0))))) (A1 (A4 (AK 0) (A2 0) (A4 (A9 0) (A0 6) (A2 0))) (A1 (A0 11) (A3 0)))))) (A3 0)))) (A3 0)))))))))))))))))) (A6 (AD (A4 (@mz _) (A4 (@mz _) (B6 (BN 0) (A0 1) (B7 0) (B9 (A0 7))) (AC (A1 (A0 12) (A3 0)))) (B6 (BN 0) (A0 1) (B9 (A4 (AK 0) (A0 7) (A2 0))) (B7 0)))))))))))),?_⟩;rw[show start ["deck","table","book","names","cell","way","more","at","place","kind","price","name","row","there","some"] [.ref d,.ref tl,.ref bt,.ref nl]=[some (.ref d),some (.ref tl),some (.ref bt),some (.ref nl),none,none,none,none,none,none,none,none,none,none,none] from rfl];clear hu hu0 nd hr;push_cast [and_true];have sz:=sizeLine_eq;have ntd:=hT.ne hD;obtain ⟨xs,x1,x2⟩:=hT;refine ⟨d,b,ns,n,rfl,hD,by omega,λc H1 s1 d1=>?_⟩;have t1:H1 tl=some (.lst xs):=s1 _ _ ntd x1;have X1:cz H1 xs m:=x2.tk (TK.b8 hD s1);have B1:=hB.keep (dv hD s1);have N1:=hN.b8 hD s1;refine ⟨by decide,by decide,by decide,aa8 _,λp hp=>?_⟩;have s2:=aa hp (.lst []);have p2:upd H1 p (.lst []) p=some (.lst []):=ae;generalize upd H1 p (.lst [])=H2 at s2 p2 ⊢;have t2:=s2 _ _ t1;have X2:=X1.same s2;have N2:=N1.same s2;obtain ⟨kt,rt,ra,b1,b2,b3,b4⟩:=B1.same s2;have q2:∀(l:Addr) (H':Hp),ak H2 H'→H2 l=none→TabAt H' l (2*m+1)→Q (.ref l) H':=λl H' s' hl h=>q l H' (s1.trans (aq.of (s2.trans s'))) ((s2.trans s') _ _ d1) (s1.free d1 (s2.free hl)) h;clear q s1 d1 hp t1 X1 B1 N1 s2 H1 x1 x2 hB hN hD;have kp:0 < kinds.length:=by
  have:=bk.rk _ (ab3 (show 0 < rs.length by omega));exact List.length_pos_of_mem this
 have al:=b4.1;have kn:∀i:Int,∃z,atI (kinds.map V.str) (i % ((kinds.map V.str).length:Nat))=some (.str z):=λi=>by
  have ip:(0:Int) < ((kinds.map V.str).length:Nat):=by rw[aa1];omega
  obtain ⟨x,hx,hxm⟩:=b7 (kinds.map V.str) (i % ((kinds.map V.str).length:Nat)) (aar _ (by omega)) (abm _ ip);obtain ⟨z,_,rfl⟩:=List.mem_map.mp hxm;exact ⟨z,hx⟩
 have rn:∀(i:Int) (h0:0≤i) (h1:i < ((ra.map V.ref).length:Nat)),∃(a:Addr) (r:Rl),atI (ra.map V.ref) i=some (.ref a)∧fj H2 a r:=λi h0 h1=>by
  obtain ⟨x,hx,hxm⟩:=b7 (ra.map V.ref) i h0 h1;obtain ⟨a,ha,rfl⟩:=List.mem_map.mp hxm;obtain ⟨j,hj⟩:=List.mem_iff_getElem?.mp ha;have hjl:j < rs.length:=by rw[←al];exact (List.getElem?_eq_some_iff.mp hj).1
  obtain ⟨a',h1',h2'⟩:=b4.2 j _ (aa0 hjl);obtain rfl:a'=a:=aa3 (h1'.symm.trans hj);exact ⟨a',_,hx,h2'⟩
 refine ⟨tl,p,xs,rfl,rfl,SqL.of t2,SqL.of p2,?_⟩;by_cases e0:xs.isEmpty=true
 ·refine ifY (by simp[e0]) ?_;obtain ⟨z,hz⟩:=kn 0;rw[Int.zero_emod] at hz;obtain ⟨a,r,ha,sa,da,ds,r1,r2,r3⟩:=rn 0 (by omega) (by rw[aa1];omega);refine au b1 rfl (au b2 hz (au b1 rfl (au b3 ha (au r1 rfl ⟨by show (4:Nat)≤sizeLine;decide,λp3 hp3=>⟨by show (1:Nat)≤sizeLine;decide,λp4 hp4=>?_⟩⟩))));have s3:=aa hp3 (.tup [V.int (c / 9 % 3),V.str z,V.int (1+c / 9 % 9),V.str r.name]);have s4:=aa hp4 (.lst [V.ref p3]);exact q2 p4 _ (s3.trans s4) (s3.free hp4) ⟨_,ae,(cz.one ⟨p3,⟨c / 9 % 3,z,1+c / 9 % 9,r.name⟩,rfl,s4 _ _ ae⟩).mono (by omega)⟩
 refine ifN (by simpa using e0) ?_;have xp:0 < xs.length:=by
  cases xs with
  | nil=>exact absurd rfl e0
  | cons _ _=>exact aet _
 have ip:(0:Int) < (xs.length:Nat):=by omega
 have row:∀i:Int,0≤i→i < (xs.length:Nat)→∃(a:Addr) (t:Tr),atI xs i=some (.ref a)∧H2 a=some (.tup [.int t.place,.str t.kind,.int t.price,.str t.name]):=λi h0 h1=>by
  obtain ⟨x,hx,hxm⟩:=b7 xs i h0 h1;obtain ⟨a,t,rfl,ha⟩:=X2.2 x hxm;exact ⟨a,t,hx,ha⟩
 obtain ⟨a,t,ha,h4⟩:=row (c / 9 % (xs.length:Nat)) (aar _ (by omega)) (abm _ ip);refine ⟨xs,.inl (SqL.of t2),ip,ao t2 ha (Ck h4 rfl ?_)⟩;generalize hat:c / 9 % (xs.length:Nat)=at' at ha ⊢;generalize c / 9=more at hat ⊢;generalize c % 9=way;have three:∀(H5:Hp) (pr p3 p4:Addr) (hi:Int),ak H2 H5→qo H5 (.ref pr)→H5 p3=none→upd H5 p3 (.lst (cn xs none (some at'))) p4=none→rCat (V.ref p3) (V.ref p4) (upd (upd H5 p3 (.lst (cn xs none (some at')))) p4 (.lst [V.ref pr])) λx H1=>∃x_1,SqL K H1 tl x_1∧∀p,H1 p=none→rCat x (V.ref p) (upd H1 p (.lst (cn x_1 (some hi) none))) Q:=λH5 pr p3 p4 hi s5 R5 hp3 hp4=>by
  have s3:=aa hp3 (.lst (cn xs none (some at')));have s4:=aa hp4 (.lst [V.ref pr]);have c1:=dm xs none (some at');have c2:=dm xs (some hi) none;have xm:=X2.1;refine ⟨p3,p4,_,_,rfl,rfl,s4 _ _ ae,ae,by rw[aa9];omega,λp6 hp6=>?_⟩;have s6:=aa hp6 (.lst (cn xs none (some at')++[V.ref pr]));have S6:=s5.trans (s3.trans (s4.trans s6));have e6:upd (upd (upd H5 p3 (.lst (cn xs none (some at')))) p4 (.lst [V.ref pr])) p6 (.lst (cn xs none (some at')++[V.ref pr])) p6=some (.lst (cn xs none (some at')++[V.ref pr])):=ae;have R6:=R5.tk (TK.of (s3.trans (s4.trans s6)));generalize upd (upd (upd H5 p3 (.lst (cn xs none (some at')))) p4 (.lst [V.ref pr])) p6 (.lst (cn xs none (some at')++[V.ref pr]))=H6 at S6 e6 R6 ⊢;refine ⟨xs,SqL.of (S6 _ _ t2),λp7 hp7=>?_⟩;have s7:=aa hp7 (.lst (cn xs (some hi) none));refine ⟨p6,p7,_,_,rfl,rfl,s7 _ _ e6,ae,by rw[aa2,aa9];omega,λp8 hp8=>?_⟩;have s8:=aa hp8 (.lst ((cn xs none (some at')++[V.ref pr])++cn xs (some hi) none));have S:=S6.trans (s7.trans s8);exact q2 p8 _ S ((S6.trans s7).free hp8) ⟨_,ae,((((X2.cut none (some at')).same S).append (cz.one (R6.tk (TK.of (s7.trans s8))))).append ((X2.cut (some hi) none).same S)).mono (by omega)⟩
 refine fb (λσ H'=>∃(pr:Addr) (v13 v14:Option V),σ=[some (.ref d),some (.ref tl),some (.ref bt),some (.ref nl),some (.int c),some (.int way),some (.int more),some (.int at'),some (.int t.place),some (.str t.kind),some (.int t.price),some (.str t.name),some (.ref pr),v13,v14]∧ak H2 H'∧qo H' (.ref pr)) ?_ ?_
 ·push_cast [and_true];have fin:∀(H':Hp) (p:Addr) (t':Tr),ak H2 H'→H' p=none→ak H2 (upd H' p (.tup [V.int t'.place,V.str t'.kind,V.int t'.price,V.str t'.name]))∧qo (upd H' p (.tup [V.int t'.place,V.str t'.kind,V.int t'.price,V.str t'.name])) (.ref p):=λH' p t' s' hp=>⟨s'.trans (aa hp _),p,t',rfl,ae⟩;refine ⟨rfl,bu (λ_=>⟨by show (3:Nat)≤sizeLine;decide,λp3 hp3=>?_⟩) λ_=>⟨rfl,bu (λ_=>?_) λ_=>⟨rfl,bu (λ_=>⟨⟨by decide,by decide,by decide⟩,by show (4:Nat)≤sizeLine;decide,λp3 hp3=>?_⟩) λ_=>bu (λ_=>?_) λ_=>⟨rfl,bu (λ_=>?_) λ_=>⟨rfl,bu (λ_=>?_) λ_=>⟨rfl,bu (λ_=>?_) λ_=>?_⟩⟩⟩⟩⟩⟩
  ·obtain ⟨j,hj⟩:=Bo [1,-1,100] (more % 3) (by omega) (by show more % 3 < 3;omega);exact ao ae hj ⟨by show (4:Nat)≤sizeLine;decide,λp4 hp4=>fin _ p4 ⟨t.place+j,t.kind,t.price,t.name⟩ (aa hp3 _) hp4⟩
  ·obtain ⟨z,hz⟩:=kn (more / 7);have nl':=N2.2.1;obtain ⟨z2,hz2⟩:=vq zs 53 (by omega) (by omega);refine au b1 rfl (au b1 rfl ⟨_,.inr (SqT.of b2),by rw[aa1];omega,au b2 hz (ao N2.1 hz2 ⟨by show (2:Nat)≤sizeLine;decide,λp3 hp3=>?_⟩)⟩);obtain ⟨z3,hz3⟩:=vq [z,z2] (more % 5 / 4) (by omega) (by show more % 5 / 4 < 2;omega);exact ao ae hz3 ⟨by show (4:Nat)≤sizeLine;decide,λp4 hp4=>fin _ p4 ⟨t.place,z3,t.price,t.name⟩ (aa hp3 _) hp4⟩
  ·obtain ⟨j,hj⟩:=Bo [1,-1,10 ^ ab6 30,0 - t.price] (more / 5 % 4) (by omega) (by show more / 5 % 4 < 4;omega);exact ao ae hj ⟨by show (4:Nat)≤sizeLine;decide,λp4 hp4=>fin _ p4 ⟨t.place,t.kind,t.price+j,t.name⟩ (aa hp3 _) hp4⟩
  ·have rp:(0:Int) < ((ra.map V.ref).length:Nat):=by rw[aa1];omega
   obtain ⟨a2,r,ha2,sa,da,ds,r1,r2,r3⟩:=rn (more / 3 % ((ra.map V.ref).length:Nat)) (aar _ (by omega)) (abm _ rp);refine au b1 rfl (au b1 rfl ⟨_,.inr (SqT.of b3),rp,au b3 ha2 (au r1 rfl ⟨by show (2:Nat)≤sizeLine;decide,λp3 hp3=>?_⟩)⟩);obtain ⟨z3,hz3⟩:=vq [r.name,t.kind] (more % 7 / 6) (by omega) (by show more % 7 / 6 < 2;omega);exact ao ae hz3 ⟨by show (4:Nat)≤sizeLine;decide,λp4 hp4=>fin _ p4 ⟨t.place,t.kind,t.price,z3⟩ (aa hp3 _) hp4⟩
  ·refine ⟨xs,SqL.of t2,λp3 hp3=>⟨xs,SqL.of (aa hp3 _ _ _ t2),λp4 hp4=>?_⟩⟩;have s4:=aa hp4 (.lst (cn xs (some (at'+1)) none));have s3:=aa hp3 (.lst (cn xs none (some at')));refine ⟨p3,p4,_,_,rfl,rfl,s4 _ _ ae,ae,by have:=dm xs (some (at'+1)) none;have:=dm xs none (some at');have:=X2.1;omega,λp5 hp5=>?_⟩;have S:=s3.trans (s4.trans (aa hp5 (.lst (cn xs none (some at')++cn xs (some (at'+1)) none))));exact q2 p5 _ S ((s3.trans s4).free hp5) ⟨_,ae,(((X2.cut none (some at')).append (X2.cut (some (at'+1)) none)).same S).mono (by omega)⟩
  ·refine ⟨xs,SqL.of t2,λp3 hp3=>?_⟩;have s3:=aa hp3 (.lst (cn xs none (some at')));exact ao (s3 _ _ t2) ha ⟨by show (1:Nat)≤sizeLine;decide,λp4 hp4=>three H2 a p3 p4 at' (ak.refl _) ⟨a,t,rfl,h4⟩ hp3 hp4⟩
  ·refine ⟨xs,.inl (SqL.of t2),ip,xs,.inl (SqL.of t2),λl hl=>?_⟩;have s3:=aa hl (.lst xs);obtain ⟨a2,t',ha2,h42⟩:=row ((at'+1) % (xs.length:Nat)) (aar _ (by omega)) (abm _ ip);refine ao (s3 _ _ t2) ha2 (ao (s3 _ _ t2) ha ⟨by show (2:Nat)≤sizeLine;decide,λp4 hp4=>?_⟩);obtain ⟨j1,i1⟩:=M1 ha;obtain ⟨j2,i2⟩:=M1 ha2;have s4:=aa hp4 (.tup [V.ref a2,V.ref a]);have l4:=s4 _ _ (ae:upd H2 l (.lst xs) l=some (.lst xs));have S4:=s3.trans s4;have e4:upd (upd H2 l (.lst xs)) p4 (.tup [V.ref a2,V.ref a]) p4=some (.tup [V.ref a2,V.ref a]):=ae;generalize upd (upd H2 l (.lst xs)) p4 (.tup [V.ref a2,V.ref a])=H4 at s4 l4 S4 e4 ⊢;refine ⟨p4,_,rfl,SqT.of e4,rfl,_,_,rfl,?_⟩;push_cast [gSub];refine ⟨l,xs,at',j1,rfl,rfl,l4,i1,_,_,rfl,?_⟩;push_cast [gSub];refine ⟨l,xs.set j1 (.ref a2),_,j2,rfl,rfl,ae,by rw[ae9];exact i2,rfl,?_⟩;push_cast [and_true];have S:ak H2 (upd (upd H4 l (.lst (xs.set j1 (.ref a2)))) l (.lst ((xs.set j1 (.ref a2)).set j2 (.ref a)))):=(S4.upd hl _).upd hl _;exact q2 l _ S hl ⟨_,ae,((((X2.set j1 ⟨a2,t',rfl,h42⟩).set j2 ⟨a,t,rfl,h4⟩)).same S).mono (by omega)⟩
  ·push_cast [and_true];have kp':(0:Int) < ((kinds.map V.str).length:Nat):=by rw[aa1];omega
   obtain ⟨z,hz⟩:=kn more;refine au b1 rfl (au b1 rfl ⟨_,.inr (SqT.of b2),kp',au b2 hz ⟨by show (4:Nat)≤sizeLine;decide,λp3 hp3=>⟨by show (1:Nat)≤sizeLine;decide,λp4 hp4=>?_⟩⟩⟩);have s3:=aa hp3 (.tup [V.int (more / 7 % 26),V.str z,V.int (1+more % 20),V.str t.name]);have s4:=aa hp4 (.lst [V.ref p3]);have xm:=X2.1;have R4:qo (upd (upd H2 p3 (.tup [V.int (more / 7 % 26),V.str z,V.int (1+more % 20),V.str t.name])) p4 (.lst [V.ref p3])) (.ref p3):=⟨p3,⟨more / 7 % 26,z,1+more % 20,t.name⟩,rfl,s4 _ _ ae⟩;have S4:=s3.trans s4;have l4:upd (upd H2 p3 (.tup [V.int (more / 7 % 26),V.str z,V.int (1+more % 20),V.str t.name])) p4 (.lst [V.ref p3]) p4=some (.lst [V.ref p3]):=ae;generalize upd (upd H2 p3 (.tup [V.int (more / 7 % 26),V.str z,V.int (1+more % 20),V.str t.name])) p4 (.lst [V.ref p3])=H4 at R4 S4 l4 ⊢;refine ⟨tl,p4,xs,_,rfl,rfl,S4 _ _ t2,l4,by rw[aa9];omega,λp5 hp5=>⟨p5,rfl,?_⟩⟩;have s5:=aa hp5 (.lst (xs++[V.ref p3]));have S5:=S4.trans s5;refine Jo (m:=m+1) ae ((X2.same S5).snoc (R4.tk (TK.of s5))) (by omega) λl is hV hl=>?_;exact q2 l _ (S5.trans (aa hl _)) (S5.free hl) ⟨_,ae,(hV.same (aa hl _)).mono (by omega)⟩
 ·rintro σ H5 ⟨pr,v13,v14,rfl,s5,R5⟩;push_cast [and_true];have t5:=s5 _ _ t2;have X5:=X2.same s5;refine ⟨xs,SqL.of t5,λp3 hp3=>⟨by show (1:Nat)≤sizeLine;decide,λp4 hp4=>?_⟩⟩;exact three H5 pr p3 p4 (at'+1) s5 R5 hp3 hp4
noncomputable abbrev y8:Stmt:=top 35
theorem scLaw:az ["script","deck","cell","names","book","words","fits","least","reaching","tables","k","table","handed","found"] ["script"] (ah y8):=⟨rfl,rfl,rfl,by decide+kernel,rfl,by decide+kernel,by decide+kernel⟩
theorem hasLaw {f:Addr} {fd:FuncData} (G:Gs w K mg) (h_law_any_table:Has P w K mg base k "_law_any_table" ["deck","least","reaching"] oj) (h_law_book:Has P w K mg base k "_law_book" ["deck","names"] y4) (h_law_changed:Has P w K mg base k "_law_changed" ["deck","table","book","names"] lz) (h_law_due:Has P w K mg base k "_law_due" ["table","least","reaching"] zp) (h_law_fits:Has P w K mg base k "_law_fits" ["book","words"] ud) (h_law_least:Has P w K mg base k "_law_least" ["fits"] ox) (h_law_lesser:Has P w K mg base k "_law_lesser" ["table"] oh) (h_law_names:Has P w K mg base k "_law_names" ["deck"] oo) (h_law_next:Has P w K mg base k "_law_next" ["deck"] gn) (h_law_reaching:Has P w K mg base k "_law_reaching" ["fits","least"] pq) (h_law_term:Has P w K mg base k "_law_term" ["deck","names","most"] sk) (h_is_table:Has P w K mg base k "is_table" ["book","words","table"] sj) (F:Fun K "law" "law" y8 f fd):qc P w K mg base CX0 (k+1) f fd ["script"] (Fp K):=by
 refine F.ok scLaw (λvs H Q E h=>?_) (λcdv A outer s H vs Q E hr h=>?_)
 ·obtain ⟨_,_,rfl,_,_,_⟩:=h;rfl
 have nd:=scLaw.nd;have hu:=b9 hr;have hu0:=aai hu;have hu8:=Dh hr;obtain ⟨a,ns,rfl,hA,hn,q⟩:=h;have m_bool:=G.m_bool;have m_isinstance:=G.m_isinstance;have m_list:=G.m_list;have m_range:=G.m_range;refine ⟨_,(A5 (C0 1 nd (AC (A1 (B6 (BN 0) (A0 0) (B7 0) (B9 (A2 0))) (A1 (A2 0) (A3 0))))) (A5 (A7 2 nd (AG h_law_next hr (A1 (AO 1) (A3 0)))) (A5 (A7 3 nd (AG h_law_names hr (A1 (AO 1) (A3 0)))) (A5 (A7 4 nd (AG h_law_book hr (A1 (AO 1) (A1 (A0 3) (A3 0))))) (A5 (A7 5 nd (AG h_law_term hr (A1 (AO 1) (A1 (A0 3) (A1 (A8 (AM 0) (AC (BF (BV (BV (BV (BG 0)))))) (A4 (A9 0) (A0 2) (A2 0))) (A3 0)))))) (A5 (A7 6 nd (AG h_law_fits hr (A1 (A0 4) (A1 (A0 5) (A3 0))))) (A5 (C0 7 nd (AG h_law_least hr (A1 (A0 6) (A3 0)))) (A5 (C0 8 nd (AG h_law_reaching hr (A1 (A0 6) (A1 (AO 7) (A3 0))))) (A5 (@Ar _ _ _ _ _ _ _ _ _ _ _ _ _ _ _ 9 _ _ _ nd rfl (ab5 rfl) (BL ["k"] ["deck","least","reaching"] [1,7,8] (aas rfl (aas rfl (aas rfl trivial))) (aas (aas rfl (aas rfl rfl)) (aas (aas rfl (aas rfl rfl)) (aas (aas rfl (aas rfl rfl)) trivial)))) rfl (BP m_range (A1 (A2 0) (A3 0))) (λ_ _ _=>(BE 0 (show ac2 (["k","deck","least","reaching"]:List Str) by decide+kernel))) (λ_ _ _=>(@pif0 _)) (λ_ _ _=>(AG h_law_any_table hr (A1 (AO 1) (A1 (AO 2) (A1 (AO 3) (A3 0)))))) rfl (by intro _;rfl) (.inl rfl)) (A5 (AS (AU PySem.F.plainAttrs_list PySem.F.slot_list_append PySem.F.type_list_append (AV 0) (A0 9) (A1 (AC (A3 0)) (A3 0)))) (A5 (AS (AU PySem.F.plainAttrs_list PySem.F.slot_list_append PySem.F.type_list_append (AV 0) (A0 9) (A1 (AG h_law_lesser hr (A1 (A8 (AM 0) (A0 9) (A2 0)) (A3 0))) (A3 0)))) (A5 (AY (BP m_range (A1 (A2 0) (A3 0))) (AJ 10 nd (by first | exact ab5 rfl | exact ab7 rfl)) (A6 (AS (AU PySem.F.plainAttrs_list PySem.F.slot_list_append PySem.F.type_list_append (AV 0) (A0 9) (A1 (AG h_law_changed hr (A1 (AO 1) (A1 (A8 (AM 0) (A0 9) (A4 (A9 0) (A0 10) (A2 0))) (A1 (A0 4) (A1 (A0 3) (A3 0)))))) (A3 0)))))) (A5 (AY (BD (A0 9)) (AJ 11 nd (by first | exact ab5 rfl | exact ab7 rfl)) (A5 (A7 12 nd (AZ (@ow _) m_list Dt (A1 (A0 11) (A3 0)))) (A5 (A7 13 nd (AG h_is_table hr (A1 (A0 4) (A1 (A0 5) (A1 (A0 12) (A3 0)))))) (A6 (AE (BA (BY (@Dz _ _ _ _ (BX (AN (C1 0) m_isinstance dr (A1 (A0 13) (A1 (C2 m_bool b_bool) (A3 0)))))) (BY (AB (@Cs _) (A0 13) (AG h_law_due hr (A1 (A0 11) (A1 (AO 7) (A1 (AO 8) (A3 0))))) (AA 0)) (C3 (AB (E1 hu8) (A0 12) (A0 11) (AA 0)))))) (A6 (AD (BB 0))) (AT 0)))))) (A6 (AD (BB 0)))))))))))))))),?_⟩;rw[show start ["script","deck","cell","names","book","words","fits","least","reaching","tables","k","table","handed","found"] [.ref a]=[some (.ref a),none,none,none,none,none,none,none,none,none,none,none,none,none] from rfl];clear hu hu0 nd hr;push_cast [gn,pj];have sz:=sizeLine_eq;obtain ⟨ms,em,hms⟩:=Ln ns none (some 200);refine ⟨ns.map V.int,hA,λp hp=>?_⟩;rw[em];refine ⟨by show (2:Nat)≤sizeLine;decide,λd hd=>⟨p,ms,0,⟨ae,aa hd _ _ _ ae⟩,by decide,λc H1 s1 d1=>?_⟩⟩;have D1:cu H1 d p ms 1:=cu.next ⟨ae,aa hd _ _ _ ae⟩ s1 d1
 refine Mn D1 (by omega) λnl H2 zs s2 d2 N2=>?_;have D2:cu H2 d p ms 2:=D1.next s2 d2
 refine mkBook D2 N2 (by omega) λbt n3 H3 kinds rs s3 d3 hn3 B3 bk hrs=>?_;have D3:=D2.next s3 d3
 have N3:=N2.b8 D2 s3;refine ⟨by show (3:Nat)≤sizeLine;decide,λp4 hp4=>?_⟩;obtain ⟨m,hm1,hm2,hat⟩:∃m:Nat,1≤m∧m≤120∧atI [V.int 3,V.int 12,V.int 25] (c % 3)=some (.int (m:Int)):=by
  rcases (show c % 3=((0:Nat):Int)∨c % 3=((1:Nat):Int)∨c % 3=((2:Nat):Int) by omega) with e | e | e
  ·rw[e];exact ⟨3,by decide,by decide,bo rfl⟩
  ·rw[e];exact ⟨12,by decide,by decide,bo rfl⟩
  ·rw[e];exact ⟨25,by decide,by decide,bo rfl⟩
 have q4:=aa hp4 (.lst [V.int 3,V.int 12,V.int 25]);refine ao ae hat (Qk (D3.same q4) (N3.same q4) hm1 hm2 (by omega) λt n5 H5 ws s5 d5 hn5 ht h5 tw hwl=>?_);have B5:=(B3.same q4).keep (dv (D3.same q4) s5);have D5:=(D3.same q4).next s5 d5
 have N5:=(N3.same q4).b8 (D3.same q4) s5;clear hd hp4 q4 s1 s2 s3 s5 D1 D2 D3 N2 N3 d1 d2 d3;have twl:=tw.len;refine Oq B5 h5 bk tw λfl as H6 s6 hfl f6 F6=>?_;have fl6:(i5 kinds rs ws).length≤12000:=aay (wy kinds rs ws bk.len ws.length) (by omega);have F6':=F6.weak (no':=λ_=>False) λ_ z=>z.elim;refine Kz f6 F6' (by omega) (lf_own bk) λld H7 g ks s7 hld T7 T hkl=>?_;have TT:Tbl (m8 kinds rs ws) g:=T.of_mem (lf_mem kinds rs ws);refine K3 (s7 _ _ f6) (F6'.same s7) (by omega) T7 (by omega) T λrd lx H8 s8 hrd R8=>?_;have S8:=s6.trans (s7.trans s8);have L8:Lst H8 kinds rs ws g ks lx ld rd:=⟨bk,tw,TT,T7.same s8,R8,by omega⟩;have D8:=D5.same S8;have B8:=B5.same S8;have w8:=S8 _ _ h5;have N8:=N5.same S8;clear B5 D5 h5 N5 S8 s6 s7 s8 R8 T7 F6 F6' f6;intro T hT;have nTd:T≠d:=(ag D8.1 hT).symm;refine Ob (λi ys H'=>∃(as:List Addr) (n':Nat),ys=as.map V.ref∧as.length=i∧j7 H' T as∧aq d H8 H'∧H' d=some (.lst [.ref p,.int (n':Int)])∧n'≤n5+i*12000) (by show (2:Nat) < sizeLine;decide) ⟨[],n5,rfl,rfl,⟨ae,λj a e=>by simp at e⟩,aq.of (aa hT _),by rw[af nTd.symm];exact D8.1,by omega⟩ (λi ys HA G' K' hi hP hl2 hD2 hG hK'=>?_) λys HA hP hl2 hD2=>?_
 ·obtain ⟨as,n',rfl,asl,TA,sA,dA,hn'⟩:=hP;have hi:i < 2:=hi;push_cast [and_true];have DA:=D8.next sA dA
  refine Kh DA (by omega) (L8.b8 D8 sA) λl n2 HB sB dB hn2 hl tB=>?_;have TB:=TA.b8 DA nTd sB;have nl:l≠T:=(ag hD2 hl).symm;refine hK' _ HB TB.1 ⟨as++[l],n2,by rw[aaa];rfl,by rw[aa2,asl];rfl,TB.snoc (tB.mono (by rw[asl,if_pos hi];omega)) nl,?_,by rw[af nTd.symm];exact dB,by omega⟩;exact (sA.trans sB).upd hT _
 ·obtain ⟨as,n',rfl,asl,TA,sA,dA,hn'⟩:=hP;have asl:as.length=2:=asl;have hn':n'≤n5+24000:=hn';refine ⟨av TA.1,aa8 _,λe he=>?_⟩;have s1:=aa he (.lst []);have e1:TabAt (upd HA e (.lst [])) e 0:=⟨[],ae,cz.nil _ _⟩;have ne:e≠T:=(ag TA.1 he).symm;have T1:=TA.same s1;have D1:=(D8.next sA dA).same s1;have SB1:=sA.trans (aq.of s1);generalize upd HA e (.lst [])=H1 at s1 e1 T1 D1 SB1 ⊢;refine (bb (K:=K) T1.1 (by rw[aa1];omega) ?_).2;have T2:=T1.snoc (a:=e) (e1.mono (aa8 _)) ne;have SB2:=SB1.upd hT (.lst (as.map V.ref++[.ref e]));have D2:cu (upd H1 T (.lst (as.map V.ref++[.ref e]))) d p ms n':=D8.next SB2 (by rw[af nTd.symm];exact D1.1)
  generalize upd H1 T (.lst (as.map V.ref++[.ref e]))=H2 at T2 SB2 D2 ⊢;obtain ⟨a0,h0⟩:∃a0,as[0]?=some a0:=⟨_,aa0 (by omega)⟩;have h0':(as++[e])[0]?=some a0:=by rw[aae (by omega)];exact h0
  refine ⟨av T2.1,ao T2.1 (bo (j:=0) (v:=.ref a0) (by rw[aa7,h0'];rfl)) (Md (T2.2 0 a0 h0').2 (by decide) λl H3 s3 hl t3=>?_)⟩;have nlT:l≠T:=(ag T2.1 hl).symm;have T3:=T2.same s3;refine (bb (K:=K) T3.1 (by rw[aa1,aa2];simp;omega) ?_).2;have T4:=T3.snoc (a:=l) (t3.mono (by rw[aa2,asl];show (12000:Nat)≤30000;decide)) nlT;have SB4:=(SB2.trans (aq.of s3)).upd hT (.lst ((as++[e]).map V.ref++[.ref l]));have D4:cu (upd H3 T (.lst ((as++[e]).map V.ref++[.ref l]))) d p ms n':=D8.next SB4 (by rw[af nTd.symm];exact s3 _ _ D2.1)
  generalize upd H3 T (.lst ((as++[e]).map V.ref++[.ref l]))=H4 at T4 SB4 D4 ⊢;have al4:(as++[e]++[l]).length=4:=by rw[aa2,aa2,asl];rfl
  generalize as++[e]++[l]=bs at T4 al4;clear T1 T2 T3 e1 s1 D1 D2 SB1 SB2 s3 t3 h0 h0';obtain ⟨P1,eP1⟩:∃P1:Nat→L2.St→Hp→Prop,∀i σ H',P1 i σ H'↔∃(as:List Addr) (v10:Option V),σ=[some (.ref a),some (.ref d),some (.int c),some (.ref nl),some (.ref bt),some (.ref t),some (.ref fl),some (.ref ld),some (.ref rd),some (.ref T),v10,none,none,none]∧as.length=i+4∧j7 H' T as∧aq d H8 H'∧H' d=some (.lst [.ref p,.int ((n'+i:Nat):Int)]):=⟨_,λ_ _ _=>abo⟩;refine fh (n:=6) P1 ((eP1 _ _ _).mpr ⟨bs,none,rfl,al4,T4,SB4,D4.1⟩) ?_ ?_
  ·intro i σ H5 hi hh;refine ob2 ((eP1 _ _ _).mp hh) λcs v10 hh=>?_;have cl:=hh.2.1;have T5:=hh.2.2.1;have SB5:=hh.2.2.2.1;have d5:=hh.2.2.2.2;obtain rfl:=hh.1;clear hh;have D5:=D8.next SB5 d5
   push_cast [and_true];have hj:i % 2 < cs.length:=by omega
   obtain ⟨b0,g0⟩:∃b0,cs[i % 2]?=some b0:=⟨_,aa0 hj⟩;have t0:=(T5.2 _ _ g0).2;rw[if_pos (show i % 2 < 2 by omega)] at t0;refine ⟨av T5.1,ao (v:=.ref b0) T5.1 ?_ (Jh D5 (by omega) t0 (by decide) (B8.keep (dv D8 SB5)) bk hrs (N8.b8 D8 SB5) λl H6 s6 d6 hl t6=>?_)⟩
   ·rw[show ((0:Int)+(i:Int)) % 2=((i % 2:Nat):Int) by omega];exact bo (by rw[aa7,g0];rfl)
   have T6:=T5.b8 D5 nTd s6;refine (bb (K:=K) T6.1 (by rw[aa1];omega) ((eP1 _ _ _).mpr ⟨cs++[l],_,rfl,by rw[aa2,aa9];omega,T6.snoc (t6.mono ?_) (ag T5.1 hl).symm,(SB5.trans s6).upd hT _,by rw[af nTd.symm];exact d6⟩)).2;rw[if_neg (by omega)];decide
  ·intro σ H5 hh;refine ob2 ((eP1 _ _ _).mp hh) λcs v10 hh=>?_;have cl:=hh.2.1;have T5:=hh.2.2.1;have SB5:=hh.2.2.2.1;have d5:=hh.2.2.2.2;obtain rfl:=hh.1;clear hh;have L5:=L8.b8 D8 SB5;have B5:=B8.keep (dv D8 SB5);have w5:=dv D8 SB5 w8;push_cast [and_true];obtain ⟨P2,eP2⟩:∃P2:Nat→L2.St→Hp→Prop,∀i σ H',P2 i σ H'↔∃v11 v12 v13:Option V,σ=[some (.ref a),some (.ref d),some (.int c),some (.ref nl),some (.ref bt),some (.ref t),some (.ref fl),some (.ref ld),some (.ref rd),some (.ref T),v10,v11,v12,v13]∧ak H5 H':=⟨_,λ_ _ _=>abo⟩;refine ⟨⟨_,SqL.of T5.1⟩,dg (xs:=cs.map V.ref) P2 ((eP2 _ _ _).mpr ⟨none,none,none,rfl,ak.refl _⟩) (λi σ H' _ h=>by obtain ⟨_,_,_,_,s⟩:=(eP2 _ _ _).mp h;exact SqL.of (s _ _ T5.1)) ?_ ?_⟩
   ·intro i y σ H6 hy hh;refine ob3 ((eP2 _ _ _).mp hh) λv11 v12 v13 hh=>?_;have s6:=hh.2;obtain rfl:=hh.1;clear hh;rw[aa7] at hy;obtain ⟨b0,g0,rfl⟩:=Option.map_eq_some_iff.mp hy;obtain ⟨xs,x1,x2⟩:=(T5.2 _ _ g0).2.mono (m':=30000) (by split <;> omega);obtain ⟨ts,tab,rfl,tr,tabl⟩:=x2.tr;have x6:=s6 _ _ x1;push_cast [and_true];refine ⟨ts.map V.ref,.inl (SqL.of x6),λhd hhd=>?_⟩;have s7:=aa hhd (.lst (ts.map V.ref));have S7:=s6.trans s7;have h7:upd H6 hd (.lst (ts.map V.ref)) hd=some (.lst (ts.map V.ref)):=ae;generalize upd H6 hd (.lst (ts.map V.ref))=H7 at s7 S7 h7 ⊢;refine Pr (B5.same S7) (S7 _ _ w5) bk tw h7 (tr.same S7) (by omega) λHC g2 c2 s8 T2 hc2=>?_;obtain rfl:g=g2:=TT.eq T2 (Ks bk);have S8:=S7.trans s8;refine ⟨_,.bl c2,true,rfl,ifN (by simp) (mkDueT (S8 _ _ x1) (tr.same S8) (by omega) (L5.same S8) λc3 HD s9 hc3=>⟨rfl,?_⟩)⟩;have ec:c2=c3:=Bool.eq_iff_iff.mpr (hc2.trans hc3.symm);subst ec;have S9:=S8.trans s9;exact ifN (by simp) ⟨hd,b0,ts,ts,tab.map tr4K,tab.map tr4K,rfl,rfl,(s8.trans s9) _ _ h7,S9 _ _ x1,(tr.same S9).rq,(tr.same S9).rq,ifN (by simp) ((eP2 _ _ _).mpr ⟨_,_,_,rfl,S9⟩)⟩
   ·intro σ H6 hh;obtain ⟨v11,v12,v13,rfl,s6⟩:=(eP2 _ _ _).mp hh;push_cast [and_true];exact q H6
end
end K43
namespace K43
open PySem PySem.Spec L2 PyProof.Rows Pc
theorem all_mk {l:PySem.W.OpenLaw} {w:World} {K:PySem.W.Frag} {h:Heap} {mg:Str→Option Value} {fa:Addr} (X:K.In h) (G:h.Ns mainGlobals mg) (hfa:mg "law"=some (.ref fa))
  {f0 f1 f2 f3 f4 f5 f6 f7 f8 f9 f10 f11 f12 f13 f14 f15 f16 f17 f18 f19 f20 f21 f22 f23 f24 f25 f26 f27 f28 f29 f30 g0:Addr} {od0 an0 od1 an1 od2 an2 od3 an3 od4 an4 od5 an5 od6 an6 od7 an7 od8 an8 od9 an9 od10 an10 od11 an11 od12 an12 od13 an13 od14 an14 od15 an15 od16 an16 od17 an17 od18 an18 od19 an19 od20 an20 od21 an21 od22 an22 od23 an23 od24 an24 od25 an25 od26 an26 od27 an27 od28 an28 od29 an29 od30 an30:Option Addr} {sl0 sl1 sl2 sl3 sl4 sl5 sl6 sl7 sl8 sl9 sl10 sl11 sl12 sl13 sl14 sl15 sl16 sl17 sl18 sl19 sl20 sl21 sl22 sl23 sl24 sl25 sl26 sl27 sl28 sl29 sl30:Array (Option Value)} {oc0 kV0 dc0 pm0 cd0 ct0 oc1 kV1 dc1 pm1 cd1 ct1 oc2 kV2 dc2 pm2 cd2 ct2 oc3 kV3 dc3 pm3 cd3 ct3 oc4 kV4 dc4 pm4 cd4 ct4 oc5 kV5 dc5 pm5 cd5 ct5 oc6 kV6 dc6 pm6 cd6 ct6 oc7 kV7 dc7 pm7 cd7 ct7 oc8 kV8 dc8 pm8 cd8 ct8 oc9 kV9 dc9 pm9 cd9 ct9 oc10 kV10 dc10 pm10 cd10 ct10 oc11 kV11 dc11 pm11 cd11 ct11 oc12 kV12 dc12 pm12 cd12 ct12 oc13 kV13 dc13 pm13 cd13 ct13 oc14 kV14 dc14 pm14 cd14 ct14 oc15 kV15 dc15 pm15 cd15 ct15 oc16 kV16 dc16 pm16 cd16 ct16 oc17 kV17 dc17 pm17 cd17 ct17 oc18 kV18 dc18 pm18 cd18 ct18 oc19 kV19 dc19 pm19 cd19 ct19 oc20 kV20 dc20 pm20 cd20 ct20 oc21 kV21 dc21 pm21 cd21 ct21 oc22 kV22 dc22 pm22 cd22 ct22 oc23 kV23 dc23 pm23 cd23 ct23 oc24 kV24 dc24 pm24 cd24 ct24 oc25 kV25 dc25 pm25 cd25 ct25 oc26 kV26 dc26 pm26 cd26 ct26 oc27 kV27 dc27 pm27 cd27 ct27 oc28 kV28 dc28 pm28 cd28 ct28 oc29 kV29 dc29 pm29 cd29 ct29 oc30 kV30 dc30 pm30 cd30 ct30:Value} {dt0x0 dt0x1 dt0x2 dt0x3 du0x0 du0x1 du0x2 du0x3 dp0:Nat} {dh0x0 dh0x1 dh0x2 dh0x3:Int}
  (a0:PySem.W.nsIn K mainGlobals "how_many_below"=some (some (.ref f0)))
  (l0:K.lookup f0=some ⟨oc0,od0,.func (PySem.W.fnOf "how_many_below" "how_many_below" (ay Ee) (aw Ee) (ah Ee) .none kV0 dc0 pm0 an0 cd0 ct0),sl0⟩)
  (c0:PySem.W.codeIn K cd0 "how_many_below"=true)
  (k0:PySem.W.keepIn K (.ref f0)=true)
  (a1:PySem.W.nsIn K mainGlobals "place_behind"=some (some (.ref f1)))
  (l1:K.lookup f1=some ⟨oc1,od1,.func (PySem.W.fnOf "place_behind" "place_behind" (ay jg) (aw jg) (ah jg) .none kV1 dc1 pm1 an1 cd1 ct1),sl1⟩)
  (c1:PySem.W.codeIn K cd1 "place_behind"=true)
  (k1:PySem.W.keepIn K (.ref f1)=true)
  (a2:PySem.W.nsIn K mainGlobals "leaf_letter"=some (some (.ref f2)))
  (l2:K.lookup f2=some ⟨oc2,od2,.func (PySem.W.fnOf "leaf_letter" "leaf_letter" (ay we) (aw we) (ah we) .none kV2 dc2 pm2 an2 cd2 ct2),sl2⟩)
  (c2:PySem.W.codeIn K cd2 "leaf_letter"=true)
  (k2:PySem.W.keepIn K (.ref f2)=true)
  (a3:PySem.W.nsIn K mainGlobals "lies_upon"=some (some (.ref f3)))
  (l3:K.lookup f3=some ⟨oc3,od3,.func (PySem.W.fnOf "lies_upon" "lies_upon" (ay vy) (aw vy) (ah vy) .none kV3 dc3 pm3 an3 cd3 ct3),sl3⟩)
  (c3:PySem.W.codeIn K cd3 "lies_upon"=true)
  (k3:PySem.W.keepIn K (.ref f3)=true)
  (a4:PySem.W.nsIn K mainGlobals "laid"=some (some (.ref f4)))
  (l4:K.lookup f4=some ⟨oc4,od4,.func (PySem.W.fnOf "laid" "laid" (ay vc) (aw vc) (ah vc) .none kV4 dc4 pm4 an4 cd4 ct4),sl4⟩)
  (c4:PySem.W.codeIn K cd4 "laid"=true)
  (k4:PySem.W.keepIn K (.ref f4)=true)
  (a5:PySem.W.nsIn K mainGlobals "holes_under"=some (some (.ref f5)))
  (l5:K.lookup f5=some ⟨oc5,od5,.func (PySem.W.fnOf "holes_under" "holes_under" (ay jn) (aw jn) (ah jn) .none kV5 dc5 pm5 an5 cd5 ct5),sl5⟩)
  (c5:PySem.W.codeIn K cd5 "holes_under"=true)
  (k5:PySem.W.keepIn K (.ref f5)=true)
  (a6:PySem.W.nsIn K mainGlobals "fitting_rules"=some (some (.ref f6)))
  (l6:K.lookup f6=some ⟨oc6,od6,.func (PySem.W.fnOf "fitting_rules" "fitting_rules" (ay gv) (aw gv) (ah gv) .none kV6 dc6 pm6 an6 cd6 ct6),sl6⟩)
  (c6:PySem.W.codeIn K cd6 "fitting_rules"=true)
  (k6:PySem.W.keepIn K (.ref f6)=true)
  (a7:PySem.W.nsIn K mainGlobals "price_there"=some (some (.ref f7)))
  (l7:K.lookup f7=some ⟨oc7,od7,.func (PySem.W.fnOf "price_there" "price_there" (ay ng) (aw ng) (ah ng) .none kV7 dc7 pm7 an7 cd7 ct7),sl7⟩)
  (c7:PySem.W.codeIn K cd7 "price_there"=true)
  (k7:PySem.W.keepIn K (.ref f7)=true)
  (a8:PySem.W.nsIn K mainGlobals "settle_part"=some (some (.ref f8)))
  (l8:K.lookup f8=some ⟨oc8,od8,.func (PySem.W.fnOf "settle_part" "settle_part" (ay ji) (aw ji) (ah ji) .none kV8 dc8 pm8 an8 cd8 ct8),sl8⟩)
  (c8:PySem.W.codeIn K cd8 "settle_part"=true)
  (k8:PySem.W.keepIn K (.ref f8)=true)
  (a9:PySem.W.nsIn K mainGlobals "rules_with_price"=some (some (.ref f9)))
  (l9:K.lookup f9=some ⟨oc9,od9,.func (PySem.W.fnOf "rules_with_price" "rules_with_price" (ay uu) (aw uu) (ah uu) .none kV9 dc9 pm9 an9 cd9 ct9),sl9⟩)
  (c9:PySem.W.codeIn K cd9 "rules_with_price"=true)
  (k9:PySem.W.keepIn K (.ref f9)=true)
  (a10:PySem.W.nsIn K mainGlobals "rows_of_part"=some (some (.ref f10)))
  (l10:K.lookup f10=some ⟨oc10,od10,.func (PySem.W.fnOf "rows_of_part" "rows_of_part" (ay mh) (aw mh) (ah mh) .none kV10 dc10 pm10 an10 cd10 ct10),sl10⟩)
  (c10:PySem.W.codeIn K cd10 "rows_of_part"=true)
  (k10:PySem.W.keepIn K (.ref f10)=true)
  (a11:PySem.W.nsIn K mainGlobals "rows_with_all_rules"=some (some (.ref f11)))
  (l11:K.lookup f11=some ⟨oc11,od11,.func (PySem.W.fnOf "rows_with_all_rules" "rows_with_all_rules" (ay mi) (aw mi) (ah mi) .none kV11 dc11 pm11 an11 cd11 ct11),sl11⟩)
  (c11:PySem.W.codeIn K cd11 "rows_with_all_rules"=true)
  (k11:PySem.W.keepIn K (.ref f11)=true)
  (a12:PySem.W.nsIn K mainGlobals "is_table"=some (some (.ref f12)))
  (l12:K.lookup f12=some ⟨oc12,od12,.func (PySem.W.fnOf "is_table" "is_table" (ay m9) (aw m9) (ah m9) .none kV12 dc12 pm12 an12 cd12 ct12),sl12⟩)
  (c12:PySem.W.codeIn K cd12 "is_table"=true)
  (k12:PySem.W.keepIn K (.ref f12)=true)
  (a13:PySem.W.nsIn K mainGlobals "_law_next"=some (some (.ref f13)))
  (l13:K.lookup f13=some ⟨oc13,od13,.func (PySem.W.fnOf "_law_next" "_law_next" (ay vv) (aw vv) (ah vv) .none kV13 dc13 pm13 an13 cd13 ct13),sl13⟩)
  (c13:PySem.W.codeIn K cd13 "_law_next"=true)
  (k13:PySem.W.keepIn K (.ref f13)=true)
  (a14:PySem.W.nsIn K mainGlobals "_law_ends"=some (some (.ref f14)))
  (l14:K.lookup f14=some ⟨oc14,od14,.func (PySem.W.fnOf "_law_ends" "_law_ends" (ay vg) (aw vg) (ah vg) .none kV14 dc14 pm14 an14 cd14 ct14),sl14⟩)
  (c14:PySem.W.codeIn K cd14 "_law_ends"=true)
  (k14:PySem.W.keepIn K (.ref f14)=true)
  (a15:PySem.W.nsIn K mainGlobals "_law_laid"=some (some (.ref f15)))
  (l15:K.lookup f15=some ⟨oc15,od15,.func (PySem.W.fnOf "_law_laid" "_law_laid" (ay mw) (aw mw) (ah mw) .none kV15 dc15 pm15 an15 cd15 ct15),sl15⟩)
  (c15:PySem.W.codeIn K cd15 "_law_laid"=true)
  (k15:PySem.W.keepIn K (.ref f15)=true)
  (a16:PySem.W.nsIn K mainGlobals "_law_term"=some (some (.ref f16)))
  (l16:K.lookup f16=some ⟨oc16,od16,.func (PySem.W.fnOf "_law_term" "_law_term" (ay wu) (aw wu) (ah wu) .none kV16 dc16 pm16 an16 cd16 ct16),sl16⟩)
  (c16:PySem.W.codeIn K cd16 "_law_term"=true)
  (k16:PySem.W.keepIn K (.ref f16)=true)
  (a17:PySem.W.nsIn K mainGlobals "_law_shape"=some (some (.ref f17)))
  (l17:K.lookup f17=some ⟨oc17,od17,.func (PySem.W.fnOf "_law_shape" "_law_shape" (ay nq) (aw nq) (ah nq) .none kV17 dc17 pm17 an17 cd17 ct17),sl17⟩)
  (c17:PySem.W.codeIn K cd17 "_law_shape"=true)
  (k17:PySem.W.keepIn K (.ref f17)=true)
  (a18:PySem.W.nsIn K mainGlobals "_law_deeds"=some (some (.ref f18)))
  (l18:K.lookup f18=some ⟨oc18,od18,.func (PySem.W.fnOf "_law_deeds" "_law_deeds" (ay mn) (aw mn) (ah mn) .none kV18 dc18 pm18 an18 cd18 ct18),sl18⟩)
  (c18:PySem.W.codeIn K cd18 "_law_deeds"=true)
  (k18:PySem.W.keepIn K (.ref f18)=true)
  (a19:PySem.W.nsIn K mainGlobals "_law_book"=some (some (.ref f19)))
  (l19:K.lookup f19=some ⟨oc19,od19,.func (PySem.W.fnOf "_law_book" "_law_book" (ay wg) (aw wg) (ah wg) .none kV19 dc19 pm19 an19 cd19 ct19),sl19⟩)
  (c19:PySem.W.codeIn K cd19 "_law_book"=true)
  (k19:PySem.W.keepIn K (.ref f19)=true)
  (a20:PySem.W.nsIn K mainGlobals "_law_names"=some (some (.ref f20)))
  (l20:K.lookup f20=some ⟨oc20,od20,.func (PySem.W.fnOf "_law_names" "_law_names" (ay m7) (aw m7) (ah m7) .none kV20 dc20 pm20 an20 cd20 ct20),sl20⟩)
  (c20:PySem.W.codeIn K cd20 "_law_names"=true)
  (k20:PySem.W.keepIn K (.ref f20)=true)
  (a21:PySem.W.nsIn K mainGlobals "_law_holes"=some (some (.ref f21)))
  (l21:K.lookup f21=some ⟨oc21,od21,.func (PySem.W.fnOf "_law_holes" "_law_holes" (ay jx) (aw jx) (ah jx) .none kV21 dc21 pm21 an21 cd21 ct21),sl21⟩)
  (c21:PySem.W.codeIn K cd21 "_law_holes"=true)
  (k21:PySem.W.keepIn K (.ref f21)=true)
  (a22:PySem.W.nsIn K mainGlobals "_law_fits"=some (some (.ref f22)))
  (l22:K.lookup f22=some ⟨oc22,od22,.func (PySem.W.fnOf "_law_fits" "_law_fits" (ay mx) (aw mx) (ah mx) .none kV22 dc22 pm22 an22 cd22 ct22),sl22⟩)
  (c22:PySem.W.codeIn K cd22 "_law_fits"=true)
  (k22:PySem.W.keepIn K (.ref f22)=true)
  (a23:PySem.W.nsIn K mainGlobals "_law_cost"=some (some (.ref f23)))
  (l23:K.lookup f23=some ⟨oc23,od23,.func (PySem.W.fnOf "_law_cost" "_law_cost" (ay nj) (aw nj) (ah nj) .none kV23 dc23 pm23 an23 cd23 ct23),sl23⟩)
  (c23:PySem.W.codeIn K cd23 "_law_cost"=true)
  (k23:PySem.W.keepIn K (.ref f23)=true)
  (a24:PySem.W.nsIn K mainGlobals "_law_least"=some (some (.ref f24)))
  (l24:K.lookup f24=some ⟨oc24,od24,.func (PySem.W.fnOf "_law_least" "_law_least" (ay ju) (aw ju) (ah ju) .none kV24 dc24 pm24 an24 cd24 ct24),sl24⟩)
  (c24:PySem.W.codeIn K cd24 "_law_least"=true)
  (k24:PySem.W.keepIn K (.ref f24)=true)
  (a25:PySem.W.nsIn K mainGlobals "_law_reaching"=some (some (.ref f25)))
  (l25:K.lookup f25=some ⟨oc25,od25,.func (PySem.W.fnOf "_law_reaching" "_law_reaching" (ay jf) (aw jf) (ah jf) .none kV25 dc25 pm25 an25 cd25 ct25),sl25⟩)
  (c25:PySem.W.codeIn K cd25 "_law_reaching"=true)
  (k25:PySem.W.keepIn K (.ref f25)=true)
  (a26:PySem.W.nsIn K mainGlobals "_law_any_table"=some (some (.ref f26)))
  (l26:K.lookup f26=some ⟨oc26,od26,.func (PySem.W.fnOf "_law_any_table" "_law_any_table" (ay jt) (aw jt) (ah jt) .none kV26 dc26 pm26 an26 cd26 ct26),sl26⟩)
  (c26:PySem.W.codeIn K cd26 "_law_any_table"=true)
  (k26:PySem.W.keepIn K (.ref f26)=true)
  (a27:PySem.W.nsIn K mainGlobals "_law_lesser"=some (some (.ref f27)))
  (l27:K.lookup f27=some ⟨oc27,od27,.func (PySem.W.fnOf "_law_lesser" "_law_lesser" (ay jw) (aw jw) (ah jw) .none kV27 dc27 pm27 an27 cd27 ct27),sl27⟩)
  (c27:PySem.W.codeIn K cd27 "_law_lesser"=true)
  (k27:PySem.W.keepIn K (.ref f27)=true)
  (a28:PySem.W.nsIn K mainGlobals "_law_due"=some (some (.ref f28)))
  (l28:K.lookup f28=some ⟨oc28,od28,.func (PySem.W.fnOf "_law_due" "_law_due" (ay uj) (aw uj) (ah uj) .none kV28 dc28 pm28 an28 cd28 ct28),sl28⟩)
  (c28:PySem.W.codeIn K cd28 "_law_due"=true)
  (k28:PySem.W.keepIn K (.ref f28)=true)
  (a29:PySem.W.nsIn K mainGlobals "_law_changed"=some (some (.ref f29)))
  (l29:K.lookup f29=some ⟨oc29,od29,.func (PySem.W.fnOf "_law_changed" "_law_changed" (ay ic) (aw ic) (ah ic) .none kV29 dc29 pm29 an29 cd29 ct29),sl29⟩)
  (c29:PySem.W.codeIn K cd29 "_law_changed"=true)
  (k29:PySem.W.keepIn K (.ref f29)=true)
  (a30:PySem.W.nsIn K mainGlobals "law"=some (some (.ref f30)))
  (l30:K.lookup f30=some ⟨oc30,od30,.func (PySem.W.fnOf "law" "law" (ay y8) (aw y8) (ah y8) .none kV30 dc30 pm30 an30 cd30 ct30),sl30⟩)
  (c30:PySem.W.codeIn K cd30 "law"=true)
  (k30:PySem.W.keepIn K (.ref f30)=true)
  (z0:PySem.W.nsIn K mainGlobals "bool"=some none)
  (z1:PySem.W.nsIn K mainGlobals "dict"=some none)
  (z2:PySem.W.nsIn K mainGlobals "int"=some none)
  (z3:PySem.W.nsIn K mainGlobals "isinstance"=some none)
  (z4:PySem.W.nsIn K mainGlobals "len"=some none)
  (z5:PySem.W.nsIn K mainGlobals "list"=some none)
  (z6:PySem.W.nsIn K mainGlobals "max"=some none)
  (z7:PySem.W.nsIn K mainGlobals "range"=some none)
  (z8:PySem.W.nsIn K mainGlobals "reversed"=some none)
  (z9:PySem.W.nsIn K mainGlobals "sorted"=some none)
  (z10:PySem.W.nsIn K mainGlobals "str"=some none)
  (z11:PySem.W.nsIn K mainGlobals "tuple"=some none)
  (z12:PySem.W.nsIn K mainGlobals "zip"=some none)
  (y0:PySem.W.nsIn K mainGlobals "PARTS_BELOW"=some (some (.ref g0)))
  (x0:K.lookup g0=some ⟨.type "dict",none,.dict #[⟨dh0x0,.str "add" dt0x0,.int 2 du0x0⟩,⟨dh0x1,.str "sub" dt0x1,.int 2 du0x1⟩,⟨dh0x2,.str "mul" dt0x2,.int 2 du0x2⟩,⟨dh0x3,.str "neg" dt0x3,.int 1 du0x3⟩] dp0,#[]⟩)
  (hh0x0:dh0x0=hashStr w "add")
  (hh0x1:dh0x1=hashStr w "sub")
  (hh0x2:dh0x2=hashStr w "mul")
  (hh0x3:dh0x3=hashStr w "neg")
  (ha0:(g0==sysModules)=false):
  ∃fd:FuncData,(∀(s:Shared) (v:Value),BindsTo s fd ⟨[v],[]⟩ [("script",v)])∧∀base:Heap,K.In base→base.Ns mainGlobals mg→qc l.prog w K mg base CX0 7 fa fd ["script"] (Fp K):=by
 have e:=hfa.symm.trans (PySem.W.mg_of X G a30);cases e
 have G0:Gs w K mg:=⟨PySem.W.mg_none_of X G z0,PySem.W.mg_none_of X G z1,PySem.W.mg_none_of X G z2,PySem.W.mg_none_of X G z3,PySem.W.mg_none_of X G z4,PySem.W.mg_none_of X G z5,PySem.W.mg_none_of X G z6,PySem.W.mg_none_of X G z7,PySem.W.mg_none_of X G z8,PySem.W.mg_none_of X G z9,PySem.W.mg_none_of X G z10,PySem.W.mg_none_of X G z11,PySem.W.mg_none_of X G z12,⟨g0,PySem.W.mg_of X G y0,Pt [(dh0x0,"add",dt0x0,2,du0x0),(dh0x1,"sub",dt0x1,2,du0x1),(dh0x2,"mul",dt0x2,2,du0x2),(dh0x3,"neg",dt0x3,1,du0x3)] x0 ha0 (by intro e he;simp only[aaq,aad,or_false] at he;rcases he with rfl | rfl | rfl | rfl <;> assumption) (by show ac2 ([Sum.inr "add",Sum.inr "sub",Sum.inr "mul",Sum.inr "neg"]:List Key);decide+kernel)⟩⟩;have F0:=bq (st:=Ee) l0 c0 k0;have D0:Def K mg "how_many_below" Ee ["word"]:=⟨f0,_,F0,F0.binds (ps:=["word"]) (λ_ _ _ _ _ _ us hl=>by refine us1 (P:=λus=>bindArgs _ ⟨us,[]⟩=pure (abc _ us)) hl ?_;intros;rfl),PySem.W.mg_of X G a0⟩;have F1:=bq (st:=jg) l1 c1 k1;have D1:Def K mg "place_behind" jg ["words","place"]:=⟨f1,_,F1,F1.binds (ps:=["words","place"]) (λ_ _ _ _ _ _ us hl=>by refine us2 (P:=λus=>bindArgs _ ⟨us,[]⟩=pure (abc _ us)) hl ?_;intros;rfl),PySem.W.mg_of X G a1⟩;have F2:=bq (st:=we) l2 c2 k2;have D2:Def K mg "leaf_letter" we ["word","kinds"]:=⟨f2,_,F2,F2.binds (ps:=["word","kinds"]) (λ_ _ _ _ _ _ us hl=>by refine us2 (P:=λus=>bindArgs _ ⟨us,[]⟩=pure (abc _ us)) hl ?_;intros;rfl),PySem.W.mg_of X G a2⟩;have F3:=bq (st:=vy) l3 c3 k3;have D3:Def K mg "lies_upon" vy ["letter","shape_word","word"]:=⟨f3,_,F3,F3.binds (ps:=["letter","shape_word","word"]) (λ_ _ _ _ _ _ us hl=>by refine us3 (P:=λus=>bindArgs _ ⟨us,[]⟩=pure (abc _ us)) hl ?_;intros;rfl),PySem.W.mg_of X G a3⟩;have F4:=bq (st:=vc) l4 c4 k4;have D4:Def K mg "laid" vc ["shape","kinds","words","place"]:=⟨f4,_,F4,F4.binds (ps:=["shape","kinds","words","place"]) (λ_ _ _ _ _ _ us hl=>by refine us4 (P:=λus=>bindArgs _ ⟨us,[]⟩=pure (abc _ us)) hl ?_;intros;rfl),PySem.W.mg_of X G a4⟩;have F5:=bq (st:=jn) l5 c5 k5;have D5:Def K mg "holes_under" jn ["shape","kinds","under"]:=⟨f5,_,F5,F5.binds (ps:=["shape","kinds","under"]) (λ_ _ _ _ _ _ us hl=>by refine us3 (P:=λus=>bindArgs _ ⟨us,[]⟩=pure (abc _ us)) hl ?_;intros;rfl),PySem.W.mg_of X G a5⟩;have F6:=bq (st:=gv) l6 c6 k6;have D6:Def K mg "fitting_rules" gv ["book","words","place"]:=⟨f6,_,F6,F6.binds (ps:=["book","words","place"]) (λ_ _ _ _ _ _ us hl=>by refine us3 (P:=λus=>bindArgs _ ⟨us,[]⟩=pure (abc _ us)) hl ?_;intros;rfl),PySem.W.mg_of X G a6⟩;have F7:=bq (st:=ng) l7 c7 k7;have D7:Def K mg "price_there" ng ["own","holes","least"]:=⟨f7,_,F7,F7.binds (ps:=["own","holes","least"]) (λ_ _ _ _ _ _ us hl=>by refine us3 (P:=λus=>bindArgs _ ⟨us,[]⟩=pure (abc _ us)) hl ?_;intros;rfl),PySem.W.mg_of X G a7⟩;have F8:=bq (st:=ji) l8 c8 k8;have D8:Def K mg "settle_part" ji ["place","fitting","least"]:=⟨f8,_,F8,F8.binds (ps:=["place","fitting","least"]) (λ_ _ _ _ _ _ us hl=>by refine us3 (P:=λus=>bindArgs _ ⟨us,[]⟩=pure (abc _ us)) hl ?_;intros;rfl),PySem.W.mg_of X G a8⟩;have F9:=bq (st:=uu) l9 c9 k9;have D9:Def K mg "rules_with_price" uu ["kind","price","fitting","least"]:=⟨f9,_,F9,F9.binds (ps:=["kind","price","fitting","least"]) (λ_ _ _ _ _ _ us hl=>by refine us4 (P:=λus=>bindArgs _ ⟨us,[]⟩=pure (abc _ us)) hl ?_;intros;rfl),PySem.W.mg_of X G a9⟩;have F10:=bq (st:=mh) l10 c10 k10;have D10:Def K mg "rows_of_part" mh ["book","place","fitting","least"]:=⟨f10,_,F10,F10.binds (ps:=["book","place","fitting","least"]) (λ_ _ _ _ _ _ us hl=>by refine us4 (P:=λus=>bindArgs _ ⟨us,[]⟩=pure (abc _ us)) hl ?_;intros;rfl),PySem.W.mg_of X G a10⟩;have F11:=bq (st:=mi) l11 c11 k11;have D11:Def K mg "rows_with_all_rules" mi ["book","words"]:=⟨f11,_,F11,F11.binds (ps:=["book","words"]) (λ_ _ _ _ _ _ us hl=>by refine us2 (P:=λus=>bindArgs _ ⟨us,[]⟩=pure (abc _ us)) hl ?_;intros;rfl),PySem.W.mg_of X G a11⟩;have F12:=bq (st:=m9) l12 c12 k12;have D12:Def K mg "is_table" m9 ["book","words","table"]:=⟨f12,_,F12,F12.binds (ps:=["book","words","table"]) (λ_ _ _ _ _ _ us hl=>by refine us3 (P:=λus=>bindArgs _ ⟨us,[]⟩=pure (abc _ us)) hl ?_;intros;rfl),PySem.W.mg_of X G a12⟩;have F13:=bq (st:=vv) l13 c13 k13;have D13:Def K mg "_law_next" vv ["deck"]:=⟨f13,_,F13,F13.binds (ps:=["deck"]) (λ_ _ _ _ _ _ us hl=>by refine us1 (P:=λus=>bindArgs _ ⟨us,[]⟩=pure (abc _ us)) hl ?_;intros;rfl),PySem.W.mg_of X G a13⟩;have F14:=bq (st:=vg) l14 c14 k14;have D14:Def K mg "_law_ends" vg ["words"]:=⟨f14,_,F14,F14.binds (ps:=["words"]) (λ_ _ _ _ _ _ us hl=>by refine us1 (P:=λus=>bindArgs _ ⟨us,[]⟩=pure (abc _ us)) hl ?_;intros;rfl),PySem.W.mg_of X G a14⟩;have F15:=bq (st:=mw) l15 c15 k15;have D15:Def K mg "_law_laid" mw ["kinds","shape","words","ends","place"]:=⟨f15,_,F15,F15.binds (ps:=["kinds","shape","words","ends","place"]) (λ_ _ _ _ _ _ us hl=>by refine us5 (P:=λus=>bindArgs _ ⟨us,[]⟩=pure (abc _ us)) hl ?_;intros;rfl),PySem.W.mg_of X G a15⟩;have F16:=bq (st:=wu) l16 c16 k16;have D16:Def K mg "_law_term" wu ["deck","names","most"]:=⟨f16,_,F16,F16.binds (ps:=["deck","names","most"]) (λ_ _ _ _ _ _ us hl=>by refine us3 (P:=λus=>bindArgs _ ⟨us,[]⟩=pure (abc _ us)) hl ?_;intros;rfl),PySem.W.mg_of X G a16⟩;have F17:=bq (st:=nq) l17 c17 k17;have D17:Def K mg "_law_shape" nq ["deck","kinds"]:=⟨f17,_,F17,F17.binds (ps:=["deck","kinds"]) (λ_ _ _ _ _ _ us hl=>by refine us2 (P:=λus=>bindArgs _ ⟨us,[]⟩=pure (abc _ us)) hl ?_;intros;rfl),PySem.W.mg_of X G a17⟩;have F18:=bq (st:=mn) l18 c18 k18;have D18:Def K mg "_law_deeds" mn ["kinds","shape"]:=⟨f18,_,F18,F18.binds (ps:=["kinds","shape"]) (λ_ _ _ _ _ _ us hl=>by refine us2 (P:=λus=>bindArgs _ ⟨us,[]⟩=pure (abc _ us)) hl ?_;intros;rfl),PySem.W.mg_of X G a18⟩;have F19:=bq (st:=wg) l19 c19 k19;have D19:Def K mg "_law_book" wg ["deck","names"]:=⟨f19,_,F19,F19.binds (ps:=["deck","names"]) (λ_ _ _ _ _ _ us hl=>by refine us2 (P:=λus=>bindArgs _ ⟨us,[]⟩=pure (abc _ us)) hl ?_;intros;rfl),PySem.W.mg_of X G a19⟩;have F20:=bq (st:=m7) l20 c20 k20;have D20:Def K mg "_law_names" m7 ["deck"]:=⟨f20,_,F20,F20.binds (ps:=["deck"]) (λ_ _ _ _ _ _ us hl=>by refine us1 (P:=λus=>bindArgs _ ⟨us,[]⟩=pure (abc _ us)) hl ?_;intros;rfl),PySem.W.mg_of X G a20⟩;have F21:=bq (st:=jx) l21 c21 k21;have D21:Def K mg "_law_holes" jx ["kinds","shape"]:=⟨f21,_,F21,F21.binds (ps:=["kinds","shape"]) (λ_ _ _ _ _ _ us hl=>by refine us2 (P:=λus=>bindArgs _ ⟨us,[]⟩=pure (abc _ us)) hl ?_;intros;rfl),PySem.W.mg_of X G a21⟩;have F22:=bq (st:=mx) l22 c22 k22;have D22:Def K mg "_law_fits" mx ["book","words"]:=⟨f22,_,F22,F22.binds (ps:=["book","words"]) (λ_ _ _ _ _ _ us hl=>by refine us2 (P:=λus=>bindArgs _ ⟨us,[]⟩=pure (abc _ us)) hl ?_;intros;rfl),PySem.W.mg_of X G a22⟩;have F23:=bq (st:=nj) l23 c23 k23;have D23:Def K mg "_law_cost" nj ["rule","keys","least"]:=⟨f23,_,F23,F23.binds (ps:=["rule","keys","least"]) (λ_ _ _ _ _ _ us hl=>by refine us3 (P:=λus=>bindArgs _ ⟨us,[]⟩=pure (abc _ us)) hl ?_;intros;rfl),PySem.W.mg_of X G a23⟩;have F24:=bq (st:=ju) l24 c24 k24;have D24:Def K mg "_law_least" ju ["fits"]:=⟨f24,_,F24,F24.binds (ps:=["fits"]) (λ_ _ _ _ _ _ us hl=>by refine us1 (P:=λus=>bindArgs _ ⟨us,[]⟩=pure (abc _ us)) hl ?_;intros;rfl),PySem.W.mg_of X G a24⟩;have F25:=bq (st:=jf) l25 c25 k25;have D25:Def K mg "_law_reaching" jf ["fits","least"]:=⟨f25,_,F25,F25.binds (ps:=["fits","least"]) (λ_ _ _ _ _ _ us hl=>by refine us2 (P:=λus=>bindArgs _ ⟨us,[]⟩=pure (abc _ us)) hl ?_;intros;rfl),PySem.W.mg_of X G a25⟩;have F26:=bq (st:=jt) l26 c26 k26;have D26:Def K mg "_law_any_table" jt ["deck","least","reaching"]:=⟨f26,_,F26,F26.binds (ps:=["deck","least","reaching"]) (λ_ _ _ _ _ _ us hl=>by refine us3 (P:=λus=>bindArgs _ ⟨us,[]⟩=pure (abc _ us)) hl ?_;intros;rfl),PySem.W.mg_of X G a26⟩;have F27:=bq (st:=jw) l27 c27 k27;have D27:Def K mg "_law_lesser" jw ["table"]:=⟨f27,_,F27,F27.binds (ps:=["table"]) (λ_ _ _ _ _ _ us hl=>by refine us1 (P:=λus=>bindArgs _ ⟨us,[]⟩=pure (abc _ us)) hl ?_;intros;rfl),PySem.W.mg_of X G a27⟩;have F28:=bq (st:=uj) l28 c28 k28;have D28:Def K mg "_law_due" uj ["table","least","reaching"]:=⟨f28,_,F28,F28.binds (ps:=["table","least","reaching"]) (λ_ _ _ _ _ _ us hl=>by refine us3 (P:=λus=>bindArgs _ ⟨us,[]⟩=pure (abc _ us)) hl ?_;intros;rfl),PySem.W.mg_of X G a28⟩;have F29:=bq (st:=ic) l29 c29 k29;have D29:Def K mg "_law_changed" ic ["deck","table","book","names"]:=⟨f29,_,F29,F29.binds (ps:=["deck","table","book","names"]) (λ_ _ _ _ _ _ us hl=>by refine us4 (P:=λus=>bindArgs _ ⟨us,[]⟩=pure (abc _ us)) hl ?_;intros;rfl),PySem.W.mg_of X G a29⟩;have F30:=bq (st:=y8) l30 c30 k30;refine ⟨PySem.W.fnOf "law" "law" (ay y8) (aw y8) (ah y8) .none kV30 dc30 pm30 an30 cd30 ct30,λs v=>.of_eq rfl,λbase _ _=>?_⟩;have H0:Has l.prog w K mg base 1 "how_many_below" ["word"] vd:=hasHow (k:=0) G0   D0;have H1:Has l.prog w K mg base 2 "place_behind" ["words","place"] (wd K):=Il (k:=1) G0 (H0.up (by decide))  D1;have H2:Has l.prog w K mg base 1 "leaf_letter" ["word","kinds"] (jk K):=Ov (k:=0) G0   D2;have H3:Has l.prog w K mg base 2 "lies_upon" ["letter","shape_word","word"] zw:=Pm (k:=1) G0 (H0.up (by decide))  D3;have H4:Has l.prog w K mg base 3 "laid" ["shape","kinds","words","place"] (Ai K):=Pe (k:=2) G0 (H2.up (by decide)) (H3.up (by decide)) (H1.up (by decide))  D4;have H5:Has l.prog w K mg base 2 "holes_under" ["shape","kinds","under"] (ou K):=Ia (k:=1) G0 (H2.up (by decide))  D5;have H6:Has l.prog w K mg base 4 "fitting_rules" ["book","words","place"] kq:=Et (k:=3) G0 (H5.up (by decide)) (H4.up (by decide))  D6;have H7:Has l.prog w K mg base 1 "price_there" ["own","holes","least"] jm:=M3 (k:=0) G0   D7;have H8:Has l.prog w K mg base 2 "settle_part" ["place","fitting","least"] pb:=Hu (k:=1) G0 (H7.up (by decide))  D8;have H9:Has l.prog w K mg base 2 "rules_with_price" ["kind","price","fitting","least"] zj:=hasWith (k:=1) G0 (H7.up (by decide))  D9;have H10:Has l.prog w K mg base 3 "rows_of_part" ["book","place","fitting","least"] uh:=Kr (k:=2) G0 (H9.up (by decide))  D10;have H11:Has l.prog w K mg base 5 "rows_with_all_rules" ["book","words"] uc:=Kv (k:=4) G0 (H6.up (by decide)) (H10.up (by decide)) (H8.up (by decide))  D11;have H12:Has l.prog w K mg base 6 "is_table" ["book","words","table"] sj:=Mb (k:=5) G0 (H11.up (by decide))  D12;have H13:Has l.prog w K mg base 1 "_law_next" ["deck"] gn:=hasNext (k:=0) G0   D13;have H14:Has l.prog w K mg base 1 "_law_ends" ["words"] (ze K):=Ny (k:=0) G0   D14;have H15:Has l.prog w K mg base 1 "_law_laid" ["kinds","shape","words","ends","place"] (ub K):=J6 (k:=0) G0   D15;have H16:Has l.prog w K mg base 2 "_law_term" ["deck","names","most"] sk:=Ni (k:=1) G0 (H13.up (by decide))  D16;have H17:Has l.prog w K mg base 2 "_law_shape" ["deck","kinds"] tf:=J5 (k:=1) G0 (H13.up (by decide))  D17;have H18:Has l.prog w K mg base 1 "_law_deeds" ["kinds","shape"] (tj K):=Kw (k:=0) G0   D18;have H19:Has l.prog w K mg base 3 "_law_book" ["deck","names"] y4:=Px (k:=2) G0 (H18.up (by decide)) (H13.up (by decide)) (H17.up (by decide))  D19;have H20:Has l.prog w K mg base 2 "_law_names" ["deck"] oo:=Ll (k:=1) G0 (H13.up (by decide))  D20;have H21:Has l.prog w K mg base 1 "_law_holes" ["kinds","shape"] (nz K):=Ib (k:=0) G0   D21;have H22:Has l.prog w K mg base 2 "_law_fits" ["book","words"] ud:=Lo (k:=1) G0 (H14.up (by decide)) (H21.up (by decide)) (H15.up (by decide))  D22;have H23:Has l.prog w K mg base 1 "_law_cost" ["rule","keys","least"] n8:=Jx (k:=0) G0   D23;have H24:Has l.prog w K mg base 2 "_law_least" ["fits"] ox:=Hq (k:=1) G0 (H23.up (by decide))  D24;have H25:Has l.prog w K mg base 2 "_law_reaching" ["fits","least"] pq:=Ha (k:=1) G0 (H23.up (by decide))  D25;have H26:Has l.prog w K mg base 2 "_law_any_table" ["deck","least","reaching"] oj:=Hl (k:=1) G0 (H13.up (by decide))  D26;have H27:Has l.prog w K mg base 1 "_law_lesser" ["table"] oh:=Iw (k:=0) G0   D27;have H28:Has l.prog w K mg base 1 "_law_due" ["table","least","reaching"] zp:=Qv (k:=0) G0   D28;have H29:Has l.prog w K mg base 2 "_law_changed" ["deck","table","book","names"] lz:=hasChanged (k:=1) G0 (H13.up (by decide))  D29;exact hasLaw (k:=6) G0 (H26.up (by decide)) (H19.up (by decide)) (H29.up (by decide)) (H28.up (by decide)) (H22.up (by decide)) (H24.up (by decide)) (H27.up (by decide)) (H20.up (by decide)) (H13.up (by decide)) (H25.up (by decide)) (H16.up (by decide)) (H12.up (by decide))  F30
theorem walk {l:PySem.W.OpenLaw} {q:Program} {loose:List Str} {XP:(Str→Option Value)→Heap→Prop} {YP:World→Heap→Prop} {d:DefRec} {K:Params→PySem.W.Frag} (hn:l.most=some 63) (hdf:d.params.defaults=[])
  (hY:∀(w:World) (h:Heap),YP w h→(K w.params).In h)
  (F:∀(w:World) (mg:Str→Option Value) (fa:Addr) (h:Heap),(K w.params).In h→h.Ns mainGlobals mg→mg d.name=some (.ref fa)→
   ∃fd:FuncData,(∀(s:Shared) (u:Value),BindsTo s fd ⟨[u],[]⟩ [("script",u)])∧∀base:Heap,(K w.params).In base→base.Ns mainGlobals mg→qc l.prog w (K w.params) mg base CX0 7 fa fd ["script"] (Fp (K w.params))):
  PySem.W.WalkO q loose XP YP l.row.toRowW d [] (λf vs=>PySem.call f vs):=
 L2.Oh (n:=63) (k:=7) (x:="script") (CX:=λ_=>CX0) (sp:=λw=>Fp (K w.params)) hn (by decide) hdf ⟨rfl,by decide,by decide⟩ hY F (λ_ _ a ns hl _ hS=>⟨a,ns,rfl,hS,hl,λ_=>rfl⟩) λ_ _ _ _ _ z=>z
end K43
namespace PySem.W.Fast
def tw14269693852525555289:=()
def tw10681112158347176916:=()
def tw2237205437700888156:=()
def tw8390196666083785733:=()
def tw778555112530579824:=()
def tw17461393570987042307:=()
def tw6849830424757128523:=()
def tw48013756496737901:=()
def tw14741949482225721200:=()
def tw1518490758292352456:=()
def tw10091216091783519124:=()
def tw5463488447620845810:=()
def tw196365645802329706:=()
def tw4792013557884572442:=()
def tw10470679748853080673:=()
def tw18390661584350983741:=()
def tw8791597464440668004:=()
def tw15307597841409169421:=()
def tw11066906412205028255:=()
def tw1294061528931564924:=()
def tw16130416254222274669:=()
def tw3491126125005338219:=()
def tw14803535052931425535:=()
def tw16185712159206360314:=()
def tw8303902526906024699:=()
def tw7890564589444562:=()
def tw3849889740894950073:=()
def tw12125631130195348457:=()
def tw4831655176979506530:=()
def tw7010681733195430085:=()
def tw17981481564137808577:=()
def tw14254275126273963415:=()
def tw8450952258125555561:=()
def tw7220246606360091312:=()
def tw5919642008478802647:=()
def tw9185332061672250789:=()
def tw12005110568948722365:=()
def tw16944921764451967070:=()
def tw1843677378764975256:=()
def tw12292710233883709442:=()
def tw13220814270386532451:=()
def tw18121053853846784459:=()
def tw247173540918475812:=()
def tw16832994789375630645:=()
def tw12158288111394715788:=()
def tw14705141948842042269:=()
def tw9453766664936852855:=()
def tw3694701438421974988:=()
def tw7694349292613482890:=()
def tw10593501539120740865:=()
def tw7724134257313438086:=()
def tw14078475413129900397:=()
def tw3749531961708469045:=()
def tw11050481042582650762:=()
def tw9840597885675343309:=()
def tw16265452341682270666:=()
def tw9603320948052048780:=()
def tw12179689180050088959:=()
def tw5766673574228886245:=()
def tw12647622798934761841:=()
def tw10744782482150701750:=()
def tw11348267106082662536:=()
def tw12336193899383963281:=()
def tw2387040399203303771:=()
def tw18211614153005333053:=()
def tw10254280123414137034:=()
def tw10317596381194810144:=()
def tw11904854164543497693:=()
def tw3507218139166855411:=()
def tw9842152468793963548:=()
def tw8325130275337314387:=()
def tw3551032244792536310:=()
def tw1287922881138532082:=()
def tw8658119124742600865:=()
def tw16890600797011246297:=()
def tw9391922545173481452:=()
def tw2353357983034724668:=()
def tw10775317512846905201:=()
def tw13729515417957355940:=()
def tw5212595167291629920:=()
def tw14754934453985693222:=()
def tw12852998340467820026:=()
def tw10780826247544872502:=()
def tw11999316186397023215:=()
def tw11961925050173113492:=()
def tw2168730017383246998:=()
def tw11821337150408946460:=()
def tw13997377832599887849:=()
def tw4409899649465859771:=()
def tw9180197146608306304:=()
def tw3107754921349121815:=()
def tw819768840177393593:=()
def tw1917997646246904417:=()
def tw7350414254492330988:=()
def tw16915658933279653691:=()
def tw7688256061274929884:=()
def tw9756701780885546924:=()
def tw2810771956570992650:=()
def tw8532648584976643932:=()
def tw8226844310374376301:=()
def tw16121132598212088131:=()
def tw9704109436952252080:=()
def tw12030635673982708318:=()
def tw5909073371381673412:=()
def tw2063424979397799343:=()
def tw17665528347041776989:=()
def tw12032722351771773434:=()
def tw16717873627899280915:=()
def tw10529492720573949997:=()
def tw15196740316188439311:=()
def tw4490817060523008912:=()
def tw12684674396886865211:=()
def tw871258317181669391:=()
def tw10378652820500127193:=()
def tw1844616517702609127:=()
def tw5235178881892791934:=()
def tw189029604556472857:=()
def tw17571152511941337730:=()
def tw15730290125922884816:=()
def tw1712677778014941754:=()
def tw7461061870053378263:=()
def tw685202264895578526:=()
def tw2951803871204837277:=()
def tw12473904426428013344:=()
def tw16639950110216649254:=()
def tw7358055062294289444:=()
def tw13121916100077926026:=()
def tw3976663193181002729:=()
def tw697553417515212017:=()
def tw5167841804214606167:=()
def tw14749978339774521163:=()
def tw6836937700168180825:=()
def tw1283070582903598499:=()
def tw13840725468729460234:=()
def tw9474431207379964983:=()
def tw1647750151935794225:=()
def tw16944425347570888001:=()
def tw3180320322275120708:=()
def tw1368445769481308678:=()
def tw11151250124037317199:=()
def tw12282469762255555095:=()
def tw17609377910211810473:=()
def tw775310478741082428:=()
def tw8635660557766679017:=()
def tw5703707073872084550:=()
def tw8124224956710435700:=()
def tw12837837383919256271:=()
def tw7257531549496191000:=()
def tw6294874301015965899:=()
def tw17887670236513967716:=()
def tw16381587794292914431:=()
def tw3710491185837430407:=()
def tw6999041595055078360:=()
def tw3690098500620393054:=()
def tw9927403754406427025:=()
def tw10257374626752765423:=()
def tw4956772213584155529:=()
def tw11509621969872471890:=()
def tw50799514186449099:=()
def tw3654007927519553008:=()
def tw15027695189119198564:=()
def tw3085023730892903521:=()
def tw4494334803920236141:=()
def tw1400814073058627791:=()
def tw9897334713441990444:=()
def tw10299792117248721003:=()
def tw8016373295771569351:=()
def tw17064428420829838583:=()
def tw10174730351825706549:=()
def tw13525480853509894984:=()
def tw14673621900631034849:=()
def tw6990810328639652084:=()
def tw10597668068904427198:=()
def tw14736397509115054470:=()
def tw16880447373633431626:=()
def tw7513862177781286334:=()
def tw8965238006786781692:=()
def tw15913316508968017902:=()
def tw6731477927262732674:=()
def tw7002335087681705523:=()
def tw14258387629789636396:=()
def tw10802337002999084176:=()
def tw17643656231172305475:=()
def tw2571948269349583881:=()
def tw5344982358299793293:=()
def tw8794130075455184582:=()
def tw13067756329247022618:=()
def tw15039850259370182688:=()
def tw14318894202882426107:=()
end PySem.W.Fast
open PySem PySem.W PyProof.Rows
set_option maxRecDepth 100000 in
set_option maxHeartbeats 0 in
theorem PySem.Challenge.cw_pricecover_k43_is_table_holds : PySem.Challenge.rw_pricecover_k43_is_table.Holds := by
 w_on;o_law;k_head;(case hw=>w_witness2)
 k_fill
 refine K43.walk (l:=PySem.Challenge.rw_pricecover_k43_is_table) rfl rfl (fun w h Y=>PySem.W.kIn_of Y) ?F
 case F=>
  intro w mg fa h KX G hmg
  refine' K43.all_mk KX G hmg ?a0 ?l0 ?c0 ?k0 ?a1 ?l1 ?c1 ?k1 ?a2 ?l2 ?c2 ?k2 ?a3 ?l3 ?c3 ?k3 ?a4 ?l4 ?c4 ?k4 ?a5 ?l5 ?c5 ?k5 ?a6 ?l6 ?c6 ?k6 ?a7 ?l7 ?c7 ?k7 ?a8 ?l8 ?c8 ?k8 ?a9 ?l9 ?c9 ?k9 ?a10 ?l10 ?c10 ?k10 ?a11 ?l11 ?c11 ?k11 ?a12 ?l12 ?c12 ?k12 ?a13 ?l13 ?c13 ?k13 ?a14 ?l14 ?c14 ?k14 ?a15 ?l15 ?c15 ?k15 ?a16 ?l16 ?c16 ?k16 ?a17 ?l17 ?c17 ?k17 ?a18 ?l18 ?c18 ?k18 ?a19 ?l19 ?c19 ?k19 ?a20 ?l20 ?c20 ?k20 ?a21 ?l21 ?c21 ?k21 ?a22 ?l22 ?c22 ?k22 ?a23 ?l23 ?c23 ?k23 ?a24 ?l24 ?c24 ?k24 ?a25 ?l25 ?c25 ?k25 ?a26 ?l26 ?c26 ?k26 ?a27 ?l27 ?c27 ?k27 ?a28 ?l28 ?c28 ?k28 ?a29 ?l29 ?c29 ?k29 ?a30 ?l30 ?c30 ?k30 ?z0 ?z1 ?z2 ?z3 ?z4 ?z5 ?z6 ?z7 ?z8 ?z9 ?z10 ?z11 ?z12 ?y0 ?x0 ?hh0x0 ?hh0x1 ?hh0x2 ?hh0x3 ?ha0
  (case a0=>k_is)
  (case l0=>k_is)
  (case c0=>k_is)
  (case k0=>k_is)
  (case a1=>k_is)
  (case l1=>k_is)
  (case c1=>k_is)
  (case k1=>k_is)
  (case a2=>k_is)
  (case l2=>k_is)
  (case c2=>k_is)
  (case k2=>k_is)
  (case a3=>k_is)
  (case l3=>k_is)
  (case c3=>k_is)
  (case k3=>k_is)
  (case a4=>k_is)
  (case l4=>k_is)
  (case c4=>k_is)
  (case k4=>k_is)
  (case a5=>k_is)
  (case l5=>k_is)
  (case c5=>k_is)
  (case k5=>k_is)
  (case a6=>k_is)
  (case l6=>k_is)
  (case c6=>k_is)
  (case k6=>k_is)
  (case a7=>k_is)
  (case l7=>k_is)
  (case c7=>k_is)
  (case k7=>k_is)
  (case a8=>k_is)
  (case l8=>k_is)
  (case c8=>k_is)
  (case k8=>k_is)
  (case a9=>k_is)
  (case l9=>k_is)
  (case c9=>k_is)
  (case k9=>k_is)
  (case a10=>k_is)
  (case l10=>k_is)
  (case c10=>k_is)
  (case k10=>k_is)
  (case a11=>k_is)
  (case l11=>k_is)
  (case c11=>k_is)
  (case k11=>k_is)
  (case a12=>k_is)
  (case l12=>k_is)
  (case c12=>k_is)
  (case k12=>k_is)
  (case a13=>k_is)
  (case l13=>k_is)
  (case c13=>k_is)
  (case k13=>k_is)
  (case a14=>k_is)
  (case l14=>k_is)
  (case c14=>k_is)
  (case k14=>k_is)
  (case a15=>k_is)
  (case l15=>k_is)
  (case c15=>k_is)
  (case k15=>k_is)
  (case a16=>k_is)
  (case l16=>k_is)
  (case c16=>k_is)
  (case k16=>k_is)
  (case a17=>k_is)
  (case l17=>k_is)
  (case c17=>k_is)
  (case k17=>k_is)
  (case a18=>k_is)
  (case l18=>k_is)
  (case c18=>k_is)
  (case k18=>k_is)
  (case a19=>k_is)
  (case l19=>k_is)
  (case c19=>k_is)
  (case k19=>k_is)
  (case a20=>k_is)
  (case l20=>k_is)
  (case c20=>k_is)
  (case k20=>k_is)
  (case a21=>k_is)
  (case l21=>k_is)
  (case c21=>k_is)
  (case k21=>k_is)
  (case a22=>k_is)
  (case l22=>k_is)
  (case c22=>k_is)
  (case k22=>k_is)
  (case a23=>k_is)
  (case l23=>k_is)
  (case c23=>k_is)
  (case k23=>k_is)
  (case a24=>k_is)
  (case l24=>k_is)
  (case c24=>k_is)
  (case k24=>k_is)
  (case a25=>k_is)
  (case l25=>k_is)
  (case c25=>k_is)
  (case k25=>k_is)
  (case a26=>k_is)
  (case l26=>k_is)
  (case c26=>k_is)
  (case k26=>k_is)
  (case a27=>k_is)
  (case l27=>k_is)
  (case c27=>k_is)
  (case k27=>k_is)
  (case a28=>k_is)
  (case l28=>k_is)
  (case c28=>k_is)
  (case k28=>k_is)
  (case a29=>k_is)
  (case l29=>k_is)
  (case c29=>k_is)
  (case k29=>k_is)
  (case a30=>k_is)
  (case l30=>k_is)
  (case c30=>k_is)
  (case k30=>k_is)
  (case z0=>k_is)
  (case z1=>k_is)
  (case z2=>k_is)
  (case z3=>k_is)
  (case z4=>k_is)
  (case z5=>k_is)
  (case z6=>k_is)
  (case z7=>k_is)
  (case z8=>k_is)
  (case z9=>k_is)
  (case z10=>k_is)
  (case z11=>k_is)
  (case z12=>k_is)
  (case y0=>k_is)
  (case x0=>k_is)
  (case hh0x0=>first | rfl | k_is)
  (case hh0x1=>first | rfl | k_is)
  (case hh0x2=>first | rfl | k_is)
  (case hh0x3=>first | rfl | k_is)
  (case ha0=>first | rfl | decide | k_is)
#print axioms PySem.Challenge.cw_pricecover_k43_is_table_holds
