import PyProof.Rows.All
import Wide.All
import OpenK.AllK
import Wide.FinOn
import Lean
import PyProof.EqAt
import PyProof.EqKinds
import PyProof.TupleCall
import KE.KSortTup
import PyProof.EnumMake
import PyProof.EnumStmt
import PyProof.ListRange
import KE.KDictList
import PyProof.DictItems
import PyProof.DictIter
import PyProof.Rows.TupDisplay
import KE.KRevIter
import PyProof.ZipIter
import PyProof.DictUpdate
import PyProof.TupleIter
import PyProof.AttrMiss
import PyProof.ListNew
import PyProof.FactsAll.dict_1
import KE.KDictOf
import PyProof.Rows.ZipGen
import PyProof.Draws
import PyProof.Rows.CallKwBuiltin
import PyProof.Rows.SortPure
import PyProof.Rows.SortRuns
import PyProof.Toks
import PyProof.FString4
import PyProof.StrLawsRepr
import PyProof.FitsReplace
import PyProof.AttrMissHeap
import PyProof.Rows.SetFrom
import PyProof.Rows.Range3
import PySem.Challenge.RW_pricecover_k34_sound_books
set_option Elab.async false
set_option bootstrap.genMatcherCode false
set_option linter.all false
set_option maxRecDepth 100000
set_option maxHeartbeats 4000000
open Or renaming inr → aa0,inl → aa1
open List renaming getElem?_eq_getElem → aa2,length_map → aa3,length_append → aa5,mem_cons_of_mem → aa7,mem_cons_self → aa8,size_toArray → aa9,length_cons → aaa,length_take → aad,getElem?_map → aae,getD_eq_getElem?_getD → aaf,map_append → aag,map_cons → aaj,range → aak,mem_of_getElem? → aam,take_add_one → aan,length_drop → aao,getElem?_append_right → aar,not_mem_nil → aas,length_singleton → aat,take_length → aau,zip → aav,mem_append_right → aaw,getElem?_append_left → aax,drop_eq_getElem_cons → aay,append_nil → aaz,mem_cons → ab0,filter_append → ab2,take_append_drop → ab3,filter_cons → ab4,append_assoc → ab5,sum_cons → ab6,length_range → aba,length_filter_le → abb,mem_of_mem_drop → abd,Nodup → abe,getElem_mem → abg,replicate → abi,mem_of_mem_take → abj,reverse_cons → abl,toArray → abn,nodup_nil → abo,map_map → abp,exists_cons_of_ne_nil → abv,mem_append_left → abw,length_reverse → aby,any_cons → abz,find?_cons → ac0,length_nil → ac1,filter_nil → ac3,length_replicate → ac5,map_nil → ac6,drop_length → ac9,getElem?_drop → ace,drop_zero → acg,take_zero → ach,take_sublist → acj,ext_getElem? → acm,nodup_append → acn,head?_eq_getElem? → aco,map_drop → acp,nil_append → acw,mem_append → acx,forIn_cons → acy,eq_nil_of_length_eq_zero → acz,filterMap_cons → ad0,forIn_nil → ad5,mem_singleton → ad7,getElem?_take_of_lt → adf,map → adh,getElem?_replicate → adj,pairwise_singleton → adk,getElem?_cons_succ → adl,of_mem_zip → adm,getElem?_set_self → adp,take_of_length_le → adq,drop_of_length_le → adt,countP_mono_left → adx,getElem?_set_ne → ady,replicate_succ' → ae0,filter_sublist → ae2,getElem?_range → ae3,take_succ_cons → ae4,getElem?_take → ae9,getElem_range → aea,map_replicate → aeb,length → aeg,getElem_inj → aei,cons_append → ael,countP_cons → aem,all_eq_true → aeo,zipIdx_cons → aep,zipIdx_nil → aer,mem_filter → aes
open Nat renaming le_refl → aa4,lt_of_succ_lt → aab,zero_le → aac,lt_of_lt_of_le → aah,le_trans → aal,ne_of_lt → aap,pow_le_pow_right → ab8,lt_of_le_of_lt → abc,le_add_right → abh,sub_self → abq,lt_irrefl → abu,lt_or_ge → abx,eq_zero_or_pos → ac2,ne_of_gt → ac4,mul_le_mul → ac8,log2_le_self → aca,le_mul_of_pos_right → aci,le_succ_of_le → ack,le_of_ble_eq_true → acr,le_of_lt → acs,add_le_add_left → ad1,le_succ → ad6,sub_zero → adi,le_max_left → ado,le_mul_of_pos_left → adu,pow_add → adv,mul_le_mul_right → adz,add_sub_cancel → ae5,one_le_two_pow → ae6,lt_succ_of_lt → aed,add_mul → aeh,min_le_right → aej,le_of_not_lt → aek,min_eq_left → aeq
open Option.some renaming inj → aa6,injEq → aef
open Bool renaming false_ne_true → aai,false_eq_true → ab7,and_eq_true → abf,eq_iff_iff → acu,false_and → ad3,not_true → ad9,or_eq_true → adn,beq_eq_decide_eq → adw,and_true → ae1
open And renaming intro → aaq
open List.cons renaming inj → ab1
open Array renaming length_toList → ab9,getD_eq_getD_getElem? → abm,forIn_toList → acd,getElem?_toList → acq,toList_append → ad2,size_append → ade
open Int renaming toNat_natCast → abk,emod_lt_of_pos → abr,emod_nonneg → abt,natAbs_neg → ad4,fdiv_eq_ediv_of_nonneg → ad8,le_refl → ads,zero_add → ae8
open List.Perm renaming refl → ac7
open Classical renaming byContradiction → acb
open Option renaming toList_some → acf,map_some → acv,isSome_map → adb,getD_none → adg
open List.Pairwise renaming nil → ada
open List.Nodup renaming sublist → ae7
open Exists renaming intro → aec
open Function renaming comp_def → aee
open List.Sublist renaming map → aen
open Iff renaming rfl → aet
local macro_rules | `(tactic| omega)=>`(tactic| first | lia | omega +splitNatSub)
namespace L2
open PySem PySem.Spec PyProof.Rows
abbrev Key:=Sum Int Str
noncomputable def vb:Key→Value→Bool
 | .inl k,v=>Value.isInt k v
 | .inr x,v=>Value.isStrOf x v
noncomputable def keyH (w:World):Key→Int
 | .inl k=>hashInt k
 | .inr x=>hashStr w x
theorem b7:∀{k:Key} {v:Value},vb k v=true→(∃i t,k=Sum.inl i∧v=Value.int i t)∨(∃x t,k=Sum.inr x∧v=Value.str x t)
 | .inl i,v,h=>by
  obtain ⟨t,e⟩:=Value.isInt_shape (k:=i) (v:=v) h;exact .inl ⟨i,t,rfl,e⟩
 | .inr x,v,h=>by
  obtain ⟨t,e⟩:=Value.isStrOf_shape (x:=x) (v:=v) h;exact .inr ⟨x,t,rfl,e⟩
theorem Fy (i:Int) (t:Tok):vb (.inl i) (.int i t)=true:=by simp[vb,Value.isInt]
theorem Gi (x:Str) (t:Tok):vb (.inr x) (.str x t)=true:=by simp[vb,Value.isStrOf]
theorem key_ll (a b:Int):decide ((Sum.inl a:Key)=Sum.inl b)=(a==b):=by
 by_cases e:a=b
 ·subst e;simp
 ·have h:¬(Sum.inl a:Key)=Sum.inl b:=λq=>e (Sum.inl.inj q);rw[decide_eq_false h];exact (beq_eq_false_iff_ne.mpr e).symm
theorem key_rr (a b:Str):decide ((Sum.inr a:Key)=Sum.inr b)=decide (a=b):=by
 by_cases e:a=b
 ·subst e;simp
 ·have h:¬(Sum.inr a:Key)=Sum.inr b:=λq=>e (Sum.inr.inj q);rw[decide_eq_false h,decide_eq_false e]
theorem key_lr (a:Int) (b:Str):decide ((Sum.inl a:Key)=Sum.inr b)=false:=decide_eq_false (λq=>nomatch q)
theorem key_rl (a:Str) (b:Int):decide ((Sum.inr a:Key)=Sum.inl b)=false:=decide_eq_false (λq=>nomatch q)
noncomputable def ar (prog:Program) (w:World):PySem.KeyKind prog w Key where
 is:=vb
 hash:=keyH w
 inj:=λv a b ha hb=>by
  rcases b7 ha with ⟨i,t,rfl,rfl⟩ | ⟨x,t,rfl,rfl⟩
  ·rcases b7 hb with ⟨j,u,rfl,e⟩ | ⟨y,u,rfl,e⟩
   ·injection e with e1 _;rw[e1]
   ·exact nomatch e
  ·rcases b7 hb with ⟨j,u,rfl,e⟩ | ⟨y,u,rfl,e⟩
   ·exact nomatch e
   ·injection e with e1 _;rw[e1]
 byValue:=λk v h=>by
  rcases b7 h with ⟨i,t,rfl,rfl⟩ | ⟨x,t,rfl,rfl⟩ <;> rfl
 pyHash:=λhv h=>by
  rcases b7 hv with ⟨i,t,rfl,rfl⟩ | ⟨x,t,rfl,rfl⟩
  ·exact wpAny_pyHash_int h
  ·exact wpAny_pyHash_str h
 eqBool:=λhu hv h=>by
  rcases b7 hu with ⟨i,t,rfl,rfl⟩ | ⟨x,t,rfl,rfl⟩
  ·rcases b7 hv with ⟨j,u,rfl,rfl⟩ | ⟨y,u,rfl,rfl⟩
   ·rw[key_ll] at h;exact wpAny_eqBool_int h
   ·rw[key_lr] at h;exact SeqAt.EqAt.int_str i t y u _ _ _ _ h
  ·rcases b7 hv with ⟨j,u,rfl,rfl⟩ | ⟨y,u,rfl,rfl⟩
   ·rw[key_rl] at h;exact SeqAt.EqAt.str_int x t j u _ _ _ _ h
   ·rw[key_rr] at h;exact wpAny_eqBool_str h
 «strs»:=λk x t v h=>by
  rcases b7 h with ⟨i,u,rfl,e⟩ | ⟨y,u,rfl,e⟩
  ·exact nomatch e
  ·injection e with e1 _
   subst e1;cases v <;> rfl
theorem yc (prog:Program) (w:World) (i:Int) (t:Tok):(ar prog w).is (.inl i) (.int i t)=true:=Fy i t
theorem ir (prog:Program) (w:World) (x:Str) (t:Tok):(ar prog w).is (.inr x) (.str x t)=true:=Gi x t
inductive V where
 | non | bl (b:Bool) | int (i:Int) | str (x:Str) | byt (b:Array UInt8) | flt (b:UInt64) | ref (a:Addr) | ty (n:String)
 deriving DecidableEq
def RelV:V→Value→Prop
 | .non,u=>u=Value.none
 | .bl b,u=>u=Value.bool b
 | .int i,u=>∃t,u=Value.int i t
 | .str x,u=>∃t,u=Value.str x t
 | .byt b,u=>∃t,u=Value.bytes b t
 | .flt b,u=>∃t,u=Value.float b t
 | .ref a,u=>u=Value.ref a
 | .ty n,u=>u=Value.type n
abbrev Vals:List V→List Value→Prop:=Paired RelV
theorem Vals.length {xs:List V} {us:List Value} (r:Vals xs us):xs.length=us.length:=Paired.length r
theorem Vals.get:∀{xs:List V} {us:List Value} {i:Nat} {x:V},Vals xs us→xs[i]?=some x→∃u,us[i]?=some u∧RelV x u
 | _,_,_,_,.nil,e=>by simp at e
 | _,_,0,_,.cons r _,e=>by simp at e;subst e;exact ⟨_,rfl,r⟩
 | _,_,i+1,x,.cons _ t,e=>by
  obtain ⟨u,h1,h2⟩:=Vals.get (i:=i) (x:=x) t (by simpa using e);exact ⟨u,by simpa using h1,h2⟩
theorem Vals.set {x:V} {u:Value} (r:RelV x u):∀{xs:List V} {us:List Value} (i:Nat),Vals xs us→Vals (xs.set i x) (us.set i u)
 | _,_,_,.nil=>.nil
 | _,_,0,.cons _ t=>.cons r t
 | _,_,i+1,.cons q t=>.cons q (Vals.set r i t)
theorem Vals.append:∀{xs ys:List V} {us ws:List Value},Vals xs us→Vals ys ws→Vals (xs++ys) (us++ws)
 | _,_,_,_,.nil,s=>s
 | _,_,_,_,.cons r t,s=>.cons r (Vals.append t s)
theorem Vals.take:∀{xs:List V} {us:List Value} (n:Nat),Vals xs us→Vals (xs.take n) (us.take n)
 | _,_,0,_=>.nil
 | _,_,_+1,.nil=>.nil
 | _,_,n+1,.cons r t=>.cons r (Vals.take n t)
theorem Vals.drop:∀{xs:List V} {us:List Value} (n:Nat),Vals xs us→Vals (xs.drop n) (us.drop n)
 | _,_,0,r=>r
 | _,_,_+1,.nil=>.nil
 | _,_,n+1,.cons _ t=>Vals.drop n t
def kh:Option V→Option Value→Prop
 | some v,some u=>RelV v u
 | none,none=>True
 | _,_=>False
def KV {κ:Type}:List (κ×V)→List (κ×Value)→Prop:=Paired λ(p:κ×V) (q:κ×Value)=>p.1=q.1∧RelV p.2 q.2
noncomputable def kV:Key→V
 | .inl i=>.int i
 | .inr x=>.str x
inductive HO where
  | lst (xs:List V)
  | tup (xs:List V)
  | dK (kvs:List (Key×V)) | dT (kvs:List (List Key×V))
  | set (S:Int→Bool) (n:Nat)
  | ins (C dx:Addr) (fs:List (Str×V))
  | own (x:Addr)
  | xd (fs:List (Str×V))
  | met (f x:Addr)
  | rng (lo hi:Int)
  | frz (o:Obj) (u:HO)
  | tbl (ps:Array Value)
  | ext (φ:Heap→Prop)
abbrev Hp:=Addr→Option HO
noncomputable def upd (H:Hp) (a:Addr) (o:HO):Hp:=λb=>if b=a then some o else H b
theorem aa {H:Hp} {a:Addr} {o:HO}:upd H a o a=some o:=by unfold upd;rw[if_pos rfl]
theorem af {H:Hp} {a b:Addr} {o:HO} (h:b≠a):upd H a o b=H b:=by unfold upd;rw[if_neg h]
theorem sk {H:Hp} {a b:Addr} {o u:HO} (h:H a=some o) (h':H b=some u) (d:o≠u):a≠b:=by
 intro e;subst e;rw[h] at h';exact d (aa6 h')
theorem ah {H:Hp} {a b:Addr} {o:HO} (h:H a=some o) (h':H b=none):a≠b:=by
 intro e;subst e;rw[h] at h';cases h'
section
variable (P:Program) (w:World)
def Al (h:Heap) (a:Addr) (its:Array Value):Prop:=∃o,h.get? a=some o∧o.cls=.type "tuple"∧∃n,o.data=.seq its n∧o.dict=none
theorem Al.tup {h:Heap} {a:Addr} {its:Array Value} (x:Al h a its):IsTup h a its:=let ⟨o,h1,h2,n,h3,_⟩:=x;⟨o,h1,h2,n,h3⟩
def br (H:Hp) (h:Heap) (a:Addr):HO→Prop
 | .lst xs=>xs.length≤sizeLine∧∃(its:List Value) (n:Nat),Vals xs its∧h.get? a=some { cls:=.type "list",data:=.seq its.toArray n }
 | .tup xs=>xs.length≤sizeLine∧∃its:List Value,Vals xs its∧Al h a its.toArray
 | .dK kvs=>kvs.length≤sizeLine∧(a==sysModules)=false∧∃vs,KV kvs vs∧h.DictOf (ar P w) a vs
 | .dT kvs=>kvs.length≤sizeLine∧(a==sysModules)=false∧∃xs:List (List Key×Addr×Value),
   Paired (λ(p:List Key×V) (q:List Key×Addr×Value)=>p.1=q.1∧H q.2.1=some (.tup (p.1.map kV))∧RelV p.2 q.2.2) kvs xs∧
   ∃o es ep,h.get? a=some o∧o.ExactDict∧o.data=.dict es ep∧es.toList=xs.map (entryOfKey (tupleKind (ar P w)))∧(xs.map (·.1)).Nodup
 | .set S n=>h.SetOf (intKind P w) a S n
 | .ins C dx fs=>H dx=some (.own a)∧fs.length≤1000∧dx≠a∧h.get? a=some (PySem.W.instObj C dx)∧
   ∃mA,h.Ns1 dx mA∧(∀f,kh (fs.lookup f) (mA f))∧PySem.Within mA (fs.map (·.1))
 | .own _=>∃o,h.get? a=some o
 | .xd fs=>∃mA,h.Ns1 a mA∧∀f,kh (fs.lookup f) (mA f)
 | .rng lo hi=>∃t u v,h.get? a=some { cls:=.type "range",data:=.fields #[.int lo t,.int hi u,.int 1 v] }
 | .frz o u=>h.get? a=some o∧br H h a u
 | .tbl ps=>h.get? a=some { cls:=.none,data:=.fields ps }
 | .met f x=>h.get? a=some (PySem.W.methodObj (.ref f) (.ref x))
 | .ext φ=>φ h∧(∃o,h.get? a=some o)∧∀h1 h2:Heap,φ h1→(∀o,h1.get? a=some o→h2.get? a=some o)→φ h2
def HOk (H:Hp) (h:Heap):Prop:=∀a o,H a=some o→br P w H h a o
end
section
variable {P:Program} {w:World} {H H':Hp} {h h':Heap} {a:Addr} {o:HO}
theorem br.lt (x:br P w H h a o):a < h.objs.size:=by
 cases o with
 | lst xs=>obtain ⟨_,_,_,_,e⟩:=x;exact Heap.lt_size e
 | tup xs=>obtain ⟨_,_,_,p⟩:=x;exact p.tup.lt
 | dK kvs=>obtain ⟨_,_,_,_,o,_,_,e,_⟩:=x;exact Heap.lt_size e
 | dT kvs=>obtain ⟨_,_,_,_,o,_,_,e,_⟩:=x;exact Heap.lt_size e
 | set S n=>obtain ⟨o,_,_,_,e,_⟩:=x;exact Heap.lt_size e
 | ins C dx fs=>obtain ⟨_,_,_,e,_⟩:=x;exact Heap.lt_size e
 | own y=>obtain ⟨_,e⟩:=x;exact Heap.lt_size e
 | xd fs=>obtain ⟨_,⟨_,_,_,e,_⟩,_⟩:=x;exact Heap.lt_size e
 | rng lo hi=>obtain ⟨_,_,_,e⟩:=x;exact Heap.lt_size e
 | frz ob u=>obtain ⟨e,_⟩:=x;exact Heap.lt_size e
 | tbl ps=>exact Heap.lt_size (show h.get? a=some _ from x)
 | met f y=>exact Heap.lt_size (show h.get? a=some _ from x)
 | ext φ=>obtain ⟨_,⟨_,e⟩,_⟩:=x;exact Heap.lt_size e
theorem Paired.mapP {α β:Type} {F G:α→β→Prop}:∀{l₁:List α} {l₂:List β},Paired F l₁ l₂→(∀a b,F a b→G a b)→Paired G l₁ l₂
 | _,_,.nil,_=>.nil
 | _,_,.cons r t,f=>.cons (f _ _ r) (Paired.mapP t f)
theorem br.vw (x:br P w H h a o) (k:∀b u,(b=a∨H b=some (.own a))→h.get? b=some u→h'.get? b=some u)
  (ho:∀b,H b=some (.own a)→H' b=some (.own a)) (ht:∀b xs,H b=some (.tup xs)→H' b=some (.tup xs)):br P w H' h' a o:=by
 induction o with
 | lst xs=>obtain ⟨z,its,n,r,e⟩:=x;exact ⟨z,its,n,r,k _ _ (.inl rfl) e⟩
 | tup xs=>obtain ⟨z,its,r,ob,e,c⟩:=x;exact ⟨z,its,r,ob,k _ _ (.inl rfl) e,c⟩
 | dK kvs=>obtain ⟨z,y,vs,r,ob,es,ep,e,c⟩:=x;exact ⟨z,y,vs,r,ob,es,ep,k _ _ (.inl rfl) e,c⟩
 | dT kvs=>
  obtain ⟨z,y,xs,r,ob,es,ep,e,c⟩:=x;exact ⟨z,y,xs,Paired.mapP r λp q z=>⟨z.1,ht _ _ z.2.1,z.2.2⟩,ob,es,ep,k _ _ (.inl rfl) e,c⟩
 | set S n=>obtain ⟨ob,es,ep,t,e,c⟩:=x;exact ⟨ob,es,ep,t,k _ _ (.inl rfl) e,c⟩
 | ins C dx fs=>
  obtain ⟨d,z,ne,e,mA,⟨od,es,ep,e2,c⟩,r⟩:=x;exact ⟨ho _ d,z,ne,k _ _ (.inl rfl) e,mA,⟨od,es,ep,k _ _ (.inr d) e2,c⟩,r⟩
 | own y=>obtain ⟨ob,e⟩:=x;exact ⟨ob,k _ _ (.inl rfl) e⟩
 | xd fs=>obtain ⟨mA,⟨od,es,ep,e,c⟩,r⟩:=x;exact ⟨mA,⟨od,es,ep,k _ _ (.inl rfl) e,c⟩,r⟩
 | rng lo hi=>obtain ⟨t,u,v,e⟩:=x;exact ⟨t,u,v,k _ _ (.inl rfl) e⟩
 | frz ob u ih=>obtain ⟨e,q⟩:=x;exact ⟨k _ _ (.inl rfl) e,ih q⟩
 | tbl ps=>
  have e:h.get? a=some { cls:=.none,data:=.fields ps }:=x;show h'.get? a=some { cls:=.none,data:=.fields ps }
  exact k a _ (.inl rfl) e
 | met f y=>
  have e:h.get? a=some (PySem.W.methodObj (.ref f) (.ref y)):=x;show h'.get? a=some (PySem.W.methodObj (.ref f) (.ref y))
  exact k a _ (.inl rfl) e
 | ext φ=>obtain ⟨p,⟨o,e⟩,st⟩:=x;exact ⟨st _ _ p λo q=>k _ _ (.inl rfl) q,⟨o,k _ _ (.inl rfl) e⟩,st⟩
theorem HOk.lt (x:HOk P w H h) (e:H a=some o):a < h.objs.size:=(x a o e).lt
theorem dq {xs:List V} (x:HOk P w H h) (e:H a=some (.tup xs)):xs.length≤sizeLine∧∃its:List Value,Vals xs its∧IsTup h a its.toArray:=
 let ⟨z,its,r,p⟩:=x a _ e
 ⟨z,its,r,p.tup⟩
theorem HOk.fresh (x:HOk P w H h) (e:h.objs.size≤a):H a=none:=by
 cases q:H a with
 | none=>rfl
 | some u=>exact absurd (aah (x.lt q) e) (abu _)
theorem HOk.kept (x:HOk P w H h) (k:∀b u,h.get? b=some u→h'.get? b=some u):HOk P w H h':=λa o e=>
 (x a o e).vw (λb u _ q=>k b u q) (λ_ q=>q) λ_ _ q=>q
theorem HOk.laid (x:HOk P w H h) (k:∀b u,h.get? b=some u→h'.get? b=some u) (hp:h.objs.size≤a) (new:br P w (upd H a o) h' a o):HOk P w (upd H a o) h':=λb u e=>by
 have hn:=x.fresh hp;by_cases hb:b=a
 ·subst hb;rw[aa] at e;cases e;exact new
 ·rw[af hb] at e;exact (x b u e).vw (λc v _ q=>k c v q) (λc q=>by rw[af (ah q hn)];exact q) λc xs q=>by rw[af (ah q hn)];exact q
end
def Rd (H:Hp) (a:Addr) (u:HO):Prop:=H a=some u∨∃o,H a=some (.frz o u)
theorem Rd.ok {P:Program} {w:World} {H:Hp} {h:Heap} {a:Addr} {u:HO} (r:Rd H a u) (x:HOk P w H h):br P w H h a u:=by
 rcases r with r | ⟨o,r⟩
 ·exact x a u r
 ·obtain ⟨_,q⟩:=x a _ r;exact q
def Mut:Option HO→Prop
 | some (.lst _)=>True
 | some (.dK _)=>True
 | some (.dT _)=>True
 | some (.set _ _)=>True
 | some (.ins _ _ _)=>True
 | some (.ext _)=>True
 | _=>False
section
variable {P:Program} {w:World} {H:Hp} {h h':Heap} {x e:Addr} {o':HO}
theorem HOk.write (ok:HOk P w H h) (mu:Mut (H x)) (he:e=x∨H e=some (.own x)) (k:∀b u,b≠e→h.get? b=some u→h'.get? b=some u) (heo:∃u,h'.get? e=some u)
  (new:br P w (upd H x o') h' x o'):HOk P w (upd H x o') h':=λb u q=>by
 have nown:∀c y,H c=some (.own y)→c≠x:=λc y r z=>by subst z;rw[r] at mu;exact mu
 have ntup:∀c xs,H c=some (.tup xs)→c≠x:=λc xs r z=>by subst z;rw[r] at mu;exact mu
 by_cases hb:b=x
 ·subst hb;rw[aa] at q;cases q;exact new
 ·rw[af hb] at q;by_cases hbe:b=e
  ·have q':H b=some (.own x):=by
    rcases he with z | z
    ·exact absurd (hbe.trans z) hb
    ·rw[hbe];exact z
   rw[q] at q';cases q';obtain ⟨v,hv⟩:=heo;exact ⟨v,by rw[hbe];exact hv⟩
  ·refine (ok b u q).vw (λc v hc r=>k c v ?_ r) (λc r=>by rw[af (nown c b r)];exact r) λc xs r=>by rw[af (ntup c xs r)];exact r
   rcases hc with rfl | hc
   ·exact hbe
   ·rintro rfl;rcases he with z | z
    ·exact nown c b hc z
    ·rw[hc] at z;cases z;exact hb rfl
end
structure Un (fs ex:List Addr) (H H':Hp) (h h':Heap):Prop where
 keep:∀b o,h.get? b=some o→H b=none→b∉fs→b∉ex→h'.get? b=some o
 slot:∀b o,h.get? b=some o→H b=none→b∈fs→b∉ex→∃sl,h'.get? b=some { o with slots:=sl }
 free:∀b o,h.get? b=some o→H b=none→b∉ex→H' b=none
 there:∀b o,h.get? b=some o→b∉ex→∃o',h'.get? b=some o'
 tups:∀b xs,H b=some (.tup xs)→H' b=some (.tup xs)
 frzs:∀b o u,H b=some (.frz o u)→H' b=some (.frz o u)
 tbls:∀b ps,H b=some (.tbl ps)→∃more,H' b=some (.tbl (ps++more))
section
variable {fs fs' ex ex':List Addr} {H H1 H2:Hp} {h h1 h2 h':Heap} {a x e:Addr} {o:HO}
theorem Un.any (u:Un fs ex H H1 h h1) {b:Addr} {ob:Obj} (q:h.get? b=some ob) (n:H b=none) (hx:b∉ex):∃sl,h1.get? b=some { ob with slots:=sl }:=by
 by_cases hb:b∈fs
 ·exact u.slot b ob q n hb hx
 ·exact ⟨ob.slots,u.keep b ob q n hb hx⟩
theorem Un.kept (k:∀b u,h.get? b=some u→h'.get? b=some u):Un fs ex H H h h':=
 ⟨λb ob q _ _ _=>k b ob q,λb ob q _ _ _=>⟨ob.slots,k b ob q⟩,λ_ _ _ n _=>n,λb ob q _=>⟨ob,k b ob q⟩,λ_ _ q=>q,λ_ _ _ q=>q,λ_ ps q=>⟨#[],by rw[q];simp⟩⟩
theorem Un.refl:Un fs ex H H h h:=Un.kept λ_ _ q=>q
theorem Un.laid (k:∀b u,h.get? b=some u→h'.get? b=some u) (hp:h.objs.size≤a) (hn:H a=none):Un fs ex H (upd H a o) h h' where
 keep:=λb u q _ _ _=>k b u q
 slot:=λb u q _ _ _=>⟨u.slots,k b u q⟩
 free:=λb u q n _=>by rw[af (aap (aah (Heap.lt_size q) hp))];exact n
 there:=λb u q _=>⟨u,k b u q⟩
 tups:=λb xs q=>by rw[af (ah q hn)];exact q
 frzs:=λb u xs q=>by rw[af (ah q hn)];exact q
 tbls:=λb ps q=>⟨#[],by rw[af (ah q hn),q];simp⟩
theorem Un.write (mu:Mut (H x)) (he:e=x∨H e=some (.own x)) (k:∀b u,b≠e→h.get? b=some u→h'.get? b=some u) (heo:∃u,h'.get? e=some u):Un fs ex H (upd H x o) h h':=by
 have hx:∀b,H b=none→b≠x:=λb n z=>by subst z;rw[n] at mu;exact mu
 have hb:∀b,H b=none→b≠e:=λb n z=>by
  subst z;rcases he with r | r
  ·exact hx b n r
  ·rw[n] at r;cases r
 have hm:∀b u,H b=some u→¬Mut (some u)→b≠x:=λb u q nm z=>by subst z;rw[q] at mu;exact nm mu
 refine ⟨λb u q n _ _=>k b u (hb b n) q,λb u q n _ _=>⟨u.slots,k b u (hb b n) q⟩,λb u q n _=>by rw[af (hx b n)];exact n,λb u q _=>?_,
  λb xs q=>by rw[af (hm b _ q λz=>z)];exact q,λb u xs q=>by rw[af (hm b _ q λz=>z)];exact q,λb ps q=>⟨#[],by rw[af (hm b _ q λz=>z),q];simp⟩⟩
 by_cases hbe:b=e
 ·subst hbe;exact heo
 ·exact ⟨u,k b u hbe q⟩
end
noncomputable def trk (h:Heap) (H:Hp):List Addr:=(aak h.objs.size).filter λa=>(H a).isSome
noncomputable def xn (h:Heap) (H:Hp):Heap:=PySem.W.hideAll h (trk h H)
theorem Fv (h:Heap) (H:Hp):(xn h H).objs.size=h.objs.size:=PySem.W.hideAll_size _ _
theorem Ka {h:Heap} {H:Hp} {b:Addr} {o:Obj} (e:h.get? b=some o) (n:H b=none):(xn h H).get? b=some o:=
 PySem.W.hideAll_get _ e λhm=>by
  have q:(H b).isSome=true:=(List.mem_filter.mp hm).2;rw[n] at q;simp at q
theorem Mh {h:Heap} {H:Hp} {b:Addr} {o:Obj} (e:(xn h H).get? b=some o):h.get? b=some o∧H b=none:=by
 have e':h.get? b=some o:=PySem.W.of_hideAll (trk h H) e;refine ⟨e',?_⟩;cases q:H b with
 | none=>rfl
 | some x=>
  have hm:b∈trk h H:=List.mem_filter.mpr ⟨List.mem_range.mpr (Heap.lt_size e'),by simp[q]⟩;have z:(xn h H).get? b=none:=PySem.W.hideAll_none (trk h H) hm;rw[z] at e;cases e
structure Mod (K:PySem.W.Frag) (mg:Str→Option Value) (base:Heap):Prop where
 kin:K.In base
 glob:base.Ns mainGlobals mg
 blt:∃mb,base.Ns builtinsNs mb∧∀x:Str,x≠"__name__"→mb x=bootBuiltins x
 nolimit:base.NoLimit
structure Cx where
 prog:Program
 w:World
 K:PySem.W.Frag
 mg:Str→Option Value
 base:Heap
 A:Around
 N:List Str
 s₀:Shared
 H₀:Hp
 env:Env
 outer:List Env
 stack:List Env
 ex:List Addr
 fn:Str→Bool
 calm:Bool
 pn:List (Addr×Obj)
 xe:Value→Shared→Prop
noncomputable def frs (l:List Env):List Addr:=l.filterMap (·.frame)
noncomputable abbrev Cx.fs (X:Cx):List Addr:=frs X.outer
def Vis (sc:Scope) (x:Str):Prop:=sc.names.lookup x=some .local∨sc.names.lookup x=some .cell∨sc.names.lookup x=some .free
def Loc (sc:Scope) (x:Str):Prop:=sc.names.lookup x=some .local∨sc.names.lookup x=some .cell
def Look (env:Env) (h:Heap) (m:Str→Option Value) (x:Str) (u:Value):Prop:=
 (env.kindOf x=some .local∧m x=some u)∨((env.kindOf x=some .cell∨env.kindOf x=some .free)∧∃c,env.cells.lookup x=some c∧h.IsCell c (some u))
structure Cx.Ok (X:Cx):Prop where
 mod:Mod X.K X.mg X.base
 kind:X.env.scope.kind=.function
 glob:X.env.globals=mainGlobals
 blt:X.env.builtins=builtinsNs
 above:X.s₀.heap.objs.size≤X.env.locals
 inj:∀x y c,X.env.cells.lookup x=some c→X.env.cells.lookup y=some c→x=y
 has:∀x,(X.env.kindOf x=some .cell∨X.env.kindOf x=some .free)→∃c,X.env.cells.lookup x=some c
 cab:∀x c,X.fn x=true→X.env.cells.lookup x=some c→X.s₀.heap.objs.size≤c
 hd:X.calm=true→X.A.handled=none
 frames:X.A.frames=some X.stack
 stk:X.stack=X.outer∨(X.stack=X.env::X.outer∧X.env.frame=some X.env.locals)
 exf:∀b∈X.ex,b≠X.env.locals∧∀x c,X.env.cells.lookup x=some c→c≠b
 bs:∀b o,X.base.get? b=some o→X.s₀.heap.get? b=some o∧X.H₀ b=none
 bsz:X.base.objs.size≤X.s₀.heap.objs.size
 noex:∀b o,X.base.get? b=some o→b∉X.ex
 exfs:∀b∈X.ex,b∉X.fs
 ou:X.s₀.heap.FunFrames X.base X.outer
 frf:∀b∈X.fs,X.H₀ b=none
structure Inv (X:Cx) (pins:List (Addr×Obj)) (σ:List (Option V)) (H:Hp) (s:Shared):Prop where
 ok:X.Ok
 os:s.os=X.s₀.os
 bare:AllBare s.gens
 base:Un X.fs X.ex X.H₀ H X.s₀.heap s.heap
 loc:∃m,s.heap.Ns X.env.locals m∧∀(i:Nat) (x:Str) (v:V),X.N[i]?=some x→σ[i]?=some (some v)→Vis X.env.scope x→∃u,RelV v u∧Look X.env s.heap m x u
 cell:∀x c,X.env.cells.lookup x=some c→∃v,s.heap.IsCell c v
 free:H X.env.locals=none
 freeC:∀x c,X.env.cells.lookup x=some c→H c=none
 pin:∀p∈X.pn++pins,s.heap.get? p.1=some p.2∧H p.1=none∧p.1≠X.env.locals∧p.1∉X.fs∧∀v,p.2.data≠.cell v
 hok:HOk X.prog X.w H s.heap
 len:σ.length=X.N.length
section
variable {X:Cx} {pins:List (Addr×Obj)} {σ:List (Option V)} {H H':Hp} {s:Shared} {h':Heap}
theorem Cx.Ok.nofr (ok:X.Ok) {b:Addr} {o:Obj} (e:X.base.get? b=some o):b∉X.fs:=λhb=>by
 have:=(ok.ou.mem hb).1;rw[e] at this;cases this
theorem Inv.bs (I:Inv X pins σ H s):∀b o,X.base.get? b=some o→s.heap.get? b=some o∧H b=none:=λb o e=>
 ⟨I.base.keep b o (I.ok.bs b o e).1 (I.ok.bs b o e).2 (I.ok.nofr e) (I.ok.noex b o e),I.base.free b o (I.ok.bs b o e).1 (I.ok.bs b o e).2 (I.ok.noex b o e)⟩
theorem Inv.bk (I:Inv X pins σ H s):∀b o,X.base.get? b=some o→s.heap.get? b=some o:=λb o e=>(I.bs b o e).1
theorem Inv.mod (I:Inv X pins σ H s):Mod X.K X.mg X.base:=I.ok.mod
theorem Inv.kIn (I:Inv X pins σ H s):X.K.In s.heap:=I.ok.mod.kin.keeps I.bk
theorem Inv.lt (I:Inv X pins σ H s):X.env.locals < s.heap.objs.size:=let ⟨_,hn,_⟩:=I.loc;hn.lt
theorem Inv.sz (I:Inv X pins σ H s):X.s₀.heap.objs.size≤s.heap.objs.size:=aal I.ok.above (acs I.lt)
theorem Inv.nofs (I:Inv X pins σ H s) {a:Addr} (h:s.heap.objs.size≤a):a∉X.fs:=λhb=>by
 obtain ⟨_,o,ho,_⟩:=I.ok.ou.mem hb;exact absurd (aah (Heap.lt_size ho) (aal I.sz h)) (abu _)
theorem Inv.cne (I:Inv X pins σ H s):∀x c,X.env.cells.lookup x=some c→c≠X.env.locals:=λx c e z=>by
 obtain ⟨v,o,ho,hd⟩:=I.cell x c e;obtain ⟨m,⟨o',es,ep,ho',hd',_⟩,_⟩:=I.loc;rw[z,ho'] at ho;cases ho;rw[hd'] at hd;cases hd
theorem Inv.ou (I:Inv X pins σ H s):s.heap.FunFrames X.base X.outer:=by
 have all:∀(l:List Env),(∀b∈frs l,b∈X.fs)→X.s₀.heap.FunFrames X.base l→s.heap.FunFrames X.base l:=by
  intro l;induction l with
  | nil=>intro _ _;trivial
  | cons env r ih=>
   intro hs hl;obtain ⟨hk,⟨L,o,hf,hn,ho,hd⟩,hr⟩:=hl;have hL:L∈X.fs:=hs L (by unfold frs;rw[ad0,hf];exact aa8);obtain ⟨sl,e⟩:=I.base.slot L o ho (I.ok.frf L hL) hL λz=>I.ok.exfs L z hL;exact ⟨hk,⟨L,_,hf,hn,e,hd⟩,ih (λb hb=>hs b (by unfold frs;rw[ad0,hf];exact aa7 _ hb)) hr⟩
 exact all X.outer (λ_ hb=>hb) I.ok.ou
theorem Inv.stack (I:Inv X pins σ H s):s.heap.FunFrames X.base X.stack:=by
 rcases I.ok.stk with e | ⟨e,hf⟩
 ·rw[e];exact I.ou
 ·rw[e];obtain ⟨m,hn,_⟩:=I.loc;refine .cons (by rw[I.ok.kind];decide) hf hn ?_ I.ou;exact Heap.get?_none_of_le (aal I.ok.bsz I.ok.above)
theorem Inv.Aj (I:Inv X pins σ H s):∀b∈frs X.stack,b∈X.env.locals::X.fs:=λb hb=>by
 rcases I.ok.stk with e | ⟨e,hf⟩
 ·rw[e] at hb;exact aa7 _ hb
 ·rw[e] at hb;unfold frs at hb;rw[ad0,hf] at hb;exact hb
theorem Inv.Cz (I:Inv X pins σ H s):∀b∈frs X.stack,H b=none:=λb hb=>by
 rcases List.mem_cons.mp (I.Aj b hb) with e | hb
 ·rw[e];exact I.free
 ·obtain ⟨_,o,ho,_⟩:=I.ok.ou.mem hb;exact I.base.free b o ho (I.ok.frf b hb) λz=>I.ok.exfs b z hb
theorem Inv.step {g':Array GenState} {t':Nat} {d':Drawn} {ch:List Addr} (I:Inv X pins σ H s)
  (hch:∀b∈ch,(b∈X.ex∨X.s₀.heap.objs.size≤b)∧b≠X.env.locals∧(∀x c,X.env.cells.lookup x=some c→c≠b)∧∀p∈X.pn++pins,p.1≠b)
  (keep:∀b o,b≠X.env.locals→b∉X.fs→b∉ch→s.heap.get? b=some o→H b=none→h'.get? b=some o)
  (slot:∀b o,b≠X.env.locals→b∈X.fs→b∉ch→s.heap.get? b=some o→H b=none→∃sl,h'.get? b=some { o with slots:=sl }) (free:∀b o,b∉ch→s.heap.get? b=some o→H b=none→H' b=none)
  (there:∀b o,b∉ch→s.heap.get? b=some o→∃o',h'.get? b=some o')
  (tups:∀b xs,H b=some (.tup xs)→H' b=some (.tup xs)) (frzs:∀b o u,H b=some (.frz o u)→H' b=some (.frz o u)) (tbls:∀b ps,H b=some (.tbl ps)→∃more,H' b=some (.tbl (ps++more)))
  (ns:∀m,s.heap.Ns X.env.locals m→h'.Ns X.env.locals m) (hok:HOk X.prog X.w H' h') (hg:AllBare g'):
  Inv X pins σ H' { s with heap:=h',gens:=g',drawn:=d',toks:=t' }:=by
 have neL:∀b o,X.s₀.heap.get? b=some o→b≠X.env.locals:=λb o e=>aap (aah (Heap.lt_size e) I.ok.above);have neC:∀b o,X.s₀.heap.get? b=some o→b∉X.ex→b∉ch:=λb o e hx hb=>by
  rcases (hch b hb).1 with z | z
  ·exact hx z
  ·exact absurd (aah (Heap.lt_size e) z) (abu _)
 have cellK:∀x c,X.env.cells.lookup x=some c→∀v,s.heap.IsCell c v→h'.IsCell c v:=λx c e v ⟨o,ho,hd⟩=>by
  have nch:c∉ch:=λz=>(hch c z).2.2.1 x c e rfl;by_cases hc:c∈X.fs
  ·obtain ⟨sl,q⟩:=slot c o (I.cne x c e) hc nch ho (I.freeC x c e);exact ⟨_,q,hd⟩
  ·exact ⟨o,keep c o (I.cne x c e) hc nch ho (I.freeC x c e),hd⟩
 refine ⟨I.ok,I.os,hg,⟨λb o e n hb hx=>?_,λb o e n hb hx=>?_,λb o e n hx=>?_,λb o e hx=>?_,λb xs e=>tups b xs (I.base.tups b xs e),λb o xs e=>frzs b o xs (I.base.frzs b o xs e),λb ps e=>?_⟩,?_,λx c e=>?_,?_,λx c e=>?_,λp hp=>?_,hok,I.len⟩
 ·exact keep b o (neL b o e) hb (neC b o e hx) (I.base.keep b o e n hb hx) (I.base.free b o e n hx)
 ·obtain ⟨sl,e1⟩:=I.base.slot b o e n hb hx;obtain ⟨sl',e2⟩:=slot b _ (neL b o e) hb (neC b o e hx) e1 (I.base.free b o e n hx);exact ⟨sl',e2⟩
 ·obtain ⟨o',e1⟩:=I.base.there b o e hx;exact free b o' (neC b o e hx) e1 (I.base.free b o e n hx)
 ·obtain ⟨o',e1⟩:=I.base.there b o e hx;exact there b o' (neC b o e hx) e1
 ·obtain ⟨m1,e1⟩:=I.base.tbls b ps e;obtain ⟨m2,e2⟩:=tbls b _ e1;exact ⟨m1++m2,by rw[e2,Array.append_assoc]⟩
 ·obtain ⟨m,hn,hl⟩:=I.loc;refine ⟨m,ns m hn,λi x v e1 e2 e3=>?_⟩;obtain ⟨u,r,l⟩:=hl i x v e1 e2 e3;refine ⟨u,r,?_⟩;rcases l with l | ⟨k,c,e,z⟩
  ·exact .inl l
  ·exact .inr ⟨k,c,e,cellK x c e _ z⟩
 ·obtain ⟨v,z⟩:=I.cell x c e;exact ⟨v,cellK x c e v z⟩
 ·obtain ⟨m,⟨o,_,_,ho,_⟩,_⟩:=I.loc;exact free _ o (λz=>(hch _ z).2.1 rfl) ho I.free
 ·obtain ⟨v,o,ho,hd⟩:=I.cell x c e;exact free c o (λz=>(hch c z).2.2.1 x c e rfl) ho (I.freeC x c e)
 ·obtain ⟨e,n,ne,nf,d⟩:=I.pin p hp;have nch:p.1∉ch:=λz=>(hch p.1 z).2.2.2 p hp rfl;exact ⟨keep p.1 p.2 ne nf nch e n,free p.1 p.2 nch e n,ne,nf,d⟩
theorem Inv.un {t':Nat} (I:Inv X pins σ H s) (u:Un X.fs [] H H' s.heap h') (hok:HOk X.prog X.w H' h'):Inv X pins σ H' { s with heap:=h',toks:=t' }:=by
 obtain ⟨m,⟨o,es,ep,ho,r⟩,_⟩:=id I.loc;obtain ⟨sl,hL⟩:=u.any ho I.free (by simp);exact I.step (g':=s.gens) (d':=s.drawn) (ch:=[]) (λ_ z=>nomatch z) (λb o _ hb _ e n=>u.keep b o e n hb (by simp)) (λb o _ hb _ e n=>u.slot b o e n hb (by simp)) (λb o _ e n=>u.free b o e n (by simp)) (λb o _ e=>u.there b o e (by simp)) u.tups u.frzs u.tbls (λm' hm=>by
  obtain ⟨o',es',ep',ho',r'⟩:=hm;rw[ho] at ho';cases ho';exact ⟨_,es',ep',hL,r'⟩) hok I.bare
theorem Inv.call {g':Array GenState} {t':Nat} {d':Drawn} {ch:List Addr} (I:Inv X pins σ H s) (u:Un (frs X.stack) ch H H' s.heap h') (hok:HOk X.prog X.w H' h') (hg:AllBare g')
  (hch:∀b∈ch,(b∈X.ex∨X.s₀.heap.objs.size≤b)∧b≠X.env.locals∧(∀x c,X.env.cells.lookup x=some c→c≠b)∧∀p∈X.pn++pins,p.1≠b):
  Inv X pins σ H' { s with heap:=h',gens:=g',drawn:=d',toks:=t' }:=by
 obtain ⟨m,⟨o,es,ep,ho,r⟩,_⟩:=id I.loc;obtain ⟨sl,hL⟩:=u.any ho I.free λz=>(hch _ z).2.1 rfl;exact I.step (ch:=ch) hch (λb o hL hb hc e n=>u.keep b o e n (λz=>(List.mem_cons.mp (I.Aj b z)).elim hL hb) hc) (λb o _ _ hc e n=>u.any e n hc) (λb o hc e n=>u.free b o e n hc) (λb o hc e=>u.there b o e hc) u.tups u.frzs u.tbls (λm' hm=>by
  obtain ⟨o',es',ep',ho',r'⟩:=hm;rw[ho] at ho';cases ho';exact ⟨_,es',ep',hL,r'⟩) hok hg
theorem Inv.turned {t':Nat} {it:Addr} (I:Inv X pins σ H s) (k:∀b o,b≠it→s.heap.get? b=some o→h'.get? b=some o) (hn:H it=none) (hL:it≠X.env.locals)
  (h1:it∈X.ex∨X.s₀.heap.objs.size≤it) (h2:∀x c,X.env.cells.lookup x=some c→c≠it) (h3:∀p∈X.pn++pins,p.1≠it):Inv X pins σ H { s with heap:=h',toks:=t' }:=by
 have nit:∀b u,H b=some u→b≠it:=λb u e z=>by rw[z,hn] at e;cases e
 refine I.step (g':=s.gens) (d':=s.drawn) (ch:=[it]) (λb hb=>?_) (λb o _ _ hc e _=>k b o (λz=>hc (by simp[z])) e) (λb o _ _ hc e _=>⟨o.slots,k b o (λz=>hc (by simp[z])) e⟩) (λ_ _ _ _ n=>n)
  (λb o hc e=>⟨o,k b o (λz=>hc (by simp[z])) e⟩) (λ_ _ e=>e) (λ_ _ _ e=>e) (λb ps e=>⟨#[],by rw[e];simp⟩) (λm hm=>?_) (λb u e=>?_) I.bare
 ·have e:b=it:=by simpa using hb
  subst e;exact ⟨h1,hL,h2,h3⟩
 ·obtain ⟨o,es,ep,ho,r⟩:=hm;exact ⟨o,es,ep,k _ o (Ne.symm hL) ho,r⟩
 ·refine (I.hok b u e).vw (λc v hc q=>k c v ?_ q) (λ_ q=>q) λ_ _ q=>q;rcases hc with z | z
  ·rw[z];exact nit b u e
  ·exact nit c _ z
theorem Inv.tok (I:Inv X pins σ H s) (t:Nat):Inv X pins σ H { s with toks:=t }:=I.un (h':=s.heap) (t':=t) Un.refl I.hok
theorem Inv.kept {t':Nat} (I:Inv X pins σ H s) (k:∀b u,s.heap.get? b=some u→h'.get? b=some u):Inv X pins σ H { s with heap:=h',toks:=t' }:=I.un (Un.kept k) (I.hok.kept k)
theorem Inv.laid {a:Addr} {o:HO} {t':Nat} (I:Inv X pins σ H s) (k:∀b u,s.heap.get? b=some u→h'.get? b=some u) (hp:s.heap.objs.size≤a) (new:br X.prog X.w (upd H a o) h' a o):
  Inv X pins σ (upd H a o) { s with heap:=h',toks:=t' }:=I.un (Un.laid k hp (I.hok.fresh hp)) (I.hok.laid k hp new)
theorem Inv.write {x e:Addr} {o:HO} {t':Nat} (I:Inv X pins σ H s) (mu:Mut (H x)) (he:e=x∨H e=some (.own x)) (k:∀b u,b≠e→s.heap.get? b=some u→h'.get? b=some u) (heo:∃u,h'.get? e=some u)
  (new:br X.prog X.w (upd H x o) h' x o):Inv X pins σ (upd H x o) { s with heap:=h',toks:=t' }:=I.un (Un.write mu he k heo) (I.hok.write mu he k heo new)
theorem Inv.En {pins':List (Addr×Obj)} (I:Inv X pins σ H s) (h:∀p∈pins',s.heap.get? p.1=some p.2∧H p.1=none∧p.1≠X.env.locals∧p.1∉X.fs∧∀v,p.2.data≠.cell v):Inv X pins' σ H s:=
 ⟨I.ok,I.os,I.bare,I.base,I.loc,I.cell,I.free,I.freeC,λp hp=>(List.mem_append.mp hp).elim (λz=>I.pin p (abw _ z)) (h p),I.hok,I.len⟩
theorem yb {N:List Str} (hN:N.Nodup) {i j:Nat} {x:Str} (a:N[i]?=some x) (b:N[j]?=some x):i=j:=by
 obtain ⟨h1,e1⟩:=List.getElem?_eq_some_iff.mp a;obtain ⟨h2,e2⟩:=List.getElem?_eq_some_iff.mp b;exact (aei hN).mp (e1.trans e2.symm)
theorem uu {M:Model} {A:Around} {E:Value→Shared→Prop} {i:Nat} {x:Str} {v:V} {u:Value} {Q:Unit→Shared→Prop} (I:Inv X pins σ H s) (hN:X.N.Nodup) (hi:X.N[i]?=some x) (hx:Loc X.env.scope x) (r:RelV v u)
  (h:∀s',Inv X pins (σ.set i (some v)) H s'→(∃a,Heap.SameBut a s.heap s'.heap∧(a=X.env.locals∨X.env.cells.lookup x=some a))→Q () s') (hf:X.fn x=true∨X.env.scope.names.lookup x=some .local:=by first | exact .inl rfl | exact .inr rfl | assumption):wpAny M A (storeName X.env x u) Q E s:=by
 obtain ⟨m,hn,hl⟩:=id I.loc;have hcls:(X.env.scope.kind==.class||(X.env.scope.kind==.module&&X.env.locals !=X.env.globals))=false:=by rw[I.ok.kind];rfl
 have hiσ:i < σ.length:=by rw[I.len];exact (List.getElem?_eq_some_iff.mp hi).1
 have cne:=I.cne;have tracked:∀{a:Addr} {h':Heap},(∃o,s.heap.get? a=some o∧H a=none)→Heap.SameBut a s.heap h'→HOk X.prog X.w H h':=λ{a h'} ha hs b ob e=>by
  obtain ⟨_,_,hfree⟩:=ha;refine (I.hok b ob e).vw (λc w' hc q=>(hs.2 c ?_).trans q) (λ_ q=>q) λ_ _ q=>q;rintro rfl;rcases hc with rfl | hc
  ·rw[hfree] at e;cases e
  ·rw[hfree] at hc;cases hc
 rcases hx with hk | hk
 ·refine wpAny_storeName_local hk hn (λh' hn' hs=>?_) hcls;obtain ⟨oL,_,_,hoL,_⟩:=id hn;refine h _ ⟨I.ok,I.os,I.bare,⟨λb o e n hb hx=>?_,λb o e n hb hx=>?_,I.base.free,λb o e hx=>?_,I.base.tups,I.base.frzs,I.base.tbls⟩,⟨_,hn',λj y v' e1 e2 e3=>?_⟩,λy c e=>?_,I.free,I.freeC,λp hp=>?_,tracked ⟨oL,hoL,I.free⟩ hs,by simpa using I.len⟩ ⟨_,hs,.inl rfl⟩
  ·exact (hs.2 b (aap (aah (Heap.lt_size e) I.ok.above))).trans (I.base.keep b o e n hb hx)
  ·obtain ⟨sl,e1⟩:=I.base.slot b o e n hb hx;exact ⟨sl,(hs.2 b (aap (aah (Heap.lt_size e) I.ok.above))).trans e1⟩
  ·obtain ⟨o',e1⟩:=I.base.there b o e hx;exact ⟨o',(hs.2 b (aap (aah (Heap.lt_size e) I.ok.above))).trans e1⟩
  ·by_cases hj:j=i
   ·subst hj;rw[hi] at e1;cases e1;rw[adp hiσ] at e2;cases e2
    exact ⟨u,r,.inl ⟨hk,by simp⟩⟩
   ·rw[ady (Ne.symm hj)] at e2;obtain ⟨u',r',q⟩:=hl j y v' e1 e2 e3;refine ⟨u',r',?_⟩;rcases q with ⟨k,e⟩ | ⟨k,c,e,z⟩
    ·refine .inl ⟨k,?_⟩;have:y≠x:=λe=>hj (yb hN e1 (e ▸ hi));simp[this,e]
    ·exact .inr ⟨k,c,e,z.sameBut hs (cne y c e)⟩
  ·obtain ⟨w',z⟩:=I.cell y c e;exact ⟨w',z.sameBut hs (cne y c e)⟩
  ·obtain ⟨e,n,ne,nf,d⟩:=I.pin p hp;exact ⟨(hs.2 p.1 ne).trans e,n,ne,nf,d⟩
 ·have hfn:X.fn x=true:=by
   rcases hf with z | z
   ·exact z
   ·rw[z] at hk;cases hk
  obtain ⟨c,hc⟩:=I.ok.has x (.inl hk);obtain ⟨w',z⟩:=I.cell x c hc;refine wpAny_storeName_cell I.ok.kind hk hc z (λh' hc' hs=>?_);obtain ⟨oc,hoc,hocd⟩:=id z;refine h { s with heap:=h' } ⟨I.ok,I.os,I.bare,⟨λb o e n hb hx=>?_,λb o e n hb hx=>?_,I.base.free,λb o e hx=>?_,I.base.tups,I.base.frzs,I.base.tbls⟩,⟨m,hn.sameBut hs (Ne.symm (cne x c hc)),λj y v' e1 e2 e3=>?_⟩,λy c' e=>?_,I.free,I.freeC,λp hp=>?_,tracked ⟨oc,hoc,I.freeC x c hc⟩ hs,by simpa using I.len⟩ ⟨c,hs,.inr hc⟩
  ·exact (hs.2 b (aap (aah (Heap.lt_size e) (I.ok.cab x c hfn hc)))).trans (I.base.keep b o e n hb hx)
  ·obtain ⟨sl,e1⟩:=I.base.slot b o e n hb hx;exact ⟨sl,(hs.2 b (aap (aah (Heap.lt_size e) (I.ok.cab x c hfn hc)))).trans e1⟩
  ·obtain ⟨o',e1⟩:=I.base.there b o e hx;exact ⟨o',(hs.2 b (aap (aah (Heap.lt_size e) (I.ok.cab x c hfn hc)))).trans e1⟩
  ·by_cases hj:j=i
   ·subst hj;rw[hi] at e1;cases e1;rw[adp hiσ] at e2;cases e2
    exact ⟨u,r,.inr ⟨.inl hk,c,hc,hc'⟩⟩
   ·rw[ady (Ne.symm hj)] at e2;obtain ⟨u',r',q⟩:=hl j y v' e1 e2 e3;refine ⟨u',r',?_⟩;rcases q with q | ⟨k,c',e,z'⟩
    ·exact .inl q
    ·refine .inr ⟨k,c',e,z'.sameBut hs ?_⟩;rintro rfl;exact hj (yb hN e1 (I.ok.inj _ _ _ e hc ▸ hi))
  ·by_cases hcc:c'=c
   ·subst hcc;exact ⟨_,hc'⟩
   ·obtain ⟨w2,z2⟩:=I.cell y c' e;exact ⟨w2,z2.sameBut hs hcc⟩
  ·obtain ⟨e,n,ne,nf,d⟩:=I.pin p hp;refine ⟨(hs.2 p.1 ?_).trans e,n,ne,nf,d⟩;intro q;rw[q,hoc] at e;have q':oc=p.2:=aa6 e;exact d w' (by rw[←q'];exact hocd)
theorem ym {M:Model} {A:Around} {E:Value→Shared→Prop} {i:Nat} {x:Str} {v:V} {u:Value} {Q:Unit→Shared→Prop} (I:Inv X pins σ H s) (hN:X.N.Nodup) (hi:X.N[i]?=some x) (hx:Loc X.env.scope x) (r:RelV v u)
  (h:∀s',Inv X pins (σ.set i (some v)) H s'→Q () s') (hf:X.fn x=true∨X.env.scope.names.lookup x=some .local:=by first | exact .inl rfl | exact .inr rfl | assumption):wpAny M A (storeName X.env x u) Q E s:=
 uu I hN hi hx r (λs' I' _=>h s' I') hf
theorem Inv.call' {s':Shared} {ch:List Addr} (I:Inv X pins σ H s) (ho:s'.os=s.os) (u:Un (frs X.stack) ch H H' s.heap s'.heap) (hok:HOk X.prog X.w H' s'.heap) (hg:AllBare s'.gens)
  (hch:∀b∈ch,(b∈X.ex∨X.s₀.heap.objs.size≤b)∧b≠X.env.locals∧(∀x c,X.env.cells.lookup x=some c→c≠b)∧∀p∈X.pn++pins,p.1≠b):Inv X pins σ H' s':=by
 obtain ⟨h',g',d',t',o'⟩:=s';have e:o'=s.os:=ho;subst e;exact I.call (g':=g') (t':=t') (d':=d') u hok hg hch
end
abbrev XK:=Value→Option Addr→Hp→Prop
abbrev St:=List (Option V)
abbrev VK:=V→Hp→Prop
abbrev TE:=St→Hp→VK→Prop
abbrev TT:=St→Hp→(Bool→Hp→Prop)→Prop
abbrev TA:=St→Hp→(List V→Hp→Prop)→Prop
structure Ends where
 nx:St→Hp→Prop
 rt:VK
 bk:St→Hp→Prop:=λ_ _=>False
 ct:St→Hp→Prop:=λ_ _=>False
abbrev TS:=Ends→St→Hp→Prop
def EP (X:Cx) (pins:List (Addr×Obj)) (σ:St) (Q:VK) (u:Value) (s':Shared):Prop:=∃v H',Inv X pins σ H' s'∧RelV v u∧Q v H'
def TP (X:Cx) (pins:List (Addr×Obj)) (σ:St) (Q:Bool→Hp→Prop) (b:Bool) (s':Shared):Prop:=∃H',Inv X pins σ H' s'∧Q b H'
def AP (X:Cx) (pins:List (Addr×Obj)) (σ:St) (Q:List V→Hp→Prop) (us:List Value) (s':Shared):Prop:=∃vs H',Inv X pins σ H' s'∧Vals vs us∧Q vs H'
def SP (X:Cx) (pins:List (Addr×Obj)) (D:Ends) (f:Flow) (s':Shared):Prop:=
 match f with
 | .next=>∃σ' H',Inv X pins σ' H' s'∧D.nx σ' H'
 | .brk=>∃σ' H',Inv X pins σ' H' s'∧D.bk σ' H'
 | .cont=>∃σ' H',Inv X pins σ' H' s'∧D.ct σ' H'
 | .ret u=>∃v σ' H',Inv X pins σ' H' s'∧RelV v u∧D.rt v H'
def PE (X:Cx) (e:Expr) (t:TE):Prop:=
 ∀(pins:List (Addr×Obj)) (s:Shared) (σ:St) (H:Hp) (Q:VK),Inv X pins σ H s→t σ H Q→wpAny (model X.prog X.w) X.A (eval e X.env) (EP X pins σ Q) X.xe s
def PT (X:Cx) (e:Expr) (t:TT):Prop:=
 ∀(pins:List (Addr×Obj)) (s:Shared) (σ:St) (H:Hp) (Q:Bool→Hp→Prop),Inv X pins σ H s→t σ H Q→wpAny (model X.prog X.w) X.A (isTrue e X.env (eval e X.env)) (TP X pins σ Q) X.xe s
def PW (X:Cx) (e:Expr) (t:TT):Prop:=
 ∀(whole:Sem Value) (pins:List (Addr×Obj)) (s:Shared) (σ:St) (H:Hp) (Q:Bool→Hp→Prop),Inv X pins σ H s→t σ H Q→wpAny (model X.prog X.w) X.A (isTrue e X.env whole) (TP X pins σ Q) X.xe s
theorem PW.pt {X:Cx} {e:Expr} {t:TT} (h:PW X e t):PT X e t:=h _
def PA (X:Cx) (es:List Expr) (t:TA):Prop:=
 ∀(pos:Pos) (pins:List (Addr×Obj)) (s:Shared) (σ:St) (H:Hp) (Q:List V→Hp→Prop),Inv X pins σ H s→t σ H Q→wpAny (model X.prog X.w) X.A (spliced (backTo pos (starEach es X.env))) (AP X pins σ Q) X.xe s
def PS (X:Cx) (st:Stmt) (t:TS):Prop:=
 ∀(pins:List (Addr×Obj)) (s:Shared) (σ:St) (H:Hp) (D:Ends),Inv X pins σ H s→t D σ H→wpAny (model X.prog X.w) X.A (exec st X.env) (SP X pins D) X.xe s
def PSs (X:Cx) (st:List Stmt) (t:TS):Prop:=
 ∀(pins:List (Addr×Obj)) (s:Shared) (σ:St) (H:Hp) (D:Ends),Inv X pins σ H s→t D σ H→wpAny (model X.prog X.w) X.A (execs st X.env) (SP X pins D) X.xe s
theorem thn {α:Type} {t:Sem α} {Q Q':α→Shared→Prop} {M:Model} {A:Around} {E:Value→Shared→Prop} {s:Shared} (h:wpAny M A t Q E s) (hQ:∀a s,Q a s→Q' a s):wpAny M A t Q' E s:=wpAny_mono h hQ λ_ _ x=>x
section
variable {X:Cx}
def tVar (i:Nat):TE:=λσ H Q=>∃v,σ[i]?=some (some v)∧Q v H
def tC (v:V):TE:=λ_ H Q=>Q v H
theorem Kh {i:Nat} {x:Str} {pos:Pos} (hN:X.N[i]?=some x) (hv:Vis X.env.scope x) (hd:(x==("__debug__":Str))=false:=by decide) (hcd:(x==("__classdict__":Str))=false:=by decide):PE X (.Name x pos) (tVar i):=by
 intro pins s σ H Q I h;obtain ⟨v,e,h⟩:=h;obtain ⟨m,hn,hl⟩:=I.loc;obtain ⟨u,r,l⟩:=hl i x v hN e hv;have fin:EP X pins σ Q u s:=⟨v,H,I,r,h⟩;rcases l with ⟨hk,hm⟩ | ⟨hk,c,hc,hcell⟩
 ·exact wpAny_Name (wpAny_loadName_local I.ok.kind hk hn hm fin) hd
 ·rcases hk with hk | hk
  ·exact wpAny_Name (wpAny_loadName_cell I.ok.kind hk hc hcell fin) hd
  ·exact wpAny_Name (wpAny_loadName_free I.ok.kind hk hc hcell fin hcd) hd
theorem Kn {i j pos}:PE X (.Constant (.int i) j pos) (tC (.int i)):=λ_ _ _ H _ I h=>wpAny_Constant_int ⟨.int i,H,I.tok _,⟨_,rfl⟩,h⟩
theorem Dj {b j pos}:PE X (.Constant (.bool b) j pos) (tC (.bl b)):=λ_ _ _ H _ I h=>Constant_bool ⟨.bl b,H,I,rfl,h⟩
theorem Bf {j pos}:PE X (.Constant .none j pos) (tC .non):=λ_ _ _ H _ I h=>Constant_none ⟨.non,H,I,rfl,h⟩
theorem Hj {x j pos}:PE X (.Constant (.str x) j pos) (tC (.str x)):=λ_ _ _ H _ I h=>Calls.Constant_str ⟨.str x,H,I.tok _,⟨_,rfl⟩,h⟩
def Gl (X:Cx) (x:Str):Prop:=X.env.kindOf x=some .globalImplicit
theorem Dm {E:Value→Shared→Prop} {pins:List (Addr×Obj)} {s:Shared} {σ:St} {H:Hp} {x:Str} {u:Value} {pos:Pos} {Q:Value→Shared→Prop} (I:Inv X pins σ H s) (hg:Gl X x) (hm:X.mg x=some u) (h:Q u s)
  (hd:(x==("__debug__":Str))=false:=by decide):wpAny (model X.prog X.w) X.A (eval (.Name x pos) X.env) Q E s:=
 Calls.Name_function_global I.ok.kind hg (Calls.loadGlobal_global (by rw[I.ok.glob];exact I.mod.glob.keeps I.bk) hm h) hd
theorem il {E:Value→Shared→Prop} {pins:List (Addr×Obj)} {s:Shared} {σ:St} {H:Hp} {x:Str} {u:Value} {pos:Pos} {Q:Value→Shared→Prop} (I:Inv X pins σ H s) (hg:Gl X x) (hm:X.mg x=none) (hv:bootBuiltins x=some u) (h:Q u s)
  (hn:x≠"__name__":=by decide) (hd:(x==("__debug__":Str))=false:=by decide):wpAny (model X.prog X.w) X.A (eval (.Name x pos) X.env) Q E s:=by
 obtain ⟨mb,h1,h2⟩:=I.mod.blt;exact Calls.Name_function_global I.ok.kind hg (Calls.loadGlobal_builtin (by rw[I.ok.glob];exact I.mod.glob.keeps I.bk) hm (by rw[I.ok.blt];exact h1.keeps I.bk) ((h2 x hn).trans hv) h) hd
theorem Lr {x:Str} {v:V} {u:Value} {pos:Pos} (hg:Gl X x) (hm:X.mg x=some u) (r:RelV v u) (hd:(x==("__debug__":Str))=false:=by decide):PE X (.Name x pos) (tC v):=
 λ_ _ _ H _ I h=>Dm I hg hm ⟨v,H,I,r,h⟩ hd
theorem L6 {x:Str} {v:V} {u:Value} {pos:Pos} (hg:Gl X x) (hm:X.mg x=none) (hv:bootBuiltins x=some u) (r:RelV v u) (hn:x≠"__name__":=by decide) (hd:(x==("__debug__":Str))=false:=by decide):PE X (.Name x pos) (tC v):=
 λ_ _ _ H _ I h=>il I hg hm hv ⟨v,H,I,r,h⟩ hn hd
variable {a b:Expr} {ta tb:TE} {pos:Pos}
def PC (X:Cx) (op:CmpOp) (a b:Expr) (t:TE):Prop:=
 ∀(pins:List (Addr×Obj)) (s:Shared) (σ:St) (H:Hp) (Q:VK),Inv X pins σ H s→t σ H Q→
  wpAny (model X.prog X.w) X.A (eval a X.env) (λv s₁=>wpAny (model X.prog X.w) X.A (eval b X.env) (λu s₂=>wpAny (model X.prog X.w) X.A (compareOp op v u) (EP X pins σ Q) X.xe s₂) X.xe s₁) X.xe s
theorem gk (b:Expr) {op:CmpOp} (h:op≠.In) (h2:op≠.NotIn):behindInMarks op b=false:=by
 have e1:(op==CmpOp.In)=false:=by cases op <;> first | rfl | exact absurd rfl h
 have e2:(op==CmpOp.NotIn)=false:=by cases op <;> first | rfl | exact absurd rfl h2
 cases b <;> simp[behindInMarks,e1,e2]
def tIsN (ta:TE):TE:=λσ H Q=>ta σ H λx H1=>Q (.bl (decide (x=.non))) H1
def tNotN (ta:TE):TE:=λσ H Q=>ta σ H λx H1=>Q (.bl (!decide (x=.non))) H1
theorem RelV.zr {x:V} {v:Value} (r:RelV x v):(v==Value.none)=decide (x=.non):=by
 cases x with
 | non=>cases r;rfl
 | bl _=>cases r;rfl
 | int _=>obtain ⟨t,rfl⟩:=r;rfl
 | str _=>obtain ⟨t,rfl⟩:=r;rfl
 | byt _=>obtain ⟨t,rfl⟩:=r;rfl
 | flt _=>obtain ⟨t,rfl⟩:=r;rfl
 | ref _=>cases r;rfl
 | ty _=>cases r;rfl
theorem pc_isN {j pos'} (ha:PE X a ta):PC X .Is a (.Constant .none j pos') (tIsN ta):=by
 intro pins s σ H Q I h;refine thn (ha pins s σ H _ I h) λv s1 ⟨x,H1,I1,r1,q1⟩=>?_;exact Constant_none (is_none_gen ⟨.bl _,H1,I1,by rw[r1.zr];rfl,q1⟩)
theorem M5 {j pos'} (ha:PE X a ta):PC X .IsNot a (.Constant .none j pos') (tNotN ta):=by
 intro pins s σ H Q I h;refine thn (ha pins s σ H _ I h) λv s1 ⟨x,H1,I1,r1,q1⟩=>?_;exact Constant_none (isnot_none_gen ⟨.bl _,H1,I1,by rw[r1.zr];rfl,q1⟩)
def tB (t:TE):TT:=λσ H Q=>t σ H λx H1=>∃c,x=.bl c∧Q c H1
theorem pt_cmp {op:CmpOp} {t:TE} (h:PC X op a b t) (h1:behindInMarks op b=false:=by first | exact gk _ (by decide) (by decide) | rfl):PT X (.Compare a [op] [b] pos) (tB t):=by
 intro pins s σ H Q I hw;refine wpAny_isTrue_Compare1 (thn (h pins s σ H _ I hw) λv s1 h1=>thn h1 λu s2 h2=>thn h2 λc s3 ⟨x,H1,I1,r1,q1⟩=>?_) h1;obtain ⟨d,rfl,q⟩:=q1;cases r1
 exact wpAny_truthy_bool ⟨H1,I1,q⟩
theorem pt_val {e:Expr} {t:TE} (h:PE X e t) (he:∀whole,isTrue e X.env whole=(do let v ←whole;standAt e.pos;holding [v] (truthy v)):=by intro _;rfl):PT X e (tB t):=by
 intro pins s σ H Q I hw;refine isTrue_plain (thn (h pins s σ H _ I hw) λv s1 ⟨x,H1,I1,r1,q1⟩=>?_) (he _);obtain ⟨d,rfl,q⟩:=q1;cases r1
 exact wpAny_truthy_bool ⟨H1,I1,q⟩
variable {tA tB':TT} {rest:List Expr}
def tAnd (t u:TT):TT:=λσ H Q=>t σ H λc H1=>if c=true then u σ H1 Q else Q false H1
def tOr (t u:TT):TT:=λσ H Q=>t σ H λc H1=>if c=true then Q true H1 else u σ H1 Q
def tNot (t:TT):TT:=λσ H Q=>t σ H λc H1=>Q (!c) H1
theorem o9 (ha:PT X a tA):PW X (.BoolOp .And [a] pos) tA:=by
 intro wh pins s σ H Q I h;refine isTrue_and (thn (ha pins s σ H Q I h) λc s1 e=>?_);cases c with
 | true=>exact isTrue_and_nil e
 | false=>exact e
theorem pw_or1 (ha:PT X a tA):PW X (.BoolOp .Or [a] pos) tA:=by
 intro wh pins s σ H Q I h;refine isTrue_or (thn (ha pins s σ H Q I h) λc s1 e=>?_);cases c with
 | false=>exact isTrue_or_nil e
 | true=>exact e
theorem pw_and (ha:PT X a tA) (hb:PW X (.BoolOp .And (b::rest) pos) tB'):PW X (.BoolOp .And (a::b::rest) pos) (tAnd tA tB'):=by
 intro wh pins s σ H Q I h;refine isTrue_and (thn (ha pins s σ H _ I h) λc s1 ⟨H1,I1,q1⟩=>?_);cases c with
 | true=>exact hb wh pins s1 σ H1 Q I1 q1
 | false=>exact ⟨H1,I1,q1⟩
theorem pw_or (ha:PT X a tA) (hb:PW X (.BoolOp .Or (b::rest) pos) tB'):PW X (.BoolOp .Or (a::b::rest) pos) (tOr tA tB'):=by
 intro wh pins s σ H Q I h;refine isTrue_or (thn (ha pins s σ H _ I h) λc s1 ⟨H1,I1,q1⟩=>?_);cases c with
 | true=>exact ⟨H1,I1,q1⟩
 | false=>exact hb wh pins s1 σ H1 Q I1 q1
theorem xk (ha:PT X a tA):PT X (.UnaryOp .Not a pos) (tNot tA):=by
 intro pins s σ H Q I h;exact isTrue_not (ha pins s σ H (λc H1=>Q (!c) H1) I h)
def tAndV (ta tb:TE):TE:=λσ H Q=>ta σ H λx H1=>∃c,x=.bl c∧if c=true then tb σ H1 Q else Q (.bl false) H1
def tOrV (ta tb:TE):TE:=λσ H Q=>ta σ H λx H1=>∃c,x=.bl c∧if c=true then Q (.bl true) H1 else tb σ H1 Q
def tNotV (ta:TE):TE:=λσ H Q=>ta σ H λx H1=>∃c,x=.bl c∧Q (.bl (!c)) H1
theorem pe_one {op} {t:TE} (h:PE X a t):PE X (.BoolOp op [a] pos) t:=λpins s σ H Q I hw=>BoolOp_one (h pins s σ H Q I hw)
theorem pe_and (ha:PE X a ta) (hb:PE X (.BoolOp .And (b::rest) pos) tb):PE X (.BoolOp .And (a::b::rest) pos) (tAndV ta tb):=by
 intro pins s σ H Q I h;refine BoolOp_and (thn (ha pins s σ H _ I h) λv s1 ⟨x,H1,I1,r1,q1⟩=>?_);obtain ⟨c,rfl,q1⟩:=q1;cases r1
 refine wpAny_truthy_bool ?_;cases c with
 | true=>exact hb pins s1 σ H1 Q I1 q1
 | false=>exact ⟨.bl false,H1,I1,rfl,q1⟩
theorem pe_or (ha:PE X a ta) (hb:PE X (.BoolOp .Or (b::rest) pos) tb):PE X (.BoolOp .Or (a::b::rest) pos) (tOrV ta tb):=by
 intro pins s σ H Q I h;refine BoolOp_or (thn (ha pins s σ H _ I h) λv s1 ⟨x,H1,I1,r1,q1⟩=>?_);obtain ⟨c,rfl,q1⟩:=q1;cases r1
 refine wpAny_truthy_bool ?_;cases c with
 | false=>exact hb pins s1 σ H1 Q I1 q1
 | true=>exact ⟨.bl true,H1,I1,rfl,q1⟩
theorem B2 (ha:PE X a ta):PE X (.UnaryOp .Not a pos) (tNotV ta):=by
 intro pins s σ H Q I h;refine UnaryOp_ (thn (ha pins s σ H _ I h) λv s1 ⟨x,H1,I1,r1,q1⟩=>?_);obtain ⟨c,rfl,q1⟩:=q1;cases r1
 exact not_of (wpAny_truthy_bool ⟨.bl (!c),H1,I1,rfl,q1⟩)
def tIf (t:TT) (ta tb:TE):TE:=λσ H Q=>t σ H λc H1=>if c=true then ta σ H1 Q else tb σ H1 Q
theorem Jg {c:Expr} (hc:PT X c tA) (ha:PE X a ta) (hb:PE X b tb):PE X (.IfExp c a b pos) (tIf tA ta tb):=by
 intro pins s σ H Q I h;refine wpAny_IfExp (thn (hc pins s σ H _ I h) λd s1 ⟨H1,I1,q1⟩=>?_);cases d with
 | true=>exact ha pins s1 σ H1 Q I1 q1
 | false=>exact hb pins s1 σ H1 Q I1 q1
end
def SqL (K:PySem.W.Frag) (H:Hp) (a:Addr) (xs:List V):Prop:=
 Rd H a (.lst xs)∨
  ∃(o:Obj) (its:Array Value) (n:Nat),K.lookup a=some o∧o.cls=.type "list"∧o.dict=none∧o.data=.seq its n∧its.size≤sizeLine∧Vals xs its.toList
def SqT (K:PySem.W.Frag) (H:Hp) (a:Addr) (xs:List V):Prop:=
 Rd H a (.tup xs)∨
  ∃(o:Obj) (its:Array Value) (n:Nat),K.lookup a=some o∧o.cls=.type "tuple"∧o.data=.seq its n∧its.size≤sizeLine∧Vals xs its.toList
noncomputable def absV:Value→Option V
 | .none=>some .non
 | .bool b=>some (.bl b)
 | .int i _=>some (.int i)
 | .str x _=>some (.str x)
 | .bytes b _=>some (.byt b)
 | .float b _=>some (.flt b)
 | .ref a=>some (.ref a)
 | .type n=>some (.ty n)
 | _=>none
theorem RelV.abs {x:V} {u:Value} (r:RelV x u):absV u=some x:=by
 cases x with
 | non=>cases r;rfl
 | bl _=>cases r;rfl
 | int _=>obtain ⟨t,rfl⟩:=r;rfl
 | str _=>obtain ⟨t,rfl⟩:=r;rfl
 | byt _=>obtain ⟨t,rfl⟩:=r;rfl
 | flt _=>obtain ⟨t,rfl⟩:=r;rfl
 | ref _=>cases r;rfl
 | ty _=>cases r;rfl
theorem RelV.inj {x y:V} {u:Value} (r:RelV x u) (q:RelV y u):x=y:=aa6 (r.abs.symm.trans q.abs)
theorem Vals.inj:∀{xs ys:List V} {us:List Value},Vals xs us→Vals ys us→xs=ys
 | _,_,_,.nil,.nil=>rfl
 | _,_,_,.cons r t,.cons r' t'=>by rw[r.inj r',Vals.inj t t']
section
variable {X:Cx} {pins:List (Addr×Obj)} {σ:St} {H:Hp} {s:Shared} {a:Addr} {xs ys:List V}
theorem SqL.of {K:PySem.W.Frag} (h:H a=some (.lst xs)):SqL K H a xs:=.inl (.inl h)
theorem SqT.of {K:PySem.W.Frag} (h:H a=some (.tup xs)):SqT K H a xs:=.inl (.inl h)
theorem Inv.list (I:Inv X pins σ H s) (h:SqL X.K H a xs):∃its:List Value,Vals xs its∧PlainL s.heap a its.toArray∧xs.length≤sizeLine:=by
 rcases h with h | ⟨o,its,n,hk,hc,hd,hs,hz,r⟩
 ·obtain ⟨z,its,n,r,e⟩:=h.ok I.hok;exact ⟨its,r,⟨_,n,e,rfl,rfl,rfl⟩,z⟩
 ·refine ⟨its.toList,r,⟨o,n,I.kIn a o hk,hc,hd,by simpa using hs⟩,?_⟩;have e:=r.length;simp only[ab9] at e;omega
theorem Inv.tuple (I:Inv X pins σ H s) (h:SqT X.K H a xs):∃its:List Value,Vals xs its∧IsTup s.heap a its.toArray∧xs.length≤sizeLine:=by
 rcases h with h | ⟨o,its,n,hk,hc,hs,hz,r⟩
 ·obtain ⟨z,its,r,p⟩:=h.ok I.hok;exact ⟨its,r,p.tup,z⟩
 ·refine ⟨its.toList,r,⟨o,I.kIn a o hk,hc,n,by simpa using hs⟩,?_⟩;have e:=r.length;simp only[ab9] at e;omega
theorem Inv.ng (I:Inv X pins σ H s) (h:SqL X.K H a xs) (h':SqL X.K H a ys):xs=ys:=by
 obtain ⟨its,r,⟨o,n,e,_,_,d⟩,_⟩:=I.list h;obtain ⟨its',r',⟨o',n',e',_,_,d'⟩,_⟩:=I.list h';rw[e] at e';cases e';rw[d] at d';injection d' with d1 _
 have:its=its':=by simpa using congrArg Array.toList d1
 subst this;exact r.inj r'
theorem Inv.vp (I:Inv X pins σ H s) (h:SqT X.K H a xs) (h':SqT X.K H a ys):xs=ys:=by
 obtain ⟨its,r,⟨o,e,_,n,d⟩,_⟩:=I.tuple h;obtain ⟨its',r',⟨o',e',_,n',d'⟩,_⟩:=I.tuple h';rw[e] at e';cases e';rw[d] at d';injection d' with d1 _
 have:its=its':=by simpa using congrArg Array.toList d1
 subst this;exact r.inj r'
end
noncomputable abbrev Cx.ug (X:Cx) (E:Value→Shared→Prop):Cx:={ X with xe:=E }
noncomputable abbrev Cx.nox (X:Cx):Cx:=X.ug λ_ _=>False
theorem Cx.Ok.ug {X:Cx} (ok:X.Ok) (E:Value→Shared→Prop):(X.ug E).Ok:=
 ⟨ok.mod,ok.kind,ok.glob,ok.blt,ok.above,ok.inj,ok.has,ok.cab,ok.hd,ok.frames,ok.stk,ok.exf,ok.bs,ok.bsz,ok.noex,ok.exfs,ok.ou,ok.frf⟩
theorem Cx.Ok.i9 {X:Cx} {E:Value→Shared→Prop} (ok:(X.ug E).Ok):X.Ok:=
 ⟨ok.mod,ok.kind,ok.glob,ok.blt,ok.above,ok.inj,ok.has,ok.cab,ok.hd,ok.frames,ok.stk,ok.exf,ok.bs,ok.bsz,ok.noex,ok.exfs,ok.ou,ok.frf⟩
section
variable {X:Cx} {pins:List (Addr×Obj)} {σ:St} {H:Hp} {s:Shared} {E:Value→Shared→Prop}
theorem Inv.ug (I:Inv X pins σ H s) (E:Value→Shared→Prop):Inv (X.ug E) pins σ H s:=⟨I.ok.ug E,I.os,I.bare,I.base,I.loc,I.cell,I.free,I.freeC,I.pin,I.hok,I.len⟩
theorem Inv.i9 (I:Inv (X.ug E) pins σ H s):Inv X pins σ H s:=⟨I.ok.i9,I.os,I.bare,I.base,I.loc,I.cell,I.free,I.freeC,I.pin,I.hok,I.len⟩
theorem SP.i9 {D:Ends} {f:Flow} {s':Shared} (h:SP (X.ug E) pins D f s'):SP X pins D f s':=by
 cases f with
 | next=>obtain ⟨σ',H',I,q⟩:=h;exact ⟨σ',H',I.i9,q⟩
 | brk=>obtain ⟨σ',H',I,q⟩:=h;exact ⟨σ',H',I.i9,q⟩
 | cont=>obtain ⟨σ',H',I,q⟩:=h;exact ⟨σ',H',I.i9,q⟩
 | ret u=>obtain ⟨v,σ',H',I,r,q⟩:=h;exact ⟨v,σ',H',I.i9,r,q⟩
theorem PSs.nox {st:List Stmt} {t:TS} (h:PSs X.nox st t):PSs X st t:=λpins s σ H D I hw=>
 wpAny_mono (h pins s σ H D (I.ug _) hw) (λ_ _ q=>q.i9) λ_ _ z=>False.elim z
end
section
variable {X:Cx} {st:Stmt} {rest:List Stmt} {t u:TS} {e:Expr} {te:TE} {pos:Pos}
def tNext:TS:=λD σ H=>D.nx σ H
def tSeq (t u:TS):TS:=λD σ H=>t { D with nx:=u D } σ H
theorem Lq:PSs X [] tNext:=λ_ _ σ H _ I h=>wpAny_execs_nil ⟨σ,H,I,h⟩
theorem Jo (h1:PS X st t) (h2:PSs X rest u):PSs X (st::rest) (tSeq t u):=by
 intro pins s σ H D I h;refine wpAny_execs_cons (thn (h1 pins s σ H { D with nx:=u D } I h) λf s1 q=>?_);cases f with
 | next=>
  obtain ⟨σ',H',I',q⟩:=q;exact h2 pins s1 σ' H' D I' q
 | ret v=>exact q
 | brk=>exact q
 | cont=>exact q
theorem K4 (h1:PS X st t):PSs X [st] t:=by
 intro pins s σ H D I h;refine wpAny_execs_cons (thn (h1 pins s σ H D I h) λf s1 q=>?_);cases f with
 | next=>exact wpAny_execs_nil q
 | ret v=>exact q
 | brk=>exact q
 | cont=>exact q
def tCont:TS:=λD σ H=>D.ct σ H
theorem zf:PS X (.Continue pos) tCont:=λ_ _ σ H _ I h=>wpAny_Continue ⟨σ,H,I,h⟩
theorem Inv.quiet {pins:List (Addr×Obj)} {σ:St} {H:Hp} {s:Shared} (I:Inv X pins σ H s):interactive X.env=false:=by simp[interactive,I.ok.kind]
def tDrop (te:TE):TS:=λD σ H=>te σ H λ_ H1=>D.nx σ H1
theorem M7 (he:PE X e te) (hs:swapsWith e none pos.line X.env=pure false:=by rfl):PS X (.Expr e pos) (tDrop te):=by
 intro pins s σ H D I h;exact wpAny_Expr_any (thn (he pins s σ H _ I h) λv s1 ⟨x,H1,I1,r1,q1⟩=>⟨σ,H1,I1,q1⟩) I.quiet hs
def tRet (te:TE):TS:=λD σ H=>te σ H D.rt
theorem ps_ret (he:PE X e te):PS X (.Return (some e) pos) (tRet te):=by
 intro pins s σ H D I h;exact wpAny_Return_some (thn (he pins s σ H _ I h) λv s1 ⟨x,H1,I1,r1,q1⟩=>⟨x,σ,H1,I1,r1,q1⟩)
def tRetN:TS:=λD _ H=>D.rt .non H
def tIfS (c:TT) (t u:TS):TS:=λD σ H=>c σ H λb H1=>if b=true then t D σ H1 else u D σ H1
theorem ps_if {c:Expr} {a b:List Stmt} {tc:TT} (hc:PT X c tc) (ha:PSs X a t) (hb:PSs X b u):PS X (.If c a b pos) (tIfS tc t u):=by
 intro pins s σ H D I h;refine wpAny_If (thn (hc pins s σ H _ I h) λd s1 ⟨H1,I1,q1⟩=>?_);cases d with
 | true=>exact ha pins s1 σ H1 D I1 q1
 | false=>exact hb pins s1 σ H1 D I1 q1
def tNever:TS:=λ_ _ _=>False
theorem gq:PS X st tNever:=λ_ _ _ _ _ _ h=>h.elim
end
abbrev TG:=V→St→Hp→(St→Hp→Prop)→Prop
abbrev TGs:=List V→St→Hp→(St→Hp→Prop)→Prop
def PG (X:Cx) (target:Expr) (t:TG):Prop:=
 ∀(pins:List (Addr×Obj)) (s:Shared) (σ:St) (H:Hp) (v:V) (u:Value) (Q:St→Hp→Prop),Inv X pins σ H s→RelV v u→t v σ H Q→
  wpAny (model X.prog X.w) X.A (assign target X.env u) (λ_ s'=>∃σ' H',Inv X pins σ' H' s'∧Q σ' H') X.xe s
def PGs (X:Cx) (ts:List Expr) (t:TGs):Prop:=
 ∀(pins:List (Addr×Obj)) (s:Shared) (σ:St) (H:Hp) (vs:List V) (us:List Value) (Q:St→Hp→Prop),Inv X pins σ H s→Vals vs us→t vs σ H Q→
  wpAny (model X.prog X.w) X.A (assignInOrder ((assignEach ts X.env).map (·.2)) us) (λ_ s'=>∃σ' H',Inv X pins σ' H' s'∧Q σ' H') X.xe s
abbrev TSet:=V→V→V→Hp→(Hp→Prop)→Prop
def PSet (X:Cx) (t:TSet):Prop:=
 ∀(pins:List (Addr×Obj)) (s:Shared) (σ:St) (H:Hp) (o i v:V) (ov iv u:Value) (Q:Hp→Prop),Inv X pins σ H s→RelV o ov→RelV i iv→RelV v u→t o i v H Q→
  wpAny (model X.prog X.w) X.A (setItem ov iv u) (λ_ s'=>∃H',Inv X pins σ H' s'∧Q H') X.xe s
section
variable {X:Cx} {pos:Pos}
def cm (i:Nat):TG:=λv σ H Q=>Q (σ.set i (some v)) H
theorem Ei {i:Nat} {x:Str} (hN:X.N.Nodup) (hi:X.N[i]?=some x) (hx:Loc X.env.scope x) (hf:X.fn x=true∨X.env.scope.names.lookup x=some .local:=by first | exact .inl rfl | exact .inr rfl | assumption):PG X (.Name x pos) (cm i):=by
 intro pins s σ H v u Q I r h;exact wpAny_assign_Name (ym I hN hi hx r (λs' I'=>⟨_,H,I',h⟩) hf)
def xm:TGs:=λvs σ H Q=>vs=[]∧Q σ H
def dz (t:TG) (u:TGs):TGs:=λvs σ H Q=>∃v r,vs=v::r∧t v σ H λσ' H'=>u r σ' H' Q
theorem L9:PGs X [] xm:=by
 intro pins s σ H vs us Q I r h;obtain ⟨e,h⟩:=h;subst e;cases r
 exact assignInOrder_nil ⟨σ,H,I,h⟩
theorem Ja {e:Expr} {es:List Expr} {t:TG} {u:TGs} (h1:PG X e t) (h2:PGs X es u)
  (hs:(assignEach (e::es) X.env).map (·.2)=assign e X.env::(assignEach es X.env).map (·.2):=by rfl):PGs X (e::es) (dz t u):=by
 intro pins s σ H vs us Q I r h;obtain ⟨v,vr,e1,h⟩:=h;subst e1;cases r with
 | cons r rr=>
  rw[hs];refine assignInOrder_cons (thn (h1 pins s σ H _ _ _ I r h) λ_ s1 ⟨σ1,H1,I1,q1⟩=>?_);exact h2 pins s1 σ1 H1 _ _ Q I1 rr q1
def ub (K:PySem.W.Frag) (n:Nat) (t:TGs):TG:=λv σ H Q=>∃a xs,v=.ref a∧SqT K H a xs∧xs.length=n∧t xs σ H Q
theorem J7 {es:List Expr} {k:Nat} {t:TGs} {n:Nat} (hc:X.calm=true) (h:PGs X es t)
  (hn:(assignEach es X.env).length=n:=by rfl) (hst:(assignEach es X.env).findIdx? (·.1)=none:=by rfl):PG X (.Tuple es k pos) (ub X.K n t):=by
 intro pins s σ H v u Q I r hw;obtain ⟨a,xs,e1,hq,hl,hw⟩:=hw;subst e1;cases r
 obtain ⟨its,rv,ht,hz⟩:=I.tuple hq;refine assign_Tuple_tuple (I.ok.hd hc) ht (by simp[hn,←hl,rv.length]) hst λh' hx=>?_;have I1:Inv X pins σ H { s with heap:=h' }:=I.kept (t':=s.toks) λb o e=>hx b o (aap (Heap.lt_size e)) e;exact h pins _ σ H xs _ Q I1 (by simpa using rv) hw
def gSub (to ti:TE) (t:TSet):TG:=λv σ H Q=>to σ H λo H1=>ti σ H1 λi H2=>t o i v H2 λH3=>Q σ H3
theorem pg_sub {o i:Expr} {to ti:TE} {t:TSet} (ho:PE X o to) (hi:PE X i ti) (hs:PSet X t)
  (ha:∀v,assign (.Subscript o i pos) X.env v=(do
   let ov ←holding [v] (eval o X.env)
   let iv ←holding [v,ov] (eval i X.env)
   standAt pos
   holding [v,ov,iv] (setItem ov iv v)
   release [v,ov,iv] []):=by intro _;rfl):PG X (.Subscript o i pos) (gSub to ti t):=by
 intro pins s σ H v u Q I r h;rw[ha];refine wpAny_bind (wpAny_holding (thn (ho pins s σ H _ I h) λov s1 ⟨x,H1,I1,r1,q1⟩=>?_));refine wpAny_bind (wpAny_holding (thn (hi pins s1 σ H1 _ I1 q1) λiv s2 ⟨y,H2,I2,r2,q2⟩=>?_));refine wpAny_bind (wpAny_standAt (wpAny_bind (wpAny_holding (thn (hs pins s2 σ H2 x y v ov iv u _ I2 r1 r2 r q2) λ_ s3 ⟨H3,I3,q3⟩=>?_))));exact wpAny_release ⟨σ,H3,I3,q3⟩
def tAsg (te:TE) (g:TG):TS:=λD σ H=>te σ H λx H1=>g x σ H1 D.nx
theorem ps_asg {tg e:Expr} {te:TE} {g:TG} (he:PE X e te) (hg:PG X tg g) (hs:swapsWithSole [tg] e pos.line X.env=pure false:=by rfl) (hw:swappedStores [tg] e X.env=pure none:=by rfl)
  (h1:(assignEach [tg] X.env).map (·.2)=[assign tg X.env]:=by rfl):PS X (.Assign [tg] e pos) (tAsg te g):=by
 intro pins s σ H D I h;refine wpAny_Assign_stores (thn (he pins s σ H _ I h) λv s1 ⟨x,H1,I1,r1,q1⟩=>?_) hs hw;rw[h1];exact thn (hg pins s1 σ H1 x v _ I1 r1 q1) λ_ s2 q=>q
theorem ps_set {i:Nat} {x:Str} {e:Expr} {te:TE} {pos':Pos} (hN:X.N.Nodup) (hi:X.N[i]?=some x) (hx:Loc X.env.scope x) (he:PE X e te) (hs:swapsWith e (some (.Name x pos')) pos.line X.env=pure false:=by rfl) (hf:X.fn x=true∨X.env.scope.names.lookup x=some .local:=by first | exact .inl rfl | exact .inr rfl | assumption):
  PS X (.Assign [.Name x pos'] e pos) (tAsg te (cm i)):=by
 intro pins s σ H D I h;refine wpAny_Assign_Name (thn (he pins s σ H _ I h) λv s1 ⟨y,H1,I1,r1,q1⟩=>?_) hs;exact ym I1 hN hi hx r1 (λs2 I2=>⟨_,H1,I2,q1⟩) hf
end
section
variable {X:Cx} {pos:Pos}
def Hx (c:TT) (tb:TS):TS:=λD σ H=>∃W:Nat→St→Hp→Prop,(∃m,W m σ H)∧∀m σ H,W m σ H→
 c σ H λb H1=>if b=true then ∃N:St→Hp→Prop,(∀σ' H',N σ' H'→∃m',m' < m∧W m' σ' H')∧tb { D with nx:=N,ct:=N,bk:=D.nx } σ H1 else D.nx σ H1
theorem Kl {c:Expr} {body:List Stmt} {tc:TT} {tb:TS} (hp:PassesOwn (model X.prog X.w) X.A X.env X.xe) (hc:PT X c tc) (hb:PSs X body tb):PS X (.While c body [] pos) (Hx tc tb):=by
 intro pins s σ H D I h;obtain ⟨W,⟨m0,w0⟩,turn⟩:=h;refine wpAny_While (codeAny_whileLoop (λn s'=>∃σ' H',Inv X pins σ' H' s'∧W n σ' H') ?_ m0 ⟨σ,H,I,w0⟩);rintro n s1 ⟨σ1,H1,I1,w1⟩;refine wpAny_passesOwn hp (thn (hc pins s1 σ1 H1 _ I1 (turn n σ1 H1 w1)) λb s2 ⟨H2,I2,q2⟩=>?_);cases b with
 | true=>
  obtain ⟨N,hN,q2⟩:=q2;rw[if_pos rfl];refine wpAny_passesOwn hp (thn (hb pins s2 σ1 H2 _ I2 q2) λf s3 q3=>?_);cases f with
  | next=>
   obtain ⟨σ3,H3,I3,n3⟩:=q3;obtain ⟨m',hm,w3⟩:=hN σ3 H3 n3;exact ⟨m',hm,σ3,H3,I3,w3⟩
  | cont=>
   obtain ⟨σ3,H3,I3,n3⟩:=q3;obtain ⟨m',hm,w3⟩:=hN σ3 H3 n3;exact ⟨m',hm,σ3,H3,I3,w3⟩
  | brk=>exact q3
  | ret v=>exact q3
 | false=>
  rw[if_neg aai];exact wpAny_execs_nil ⟨σ1,H2,I2,q2⟩
end
structure It where
 go:Nat→Hp→Prop
 yld:Nat→Hp→V→Hp→Prop
 stop:Nat→Hp→Prop
def mv (X:Cx) (pins:List (Addr×Obj)) (H:Hp) (b:Addr):Prop:=
 H b=none∧b≠X.env.locals∧b∉X.fs∧(b∈X.ex∨X.s₀.heap.objs.size≤b)∧(∀x c,X.env.cells.lookup x=some c→c≠b)∧∀p∈X.pn++pins,p.1≠b
theorem Inv.kg {X:Cx} {pins:List (Addr×Obj)} {σ:St} {H H':Hp} {s:Shared} {b:Addr} (I:Inv X pins σ H s) (hb:s.heap.objs.size≤b) (hn:H' b=none):mv X pins H' b:=by
 refine ⟨hn,ac4 (aah I.lt hb),I.nofs hb,.inr (aal I.sz hb),λx c e z=>?_,λp hp z=>?_⟩
 ·obtain ⟨v,q⟩:=I.cell x c e;exact absurd (aah q.lt (by rw[z];exact hb)) (abu _)
 ·exact absurd (aah (Heap.lt_size (I.pin p hp).1) (by rw[z];exact hb)) (abu _)
structure Turn (P:Program) (w:World) (K:PySem.W.Frag) (tg:Expr) (J:It) (fp:List Addr) (it:Addr) (tn:Nat→Heap→Prop):Prop where
 mem:it∈fp
 obj:∀i h,tn i h→∀b∈fp,∃o,h.get? b=some o∧∀v,o.data≠.cell v
 keep:∀i h h',tn i h→(∀b∈fp,∀o,h.get? b=some o→h'.get? b=some o)→tn i h'
 item:∀(X:Cx),X.prog=P→X.w=w→X.K=K→X.calm=true→∀(i:Nat) (pins:List (Addr×Obj)) (s:Shared) (σ:St) (H:Hp) (E:Value→Shared→Prop),Inv X pins σ H s→(∀b∈fp,mv X pins H b)→tn i s.heap→J.go i H→
  wpAny (model P w) X.A (pyNext (.ref it)) (λr s1=>∃u,r=some u∧
   wpAny (model P w) X.A (letOwnedTupleGo tg (.ref it) u) (λ_ s2=>∃x H',Inv X pins σ H' s2∧RelV x u∧J.yld i H x H'∧tn (i+1) s2.heap∧∀b∈fp,H' b=none) E s1) E s
 done:∀(X:Cx),X.prog=P→X.w=w→X.K=K→X.calm=true→∀(i:Nat) (pins:List (Addr×Obj)) (s:Shared) (σ:St) (H:Hp) (E:Value→Shared→Prop),Inv X pins σ H s→(∀b∈fp,mv X pins H b)→tn i s.heap→J.stop i H→
  wpAny (model P w) X.A (pyNext (.ref it)) (λr s1=>r=none∧Inv X pins σ H s1) E s
 self:∀(A:Around) (i:Nat) (s:Shared) (Q:Value→Shared→Prop) (E:Value→Shared→Prop),tn i s.heap→Q (.ref it) s→wpAny (model P w) A (pyIter (.ref it)) Q E s
abbrev TI:=St→Hp→(It→Hp→Prop)→Prop
def PIE (X:Cx) (pins:List (Addr×Obj)) (σ:St) (tg:Expr) (R:It→Hp→Prop) (itv:Value) (s2:Shared):Prop:=
 ∃(it:Addr) (fp:List Addr) (tn:Nat→Heap→Prop) (J:It) (H':Hp),itv=.ref it∧Inv X pins σ H' s2∧Turn X.prog X.w X.K tg J fp it tn∧tn 0 s2.heap∧(∀b∈fp,mv X pins H' b)∧R J H'
def PI (X:Cx) (tg iter:Expr) (wi:TI):Prop:=
 ∀(pins:List (Addr×Obj)) (s:Shared) (σ:St) (H:Hp) (R:It→Hp→Prop),Inv X pins σ H s→wi σ H R→
  wpAny (model X.prog X.w) X.A (eval iter X.env) (λv s1=>wpAny (model X.prog X.w) X.A (pyIter v) (PIE X pins σ tg R) X.xe s1) X.xe s
theorem zi {M:Model} {A:Around} {E:Value→Shared→Prop} {s:Shared} {tg:Expr} {it:Addr} {u:Value} {o:Obj} {n:String} {vs:Array Value} {Q:Unit→Shared→Prop} (ho:s.heap.get? it=some o) (hc:o.cls=.type n) (hd:o.data=.fields vs)
    (hn:["enumerate","zip","dict_itemiterator","dict_reverseitemiterator","odict_iterator","itertools.zip_longest","itertools.pairwise"].contains n=false) (hQ:Q () s):wpAny M A (letOwnedTupleGo tg (.ref it) u) Q E s:=by
  unfold letOwnedTupleGo;cases tg <;> first
    | exact wpAny_pure hQ
    | (cases u <;> first
        | exact wpAny_pure hQ
        | (refine wpAny_bind (wpAny_load ho ?_)
           rw[hc,hd];show wpAny M A (if (["enumerate","zip","dict_itemiterator","dict_reverseitemiterator","odict_iterator","itertools.zip_longest","itertools.pairwise"].contains n&&vs[0]?==some (rawInt _))=true then _ else _) Q E s
           rw[if_neg (by intro h;rw[hn,ad3] at h;cases h)];exact wpAny_pure hQ))
noncomputable def Itl (K:PySem.W.Frag) (a:Addr):It:=
 ⟨λi H=>∃xs x,SqL K H a xs∧xs[i]?=some x,λi H x H'=>H'=H∧∀xs,SqL K H a xs→xs[i]?=some x,λi H=>∃xs,SqL K H a xs∧xs.length≤i⟩
noncomputable def Itt (K:PySem.W.Frag) (a:Addr):It:=
 ⟨λi H=>∃xs x,SqT K H a xs∧xs[i]?=some x,λi H x H'=>H'=H∧∀xs,SqT K H a xs→xs[i]?=some x,λi H=>∃xs,SqT K H a xs∧xs.length≤i⟩
noncomputable def Itr (lo:Int) (n:Nat):It:=⟨λi _=>i < n,λi H x H'=>H'=H∧x=.int (lo+i),λi _=>n≤i⟩
theorem vn {P:Program} {w:World} {K:PySem.W.Frag} {tg:Expr} (a it:Addr):Turn P w K tg (Itl K a) [it] it (λi h=>h.IsListIter it a i) where
 mem:=by simp
 obj:=λi h st b hb=>by
  have e:b=it:=by simpa using hb
  subst e;obtain ⟨o,e,c,d⟩:=st;exact ⟨o,e,λv z=>by rw[d] at z;cases z⟩
 keep:=λi h h' st k=>st.at λo e=>k it (by simp) o e
 item:=by
  intro X hP hw hK hc i pins s σ H E I hf st hg;subst hP hw hK;obtain ⟨xs,x,hq,hx⟩:=hg;obtain ⟨its,rv,p,hz⟩:=I.list hq;obtain ⟨u,hu,ru⟩:=rv.get hx;obtain ⟨f0,f1,f2,f3,f4,f5⟩:=hf it (by simp);refine wpAny_pyNext_list_item st p.isList (x:=u) (by simpa using hu) λh' st' sb=>?_;have I1:Inv X pins σ H { s with heap:=h' }:=I.turned (t':=s.toks) (λb o hb e=>(sb.2 b hb).trans e) f0 f1 f3 f4 f5;obtain ⟨o,e,c,d⟩:=id st';exact ⟨u,rfl,zi (s:={ s with heap:=h' }) e c d (by decide) ⟨x,H,I1,ru,⟨rfl,λys hy=>by rw[I.ng hy hq];exact hx⟩,st',λb hb=>(hf b hb).1⟩⟩
 done:=by
  intro X hP hw hK hc i pins s σ H E I hf st hg;subst hP hw hK;obtain ⟨xs,hq,hx⟩:=hg;obtain ⟨its,rv,p,hz⟩:=I.list hq;obtain ⟨f0,f1,f2,f3,f4,f5⟩:=hf it (by simp);have hl:=rv.length;exact wpAny_pyNext_list_end (I.ok.hd hc) st p.isList (by simp;omega) λh' eb=>⟨rfl,I.turned (t':=s.toks) (λb o hb e=>eb b o hb e) f0 f1 f3 f4 f5⟩
 self:=λ_ _ _ _ _ st h=>wpAny_pyIter_listiter st h
theorem qo {P:Program} {w:World} {K:PySem.W.Frag} {tg:Expr} (a it:Addr):Turn P w K tg (Itt K a) [it] it (λi h=>h.IsTupleIter it a i) where
 mem:=by simp
 obj:=λi h st b hb=>by
  have e:b=it:=by simpa using hb
  subst e;obtain ⟨o,e,c,d⟩:=st;exact ⟨o,e,λv z=>by rw[d] at z;cases z⟩
 keep:=λi h h' st k=>st.at λo e=>k it (by simp) o e
 item:=by
  intro X hP hw hK hc i pins s σ H E I hf st hg;subst hP hw hK;obtain ⟨xs,x,hq,hx⟩:=hg;obtain ⟨its,rv,p,hz⟩:=I.tuple hq;obtain ⟨u,hu,ru⟩:=rv.get hx;obtain ⟨f0,f1,f2,f3,f4,f5⟩:=hf it (by simp);refine wpAny_pyNext_tuple_item st (show s.heap.IsTuple a its.toArray from p) (x:=u) (by simpa using hu) λh' st' sb=>?_;have I1:Inv X pins σ H { s with heap:=h' }:=I.turned (t':=s.toks) (λb o hb e=>(sb.2 b hb).trans e) f0 f1 f3 f4 f5;obtain ⟨o,e,c,d⟩:=id st';exact ⟨u,rfl,zi (s:={ s with heap:=h' }) e c d (by decide) ⟨x,H,I1,ru,⟨rfl,λys hy=>by rw[I.vp hy hq];exact hx⟩,st',λb hb=>(hf b hb).1⟩⟩
 done:=by
  intro X hP hw hK hc i pins s σ H E I hf st hg;subst hP hw hK;obtain ⟨xs,hq,hx⟩:=hg;obtain ⟨its,rv,p,hz⟩:=I.tuple hq;obtain ⟨f0,f1,f2,f3,f4,f5⟩:=hf it (by simp);have hl:=rv.length;exact wpAny_pyNext_tuple_end (I.ok.hd hc) st (show s.heap.IsTuple a its.toArray from p) (by simp;omega) λh' eb=>⟨rfl,I.turned (t':=s.toks) (λb o hb e=>eb b o hb e) f0 f1 f3 f4 f5⟩
 self:=λ_ _ _ _ _ st h=>wpAny_pyIter_tupleiter st h
theorem Bg {P:Program} {w:World} {K:PySem.W.Frag} {tg:Expr} (it:Addr) (lo:Int) (n:Nat):Turn P w K tg (Itr lo n) [it] it (λi h=>IsRangeIter h it (lo+(i:Nat)*1) ((n:Int) - (i:Nat)) 1) where
 mem:=by simp
 obj:=λi h st b hb=>by
  have e:b=it:=by simpa using hb
  subst e;exact ⟨_,st,λv z=>by
   have z':Data.fields _=Data.cell v:=z;cases z'⟩
 keep:=λi h h' st k=>k it (by simp) _ st
 item:=by
  intro X hP hw hK hc i pins s σ H E I hf st hg;subst hP hw hK;obtain ⟨f0,f1,f2,f3,f4,f5⟩:=hf it (by simp);have W:=Walks.range (prog:=X.prog) (w:=X.w) (I.ok.hd hc) it lo 1 n;refine W.item i s _ _ hg st λv h' tk hv st' kk=>?_;obtain ⟨t,rfl⟩:=hv;have I1:Inv X pins σ H { s with heap:=h',toks:=tk }:=I.turned (λb o hb e=>kk b o (by simpa using hb) e) f0 f1 f3 f4 f5;refine ⟨_,rfl,zi (s:={ s with heap:=h',toks:=tk }) (n:="range_iterator") st' rfl rfl (by decide) ⟨.int (lo+i),H,I1,⟨t,?_⟩,⟨rfl,rfl⟩,st',λb hb=>(hf b hb).1⟩⟩;rw[Int.mul_one]
 done:=by
  intro X hP hw hK hc i pins s σ H E I hf st hg;subst hP hw hK;obtain ⟨f0,f1,f2,f3,f4,f5⟩:=hf it (by simp);exact wpAny_pyNext_range_end (I.ok.hd hc) st (by have:n≤i:=hg;omega) λh' eb=>⟨rfl,I.turned (t':=s.toks) (λb o hb e=>eb b o hb e) f0 f1 f3 f4 f5⟩
 self:=λ_ _ _ _ _ st h=>wpAny_pyIter_rangeiter st h
section
variable {X:Cx} {tg:Expr}
def iList (K:PySem.W.Frag) (tl:TE):TI:=λσ H R=>tl σ H λx H1=>∃a,x=.ref a∧(∃xs,SqL K H1 a xs)∧R (Itl K a) H1
def iTup (K:PySem.W.Frag) (tl:TE):TI:=λσ H R=>tl σ H λx H1=>∃a,x=.ref a∧(∃xs,SqT K H1 a xs)∧R (Itt K a) H1
theorem K2 {l:Expr} {tl:TE} (hl:PE X l tl):PI X tg l (iList X.K tl):=by
 intro pins s σ H R I h;refine thn (hl pins s σ H _ I h) λv s1 ⟨x,H1,I1,r1,q1⟩=>?_;obtain ⟨a,e,⟨xs,hq⟩,q⟩:=q1;subst e;cases r1
 obtain ⟨its,rv,p,hz⟩:=I1.list hq;refine wpAny_pyIter_list p.isList ?_;refine ⟨s1.heap.objs.size,[s1.heap.objs.size],_,_,H1,rfl,I1.kept (t':=s1.toks) λb o e=>Heap.get?_push_of_some _ e,vn a _,⟨_,Heap.get?_push_size _ rfl,rfl,rfl⟩,λb hb=>?_,q⟩;have e:b=s1.heap.objs.size:=by simpa using hb
 subst e;exact I1.kg (aa4 _) (I1.hok.fresh (aa4 _))
theorem pi_tup {l:Expr} {tl:TE} (hl:PE X l tl):PI X tg l (iTup X.K tl):=by
 intro pins s σ H R I h;refine thn (hl pins s σ H _ I h) λv s1 ⟨x,H1,I1,r1,q1⟩=>?_;obtain ⟨a,e,⟨xs,hq⟩,q⟩:=q1;subst e;cases r1
 obtain ⟨its,rv,p,hz⟩:=I1.tuple hq;refine wpAny_pyIter_tuple (show s1.heap.IsTuple a its.toArray from p) ?_;refine ⟨s1.heap.objs.size,[s1.heap.objs.size],_,_,H1,rfl,I1.kept (t':=s1.toks) λb o e=>Heap.get?_push_of_some _ e,qo a _,⟨_,Heap.get?_push_size _ rfl,rfl,rfl⟩,λb hb=>?_,q⟩;have e:b=s1.heap.objs.size:=by simpa using hb
 subst e;exact I1.kg (aa4 _) (I1.hok.fresh (aa4 _))
theorem J6 {pins:List (Addr×Obj)} {σ:St} {H:Hp} {s:Shared} {R:It→Hp→Prop} {E:Value→Shared→Prop} {lo hi:Int} {t u v:Tok} {tk:Nat} (I:Inv X pins σ H s) (h1:-(2 ^ 62)≤lo) (h2:lo < 2 ^ 62) (h3:-(2 ^ 62)≤hi) (h4:hi < 2 ^ 62)
  (q:R (Itr lo (hi - lo).toNat) H):wpAny (model X.prog X.w) X.A (pyIter (.ref s.heap.objs.size)) (PIE X pins σ tg R) E { s with heap:=s.heap.push { cls:=.type "range",data:=.fields #[.int lo t,.int hi u,.int 1 v] },toks:=tk }:=by
 refine wpAny_pyIter_range (IsRange.new ..) (small_one h1 h2 h3 h4) ?_;have I1:Inv X pins σ H { s with heap:=s.heap.push { cls:=.type "range",data:=.fields #[.int lo t,.int hi u,.int 1 v] },toks:=tk }:=I.kept λb o e=>Heap.get?_push_of_some _ e;refine ⟨(s.heap.push { cls:=.type "range",data:=.fields #[.int lo t,.int hi u,.int 1 v] }).objs.size,[(s.heap.push { cls:=.type "range",data:=.fields #[.int lo t,.int hi u,.int 1 v] }).objs.size],_,_,H,rfl,
  I1.kept (t':=tk) λb o e=>Heap.get?_push_of_some _ e,Bg _ lo (hi - lo).toNat,?_,λb hb=>?_,q⟩
 ·have e1:lo+((0:Nat):Int)*1=lo:=by simp
  have e2:(((hi - lo).toNat:Nat):Int) - ((0:Nat):Int)=Builtin.Range.rangeSize lo hi 1:=by rw[rangeSize_one];split <;> omega
  show IsRangeIter _ _ (lo+((0:Nat):Int)*1) ((((hi - lo).toNat:Nat):Int) - ((0:Nat):Int)) 1
  rw[e1,e2];exact Heap.get?_push_size _ rfl
 ·have e:b=(s.heap.push { cls:=.type "range",data:=.fields #[.int lo t,.int hi u,.int 1 v] }).objs.size:=by simpa using hb
  subst e;exact I1.kg (aa4 _) (I1.hok.fresh (aa4 _))
def Ki (ta:TA):TI:=λσ H R=>ta σ H λvs H1=>∃j:Int,vs=[.int j]∧-(2 ^ 62)≤j∧j < 2 ^ 62∧R (Itr 0 j.toNat) H1
def iRng2 (ta:TA):TI:=λσ H R=>ta σ H λvs H1=>∃i j:Int,vs=[.int i,.int j]∧(-(2 ^ 62)≤i∧i < 2 ^ 62∧-(2 ^ 62)≤j∧j < 2 ^ 62)∧R (Itr i (j - i).toNat) H1
theorem E9 {a:Expr} {ta:TA} {p pos:Pos} (hg:Gl X "range") (hm:X.mg "range"=none) (ha:PA X [a] ta) (hs:starEach [a] X.env=[(false,eval a X.env)]:=by rfl):PI X tg (.Call (.Name "range" p) [a] [] pos) (Ki ta):=by
 intro pins s σ H R I h;refine Call_ (il I hg hm boot_range (PyProof.Rows.callWith_type1 (thn (ha pos pins s σ H _ I h) λus s1 ⟨vs,H1,I1,r1,q1⟩=>?_) hs rfl));obtain ⟨j,e,q1,q2,q⟩:=q1;subst e;cases r1 with
 | cons r rr=>
  cases rr
  obtain ⟨t,rfl⟩:=r;exact call_range_1 (J6 I1 (by omega) (by omega) q1 q2 (by simpa using q))
def tFor (wi:TI) (g:TG) (tb:TS):TS:=λD σ H=>wi σ H λJ H1=>∃W:Nat→Nat→St→Hp→Prop,(∃m,W 0 m σ H1)∧∀i m σ H,W i m σ H→
 (J.stop i H∧D.nx σ H)∨(J.go i H∧∃N:St→Hp→Prop,(∀σ' H',N σ' H'→∃m',m' < m∧W (i+1) m' σ' H')∧∀x H',J.yld i H x H'→g x σ H' λσ2 H2=>tb { D with nx:=N,ct:=N,bk:=D.nx } σ2 H2)
noncomputable def tw (fp:List Addr) (h:Heap):List (Addr×Obj):=fp.filterMap λb=>(h.get? b).map λo=>(b,o)
theorem g9 {fp:List Addr} {h:Heap} {b:Addr} {o:Obj} (hb:b∈fp) (e:h.get? b=some o):(b,o)∈tw fp h:=List.mem_filterMap.mpr ⟨b,hb,by rw[e];rfl⟩
theorem Fl {fp:List Addr} {h:Heap} {p:Addr×Obj} (hp:p∈tw fp h):p.1∈fp∧h.get? p.1=some p.2:=by
 obtain ⟨b,hb,e⟩:=List.mem_filterMap.mp hp;cases q:h.get? b with
 | none=>rw[q] at e;cases e
 | some o=>
  rw[q] at e;have e':(b,o)=p:=aa6 e;subst e';exact ⟨hb,q⟩
theorem Inv.pinned {pins:List (Addr×Obj)} {σ:St} {H:Hp} {s:Shared} {fp:List Addr} (I:Inv X pins σ H s) (hf:∀b∈fp,mv X pins H b) (ho:∀b∈fp,∃o,s.heap.get? b=some o∧∀v,o.data≠.cell v):Inv X (pins++tw fp s.heap) σ H s:=
 I.En λp hp=>(List.mem_append.mp hp).elim (λz=>I.pin p (aaw _ z)) λz=>by
  obtain ⟨hb,e⟩:=Fl z;obtain ⟨f0,f1,f2,_⟩:=hf p.1 hb;obtain ⟨o,e',d⟩:=ho p.1 hb;rw[e] at e';cases e';exact ⟨e,f0,f1,f2,d⟩
theorem Inv.lh {pins pl:List (Addr×Obj)} {σ:St} {H:Hp} {s:Shared} (I:Inv X (pins++pl) σ H s):Inv X pins σ H s:=I.En λp hp=>I.pin p (aaw _ (abw _ hp))
theorem ps_for {iter:Expr} {body:List Stmt} {wi:TI} {g:TG} {tb:TS} {pos:Pos} (hp:PassesOwn (model X.prog X.w) X.A X.env X.xe) (hc:X.calm=true) (hi:PI X tg iter wi) (hg:PG X tg g) (hb:PSs X body tb)
  (hs:∀x,foldedSetIterable iter X.env x=pure x:=by intro _;rfl):PS X (.For tg iter body [] pos) (tFor wi g tb):=by
 intro pins s σ H D I h;refine wpAny_For (thn (hi pins s σ H _ I h) λv s1 h1=>thn h1 λitv s2 h2=>?_) hs;obtain ⟨it,fp,tn,J,H2,e,I2,T,st2,f2,W,⟨m0,w0⟩,turn⟩:=h2;subst e;have stat:∀{H':Hp},(∀b∈fp,H' b=none)→∀b∈fp,mv X pins H' b:=λhn b hb=>⟨hn b hb,(f2 b hb).2⟩;refine codeAny_forLoop_any (λn s'=>∃i σ' H',Inv X pins σ' H' s'∧tn i s'.heap∧(∀b∈fp,H' b=none)∧W i n σ' H') ?_ m0 ⟨0,σ,H2,I2,st2,λb hb=>(f2 b hb).1,w0⟩;rintro n s3 ⟨i,σ3,H3,I3,st3,fr3,w3⟩;rcases turn i n σ3 H3 w3 with ⟨stop,qn⟩ | ⟨go,N,hN,step⟩
 ·refine wpAny_passesOwn hp (thn (T.done X rfl rfl rfl hc i pins s3 σ3 H3 X.xe I3 (stat fr3) st3 stop) λr s4 ⟨hr,I4⟩=>?_);subst hr;exact wpAny_execs_nil ⟨σ3,H3,I4,qn⟩
 ·refine wpAny_passesOwn hp (thn (T.item X rfl rfl rfl hc i pins s3 σ3 H3 X.xe I3 (stat fr3) st3 go) λr s4 ⟨u,hr,h4⟩=>?_);subst hr;refine wpAny_passesOwn hp (thn h4 λ_ s5 ⟨x,H5,I5,r5,y5,st5,fr5⟩=>?_);have I5':=I5.pinned (stat fr5) (T.obj _ _ st5);refine wpAny_passesOwn hp (thn (hg _ s5 σ3 H5 x u _ I5' r5 (step x H5 y5)) λ_ s6 ⟨σ6,H6,I6,q6⟩=>?_);refine wpAny_passesOwn hp (thn (hb _ s6 σ6 H6 _ I6 q6) λf s7 q7=>?_);have again:∀{σ7:St} {H7:Hp},Inv X (pins++tw fp s5.heap) σ7 H7 s7→N σ7 H7→∃m,m < n∧∃i σ' H',Inv X pins σ' H' s7∧tn i s7.heap∧(∀b∈fp,H' b=none)∧W i m σ' H':=λ{σ7 H7} I7 n7=>by
   obtain ⟨m',hm,w7⟩:=hN σ7 H7 n7;refine ⟨m',hm,i+1,σ7,H7,I7.lh,T.keep _ _ _ st5 λb hb o e=>(I7.pin (b,o) (aaw _ (aaw _ (g9 hb e)))).1,λb hb=>?_,w7⟩;obtain ⟨o,e,d⟩:=T.obj _ _ st5 b hb;exact (I7.pin (b,o) (aaw _ (aaw _ (g9 hb e)))).2.1
  cases f with
  | next=>obtain ⟨σ7,H7,I7,n7⟩:=q7;exact again I7 n7
  | cont=>obtain ⟨σ7,H7,I7,n7⟩:=q7;exact again I7 n7
  | brk=>obtain ⟨σ7,H7,I7,q7⟩:=q7;exact ⟨σ7,H7,I7.lh,q7⟩
  | ret v=>obtain ⟨x7,σ7,H7,I7,r7,q7⟩:=q7;exact ⟨x7,σ7,H7,I7.lh,r7,q7⟩
end
theorem Gw {K:PySem.W.Frag} {a:Addr} {xs:List V} {g:TG} {tb:TS} {D:Ends} {σ:St} {H:Hp} (Pv:Nat→St→Hp→Prop) (h0:Pv 0 σ H) (hl:∀i σ H,i≤xs.length→Pv i σ H→SqL K H a xs)
  (hs:∀i x σ H,xs[i]?=some x→Pv i σ H→g x σ H λσ2 H2=>tb { D with nx:=Pv (i+1),ct:=Pv (i+1),bk:=D.nx } σ2 H2) (hd:∀σ H,Pv xs.length σ H→D.nx σ H):
  ∃W:Nat→Nat→St→Hp→Prop,(∃m,W 0 m σ H)∧∀i m σ H,W i m σ H→
   ((Itl K a).stop i H∧D.nx σ H)∨((Itl K a).go i H∧∃N:St→Hp→Prop,(∀σ' H',N σ' H'→∃m',m' < m∧W (i+1) m' σ' H')∧∀x H',(Itl K a).yld i H x H'→g x σ H' λσ2 H2=>tb { D with nx:=N,ct:=N,bk:=D.nx } σ2 H2):=by
 refine ⟨λi m σ H=>m=xs.length - i∧i≤xs.length∧Pv i σ H,⟨xs.length,by simp,aac _,h0⟩,?_⟩;rintro i m σ H ⟨rfl,hi,p⟩;have q:=hl i σ H hi p;by_cases hlt:i < xs.length
 ·refine .inr ⟨⟨xs,xs[i],q,by simp[hlt]⟩,Pv (i+1),λσ' H' p'=>⟨xs.length - (i+1),by omega,rfl,hlt,p'⟩,λx H' y=>?_⟩;obtain ⟨e,y⟩:=y;subst e;exact hs i x σ _ (y xs q) p
 ·have e:i=xs.length:=by omega
  subst e;exact .inl ⟨⟨xs,q,aa4 _⟩,hd σ H p⟩
theorem Lh {K:PySem.W.Frag} {a:Addr} {xs:List V} {g:TG} {tb:TS} {D:Ends} {σ:St} {H:Hp} (Pv:Nat→St→Hp→Prop) (h0:Pv 0 σ H) (hl:∀i σ H,i≤xs.length→Pv i σ H→SqT K H a xs)
  (hs:∀i x σ H,xs[i]?=some x→Pv i σ H→g x σ H λσ2 H2=>tb { D with nx:=Pv (i+1),ct:=Pv (i+1),bk:=D.nx } σ2 H2) (hd:∀σ H,Pv xs.length σ H→D.nx σ H):
  ∃W:Nat→Nat→St→Hp→Prop,(∃m,W 0 m σ H)∧∀i m σ H,W i m σ H→
   ((Itt K a).stop i H∧D.nx σ H)∨((Itt K a).go i H∧∃N:St→Hp→Prop,(∀σ' H',N σ' H'→∃m',m' < m∧W (i+1) m' σ' H')∧∀x H',(Itt K a).yld i H x H'→g x σ H' λσ2 H2=>tb { D with nx:=N,ct:=N,bk:=D.nx } σ2 H2):=by
 refine ⟨λi m σ H=>m=xs.length - i∧i≤xs.length∧Pv i σ H,⟨xs.length,by simp,aac _,h0⟩,?_⟩;rintro i m σ H ⟨rfl,hi,p⟩;have q:=hl i σ H hi p;by_cases hlt:i < xs.length
 ·refine .inr ⟨⟨xs,xs[i],q,by simp[hlt]⟩,Pv (i+1),λσ' H' p'=>⟨xs.length - (i+1),by omega,rfl,hlt,p'⟩,λx H' y=>?_⟩;obtain ⟨e,y⟩:=y;subst e;exact hs i x σ _ (y xs q) p
 ·have e:i=xs.length:=by omega
  subst e;exact .inl ⟨⟨xs,q,aa4 _⟩,hd σ H p⟩
theorem Fn {lo:Int} {n:Nat} {g:TG} {tb:TS} {D:Ends} {σ:St} {H:Hp} (Pv:Nat→St→Hp→Prop) (h0:Pv 0 σ H)
  (hs:∀i σ H,i < n→Pv i σ H→g (.int (lo+i)) σ H λσ2 H2=>tb { D with nx:=Pv (i+1),ct:=Pv (i+1),bk:=D.nx } σ2 H2) (hd:∀σ H,Pv n σ H→D.nx σ H):
  ∃W:Nat→Nat→St→Hp→Prop,(∃m,W 0 m σ H)∧∀i m σ H,W i m σ H→
   ((Itr lo n).stop i H∧D.nx σ H)∨((Itr lo n).go i H∧∃N:St→Hp→Prop,(∀σ' H',N σ' H'→∃m',m' < m∧W (i+1) m' σ' H')∧∀x H',(Itr lo n).yld i H x H'→g x σ H' λσ2 H2=>tb { D with nx:=N,ct:=N,bk:=D.nx } σ2 H2):=by
 refine ⟨λi m σ H=>m=n - i∧i≤n∧Pv i σ H,⟨n,by simp,aac _,h0⟩,?_⟩;rintro i m σ H ⟨rfl,hi,p⟩;by_cases hlt:i < n
 ·refine .inr ⟨hlt,Pv (i+1),λσ' H' p'=>⟨n - (i+1),by omega,rfl,hlt,p'⟩,λx H' y=>?_⟩;obtain ⟨e,y⟩:=y;subst e y;exact hs i σ _ hlt p
 ·have e:i=n:=by omega
  subst e;exact .inl ⟨aa4 _,hd σ H p⟩
theorem J1 {c:TT} {tb:TS} {D:Ends} {σ:St} {H:Hp} (Pv:St→Hp→Prop) (μ:St→Hp→Nat) (h0:Pv σ H)
  (hs:∀σ H,Pv σ H→c σ H λb H1=>if b=true then tb { D with nx:=λσ' H'=>Pv σ' H'∧μ σ' H' < μ σ H,ct:=λσ' H'=>Pv σ' H'∧μ σ' H' < μ σ H,bk:=D.nx } σ H1 else D.nx σ H1)
  (mono:∀σ H Q Q',(∀b H1,Q b H1→Q' b H1)→c σ H Q→c σ H Q'):Hx c tb D σ H:=by
 refine ⟨λm σ H=>m=μ σ H∧Pv σ H,⟨_,rfl,h0⟩,?_⟩;rintro m σ H ⟨rfl,p⟩;refine mono σ H _ _ (λb H1 q=>?_) (hs σ H p);cases b with
 | true=>exact ⟨_,λσ' H' ⟨p',l⟩=>⟨_,l,rfl,p'⟩,q⟩
 | false=>exact q
abbrev R2:=V→V→Hp→VK→Prop
def OpR (X:Cx) (f:Value→Value→Sem Value) (r:R2):Prop:=
 ∀(pins:List (Addr×Obj)) (s:Shared) (σ:St) (H:Hp) (x y:V) (v u:Value) (Q:VK),Inv X pins σ H s→RelV x v→RelV y u→r x y H Q→
  wpAny (model X.prog X.w) X.A (f v u) (EP X pins σ Q) X.xe s
def UnR (X:Cx) (f:Value→Sem Value) (r:V→Hp→VK→Prop):Prop:=
 ∀(pins:List (Addr×Obj)) (s:Shared) (σ:St) (H:Hp) (x:V) (v:Value) (Q:VK),Inv X pins σ H s→RelV x v→r x H Q→
  wpAny (model X.prog X.w) X.A (f v) (EP X pins σ Q) X.xe s
def fq (X:Cx) (f:Value) (r:List V→Hp→VK→Prop):Prop:=
 ∀(pins:List (Addr×Obj)) (s:Shared) (σ:St) (H:Hp) (xs:List V) (us:List Value) (Q:VK),Inv X pins σ H s→Vals xs us→r xs H Q→
  wpAny (model X.prog X.w) X.A (call f us) (EP X pins σ Q) X.xe s
def tOp (r:R2) (ta tb:TE):TE:=λσ H Q=>ta σ H λx H1=>tb σ H1 λy H2=>r x y H2 Q
def tUn (r:V→Hp→VK→Prop) (ta:TE):TE:=λσ H Q=>ta σ H λx H1=>r x H1 Q
def rI (C:Int→Int→Prop) (g:Int→Int→V):R2:=λx y H Q=>∃i j,x=.int i∧y=.int j∧C i j∧Q (g i j) H
def rI0 (g:Int→Int→V):R2:=λx y H Q=>∃i j,x=.int i∧y=.int j∧Q (g i j) H
def rU (g:Int→V):V→Hp→VK→Prop:=λx H Q=>∃i,x=.int i∧Q (g i) H
section
variable {X:Cx} {a b c:Expr} {ta tb tc:TE} {pos:Pos}
theorem binT (ha:PE X a ta) (hb:PE X b tb) {pins:List (Addr×Obj)} {s:Shared} {σ:St} {H:Hp} {R:V→V→Hp→Prop} (I:Inv X pins σ H s)
  (h:ta σ H λx H1=>tb σ H1 λy H2=>R x y H2) {Q:Value→Shared→Prop} {f:Value→Value→Sem Value}
  (hf:∀v u s2 x y H2,Inv X pins σ H2 s2→RelV x v→RelV y u→R x y H2→wpAny (model X.prog X.w) X.A (f v u) Q X.xe s2):
  wpAny (model X.prog X.w) X.A (eval a X.env) (λv s₁=>wpAny (model X.prog X.w) X.A (eval b X.env) (λu s₂=>wpAny (model X.prog X.w) X.A (f v u) Q X.xe s₂) X.xe s₁) X.xe s:=by
 refine thn (ha pins s σ H _ I h) λv s1 ⟨x,H1,I1,r1,q1⟩=>?_;refine thn (hb pins s1 σ H1 _ I1 q1) λu s2 ⟨y,H2,I2,r2,q2⟩=>?_;exact hf v u s2 x y H2 I2 r1 r2 q2
theorem pe_op {op:Operator} {r:R2} (ho:OpR X (binaryOp op) r) (ha:PE X a ta) (hb:PE X b tb):PE X (.BinOp a op b pos) (tOp r ta tb):=by
 intro pins s σ H Q I h;exact wpAny_BinOp (binT ha hb I h λv u s2 x y H2 I2 rx ry q=>ho pins s2 σ H2 x y v u Q I2 rx ry q)
theorem pe_un {op:UnaryOp} {r:V→Hp→VK→Prop} (ho:UnR X (unaryOp op) r) (ha:PE X a ta):PE X (.UnaryOp op a pos) (tUn r ta):=by
 intro pins s σ H Q I h;exact UnaryOp_ (thn (ha pins s σ H _ I h) λv s1 ⟨x,H1,I1,r1,q1⟩=>ho pins s1 σ H1 x v Q I1 r1 q1)
theorem opI {f:Value→Value→Sem Value} {C:Int→Int→Prop} {g:Int→Int→Int}
  (rule:∀(i j:Int) (t u:Tok) (s:Shared) (Q:Value→Shared→Prop) (E:Value→Shared→Prop),C i j→Q (.int (g i j) s.toks) { s with toks:=s.toks+1 }→wpAny (model X.prog X.w) X.A (f (.int i t) (.int j u)) Q E s):
  OpR X f (rI C λi j=>.int (g i j)):=by
 intro pins s σ H x y v u Q I rx ry h;obtain ⟨i,j,rfl,rfl,hc,q⟩:=h;obtain ⟨t,rfl⟩:=rx;obtain ⟨t',rfl⟩:=ry;exact rule i j t t' s _ _ hc ⟨.int (g i j),H,I.tok _,⟨_,rfl⟩,q⟩
theorem opI0 {f:Value→Value→Sem Value} {g:Int→Int→Int}
  (rule:∀(i j:Int) (t u:Tok) (s:Shared) (Q:Value→Shared→Prop) (E:Value→Shared→Prop),Q (.int (g i j) s.toks) { s with toks:=s.toks+1 }→wpAny (model X.prog X.w) X.A (f (.int i t) (.int j u)) Q E s):
  OpR X f (rI0 λi j=>.int (g i j)):=by
 intro pins s σ H x y v u Q I rx ry h;obtain ⟨i,j,rfl,rfl,q⟩:=h;obtain ⟨t,rfl⟩:=rx;obtain ⟨t',rfl⟩:=ry;exact rule i j t t' s _ _ ⟨.int (g i j),H,I.tok _,⟨_,rfl⟩,q⟩
theorem opB0 {f:Value→Value→Sem Value} {g:Int→Int→Bool}
  (rule:∀(i j:Int) (t u:Tok) (s:Shared) (Q:Value→Shared→Prop) (E:Value→Shared→Prop),Q (.bool (g i j)) s→wpAny (model X.prog X.w) X.A (f (.int i t) (.int j u)) Q E s):
  OpR X f (rI0 λi j=>.bl (g i j)):=by
 intro pins s σ H x y v u Q I rx ry h;obtain ⟨i,j,rfl,rfl,q⟩:=h;obtain ⟨t,rfl⟩:=rx;obtain ⟨t',rfl⟩:=ry;exact rule i j t t' s _ _ ⟨.bl (g i j),H,I,rfl,q⟩
def CDiv (i j:Int):Prop:=0 < j∧j < 1073741824
def CPow (i j:Int):Prop:=0≤j∧j≤1000000∧i.natAbs < 2 ^ 64
def CMul (i j:Int):Prop:=(-(2 ^ 64) < i∧i < 2 ^ 64)∨(-(2 ^ 64) < j∧j < 2 ^ 64)
theorem CMul.ok {i j:Int} (h:CMul i j):IntMulOk i j:=by
 rcases h with ⟨h1,h2⟩ | ⟨h1,h2⟩
 ·exact .of_left (intBits_le_64 h1 h2)
 ·exact .of_right (intBits_le_64 h1 h2)
theorem op_add:OpR X (binaryOp .Add) (rI0 λi j=>.int (i+j)):=opI0 λ_ _ _ _ _ _ _ q=>add_int q
theorem op_sub:OpR X (binaryOp .Sub) (rI0 λi j=>.int (i - j)):=opI0 λ_ _ _ _ _ _ _ q=>sub_int q
theorem op_mul:OpR X (binaryOp .Mult) (rI CMul λi j=>.int (i*j)):=opI λ_ _ _ _ _ _ _ hc q=>mul_int q hc.ok
theorem Kt:OpR X (binaryOp .FloorDiv) (rI CDiv λi j=>.int (i / j)):=opI λi j _ _ _ _ _ hc q=>by
 have h1:(0:Int) < j:=hc.1;have h2:j < 1073741824:=hc.2;exact floordiv_int (by omega) (by rw[ad8 i (by omega)];exact q) (.inl (PyProof.noPylong_small (by omega)))
theorem op_mod:OpR X (binaryOp .Mod) (rI (λ_ j=>0 < j) λi j=>.int (i % j)):=opI λi j _ _ _ _ _ hc q=>by
 have h1:(0:Int) < j:=hc;exact mod_int' (by omega) (by rw[Int.fmod_eq_emod_of_nonneg i (by omega)];exact q)
theorem op_pow:OpR X (binaryOp .Pow) (rI CPow λi j=>.int (i ^ j.toNat)):=opI λ_ _ _ _ _ _ _ hc q=>pow_int_small hc.1 hc.2.1 hc.2.2 q
theorem unI {f:Value→Sem Value} {g:Int→Int}
  (rule:∀(i:Int) (t:Tok) (s:Shared) (Q:Value→Shared→Prop) (E:Value→Shared→Prop),Q (.int (g i) s.toks) { s with toks:=s.toks+1 }→wpAny (model X.prog X.w) X.A (f (.int i t)) Q E s):
  UnR X f (rU λi=>.int (g i)):=by
 intro pins s σ H x v Q I rx h;obtain ⟨i,rfl,q⟩:=h;obtain ⟨t,rfl⟩:=rx;exact rule i t s _ _ ⟨.int (g i),H,I.tok _,⟨_,rfl⟩,q⟩
theorem un_neg:UnR X (unaryOp .USub) (rU λi=>.int (-i)):=unI λ_ _ _ _ _ q=>neg_int q
end
noncomputable def scal:V→V→Bool
 | .non,.non=>true | .non,.int _=>true | .int _,.non=>true | .non,.bl _=>true | .bl _,.non=>true | .non,.str _=>true | .str _,.non=>true
 | .int _,.int _=>true | .bl _,.bl _=>true | .str _,.str _=>true | .byt _,.byt _=>true
 | .int _,.str _=>true | .str _,.int _=>true | .bl _,.str _=>true | .str _,.bl _=>true
 | _,_=>false
def rEq:R2:=λx y H Q=>scal x y=true∧Q (.bl (decide (x=y))) H
def rNe:R2:=λx y H Q=>scal x y=true∧Q (.bl (!decide (x=y))) H
theorem Cm {i j:Int}:decide (V.int i=V.int j)=(i==j):=by
 rw[acu];simp
theorem Gm {i j:Bool}:decide (V.bl i=V.bl j)=(i==j):=by
 rw[acu];simp
theorem Cy {i j:Str}:decide (V.str i=V.str j)=(i==j):=by
 rw[acu];simp
theorem Df {i j:Array UInt8}:decide (V.byt i=V.byt j)=(i.toList==j.toList):=by
 rw[acu];cases i
 cases j
 simp
section
variable {X:Cx} {a b c:Expr} {ta tb tc:TE} {pos:Pos}
theorem az {pins:List (Addr×Obj)} {σ:St} {H:Hp} {s:Shared} {Q:VK} {k k':Bool} (I:Inv X pins σ H s) (q:Q (.bl k) H) (e:k=k'):EP X pins σ Q (.bool k') s:=by
 subst e;exact ⟨.bl k,H,I,rfl,q⟩
theorem op_eq:OpR X (compareOp .Eq) rEq:=by
 intro pins s σ H x y v u Q I rx ry h;obtain ⟨hs,q⟩:=h;cases x with
 | non=>
  cases rx
  cases y with
  | non=>cases ry;exact PySem.EqNone.eq_none_none (az I q (by simp))
  | bl j=>cases ry;exact PySem.EqNone.eq_none_bool (az I q (by simp))
  | int j=>obtain ⟨t',rfl⟩:=ry;exact PySem.EqNone.eq_none_int (az I q (by simp))
  | str j=>obtain ⟨t',rfl⟩:=ry;exact PySem.EqNone.eq_none_str (az I q (by simp))
  | _=>exact absurd (show false=true from hs) aai
 | bl i=>
  cases rx
  cases y with
  | non=>cases ry;exact PySem.EqNone.eq_bool_none (az I q (by simp))
  | bl j=>cases ry;exact eq_bool (az I q Gm)
  | str j=>obtain ⟨t',rfl⟩:=ry;exact PySem.EqMixed.eq_bool_str (az I q (by simp))
  | _=>exact absurd (show false=true from hs) aai
 | int i=>
  obtain ⟨t,rfl⟩:=rx;cases y with
  | non=>cases ry;exact PySem.EqNone.eq_int_none (az I q (by simp))
  | int j=>obtain ⟨t',rfl⟩:=ry;exact eq_int (az I q Cm)
  | str j=>obtain ⟨t',rfl⟩:=ry;exact PySem.EqMixed.eq_int_str (az I q (by simp))
  | _=>exact absurd (show false=true from hs) aai
 | str i=>
  obtain ⟨t,rfl⟩:=rx;cases y with
  | non=>cases ry;exact PySem.EqNone.eq_str_none (az I q (by simp))
  | bl j=>cases ry;exact PySem.EqMixed.eq_str_bool (az I q (by simp))
  | int j=>obtain ⟨t',rfl⟩:=ry;exact PySem.EqMixed.eq_str_int (az I q (by simp))
  | str j=>obtain ⟨t',rfl⟩:=ry;exact eq_str (az I q Cy)
  | _=>exact absurd (show false=true from hs) aai
 | byt i=>
  obtain ⟨t,rfl⟩:=rx;cases y with
  | byt j=>obtain ⟨t',rfl⟩:=ry;exact PySem.W.eq_bytes (az I q Df)
  | _=>exact absurd (show false=true from hs) aai
 | _=>cases y <;> exact absurd (show false=true from hs) aai
theorem kz:OpR X (compareOp .NotEq) rNe:=by
 intro pins s σ H x y v u Q I rx ry h;obtain ⟨hs,q⟩:=h;cases x with
 | non=>
  cases rx
  cases y with
  | non=>cases ry;exact PySem.EqNone.ne_none_none (az I q (by simp))
  | bl j=>cases ry;exact PySem.EqNone.ne_none_bool (az I q (by simp))
  | int j=>obtain ⟨t',rfl⟩:=ry;exact PySem.EqNone.ne_none_int (az I q (by simp))
  | str j=>obtain ⟨t',rfl⟩:=ry;exact PySem.EqNone.ne_none_str (az I q (by simp))
  | _=>exact absurd (show false=true from hs) aai
 | bl i=>
  cases rx
  cases y with
  | non=>cases ry;exact PySem.EqNone.ne_bool_none (az I q (by simp))
  | bl j=>cases ry;exact ne_bool (az I q (congrArg not Gm))
  | str j=>obtain ⟨t',rfl⟩:=ry;exact PySem.EqMixed.ne_bool_str (az I q (by simp))
  | _=>exact absurd (show false=true from hs) aai
 | int i=>
  obtain ⟨t,rfl⟩:=rx;cases y with
  | non=>cases ry;exact PySem.EqNone.ne_int_none (az I q (by simp))
  | int j=>obtain ⟨t',rfl⟩:=ry;exact ne_int (az I q (congrArg not Cm))
  | str j=>obtain ⟨t',rfl⟩:=ry;exact PySem.EqMixed.ne_int_str (az I q (by simp))
  | _=>exact absurd (show false=true from hs) aai
 | str i=>
  obtain ⟨t,rfl⟩:=rx;cases y with
  | non=>cases ry;exact PySem.EqNone.ne_str_none (az I q (by simp))
  | bl j=>cases ry;exact PySem.EqMixed.ne_str_bool (az I q (by simp))
  | int j=>obtain ⟨t',rfl⟩:=ry;exact PySem.EqMixed.ne_str_int (az I q (by simp))
  | str j=>obtain ⟨t',rfl⟩:=ry;exact ne_str (az I q (congrArg not Cy))
  | _=>exact absurd (show false=true from hs) aai
 | byt i=>
  obtain ⟨t,rfl⟩:=rx;cases y with
  | byt j=>obtain ⟨t',rfl⟩:=ry;exact PySem.W.ne_bytes (az I q (congrArg not Df))
  | _=>exact absurd (show false=true from hs) aai
 | _=>cases y <;> exact absurd (show false=true from hs) aai
theorem op_lt:OpR X (compareOp .Lt) (rI0 λi j=>.bl (decide (i < j))):=opB0 λ_ _ _ _ _ _ _ q=>lt_int q
theorem op_gt:OpR X (compareOp .Gt) (rI0 λi j=>.bl (decide (j < i))):=opB0 λ_ _ _ _ _ _ _ q=>gt_int q
theorem op_ge:OpR X (compareOp .GtE) (rI0 λi j=>.bl (decide (j≤i))):=opB0 λ_ _ _ _ _ _ _ q=>ge_int q
theorem nomark (b:Expr) {op:CmpOp} (h:op≠.In:=by decide) (h2:op≠.NotIn:=by decide):behindInMarks op b=false:=by
 have e1:(op==CmpOp.In)=false:=by cases op <;> first | rfl | exact absurd rfl h
 have e2:(op==CmpOp.NotIn)=false:=by cases op <;> first | rfl | exact absurd rfl h2
 cases b <;> simp[behindInMarks,e1,e2]
theorem Mf {op:CmpOp} {r:R2} (ho:OpR X (compareOp op) r) (ha:PE X a ta) (hb:PE X b tb) (hm:behindInMarks op b=false):PE X (.Compare a [op] [b] pos) (tOp r ta tb):=by
 intro pins s σ H Q I h;exact wpAny_Compare1 (binT ha hb I h λv u s2 x y H2 I2 rx ry q=>ho pins s2 σ H2 x y v u Q I2 rx ry q) hm
def Kf (t:TE):TT:=λσ H Q=>t σ H λx H'=>∃k,x=.bl k∧Q k H'
theorem Mz {op:CmpOp} {r:R2} (ho:OpR X (compareOp op) r) (ha:PE X a ta) (hb:PE X b tb) (hm:behindInMarks op b=false):PT X (.Compare a [op] [b] pos) (Kf (tOp r ta tb)):=by
 intro pins s σ H Q I h;refine wpAny_isTrue_Compare1 (thn (ha pins s σ H _ I h) λv s1 ⟨x,H1,I1,r1,q1⟩=>thn (hb pins s1 σ H1 _ I1 q1) λu s2 ⟨y,H2,I2,r2,q2⟩=>
  thn (ho pins s2 σ H2 x y v u _ I2 r1 r2 q2) λc s3 ⟨z,H3,I3,r3,k,e,q3⟩=>?_) hm
 subst e;cases r3
 exact wpAny_truthy_bool ⟨H3,I3,q3⟩
theorem ni:(sizeLine:Nat) < 2 ^ 63:=by rw[sizeLine_eq];decide
theorem ff:OpR X (binaryOp .Add) (λx y H Q=>∃i j,x=.str i∧y=.str j∧i.length+j.length≤sizeLine∧Q (.str (i++j)) H):=by
 intro pins s σ H x y v u Q I rx ry h;obtain ⟨i,j,rfl,rfl,hz,q⟩:=h;obtain ⟨t,rfl⟩:=rx;obtain ⟨t',rfl⟩:=ry;exact add_str (λt' tk=>⟨.str (i++j),H,I.tok _,⟨_,rfl⟩,q⟩) hz
theorem vals1 {x:V} {us:List Value} (r:Vals [x] us):∃u,us=[u]∧RelV x u:=by
 cases r with
 | cons r1 r2=>cases r2;exact ⟨_,rfl,r1⟩
theorem vals2 {x y:V} {us:List Value} (r:Vals [x,y] us):∃u w',us=[u,w']∧RelV x u∧RelV y w':=by
 cases r with
 | cons r1 r2=>
  cases r2 with
  | cons r3 r4=>cases r4;exact ⟨_,_,rfl,r1,r3⟩
theorem E1:fq X (.type "int") (λxs H Q=>(∃i,xs=[.int i]∧Q (.int i) H)∨∃k,xs=[.bl k]∧Q (.int (if k then 1 else 0)) H):=by
 intro pins s σ H xs us Q I r h;rcases h with ⟨i,rfl,q⟩ | ⟨k,rfl,q⟩
 ·obtain ⟨u,rfl,t,rfl⟩:=vals1 r;exact call_int_int ⟨.int i,H,I,⟨_,rfl⟩,q⟩
 ·obtain ⟨u,rfl,r1⟩:=vals1 r;cases r1
  exact call_int_bool ⟨.int (if k then 1 else 0),H,I.tok _,⟨_,rfl⟩,q⟩
end
structure ObjM (h:Heap) (x dx C:Addr) (mA:Str→Option Value):Prop where
 obj:h.get? x=some (PySem.W.instObj C dx)
 ns:h.Ns1 dx mA
 ne:dx≠x
theorem E6 {h:Heap} {dx:Addr} {mA:Str→Option Value} (n:h.Ns1 dx mA):∃od,h.get? dx=some od∧∀name,PySem.W.lookIn name od=some (mA name):=by
 obtain ⟨o,es,ep,ho,hd,hk,_,hm⟩:=n;refine ⟨o,ho,λname=>?_⟩;have e:=hm name;unfold nsFind findBy at e;rw[←Array.find?_toList] at e;unfold PySem.W.lookIn;rw[hd];dsimp only;split
 ·rename_i y q
  rw[q] at e;exact congrArg some e
 ·rename_i q
  rw[q] at e;have a:es.toList.any (·.refKey)=false:=by
   rw[List.any_eq_false];intro y hy;obtain ⟨z,t,hkey⟩:=hk y (Array.mem_toList_iff.mp hy);simp[DictEntry.refKey,hkey]
  have a':¬es.toList.any (·.refKey)=true:=by rw[a];exact aai
  rw[if_neg a'];exact congrArg some e
theorem ObjM.look {h:Heap} {x dx C:Addr} {mA:Str→Option Value} (I:ObjM h x dx C mA):∃od,PySem.W.InstAt h x (PySem.W.instObj C dx) C (some od)∧∀name,PySem.W.lookIn name od=some (mA name):=
 let ⟨od,ho,hl⟩:=E6 I.ns
 ⟨od,⟨I.obj,rfl,rfl,ho⟩,hl⟩
theorem kh.some_of {v:V} {o:Option Value} (r:kh (some v) o):∃u,o=some u∧RelV v u:=by
 cases o with
 | none=>exact (show False from r).elim
 | some u=>exact ⟨u,rfl,r⟩
section
variable {P:Program} {w:World} {H H':Hp} {h h':Heap} {a C dx:Addr} {fs fs':List (Str×V)}
theorem Lk (hok:HOk P w H h) (e:H a=some (.ins C dx fs)):∃mA,ObjM h a dx C mA∧(∀f,kh (fs.lookup f) (mA f))∧PySem.Within mA (fs.map (·.1))∧fs.length≤1000∧H dx=some (.own a):=by
 obtain ⟨d,z,ne,ob,mA,n,r,q⟩:=(show br P w H h a (.ins C dx fs) from hok a _ e);exact ⟨mA,⟨ob,n,ne⟩,r,q,z,d⟩
end
structure Cls (K:PySem.W.Frag) (C:Addr):Prop where
 pg:PySem.W.plainGet K C Str.empty=true
 hd:PySem.W.hasDictIn K C=true
 po:PySem.W.plainOver K C=true
 sa:PySem.W.findIn K (.ref C) "__setattr__"=some (some (.builtin "object.__setattr__"))
theorem Cls.get {K:PySem.W.Frag} {C:Addr} (c:Cls K C) (f:Str):PySem.W.plainGet K C f=true:=c.pg
section
variable {X:Cx} {pins:List (Addr×Obj)} {σ:St} {H:Hp} {s:Shared} {A:Around} {E:Value→Shared→Prop} {Q:Value→Shared→Prop} {c:Value} {b:Bool}
inductive n8 (K:PySem.W.Frag) (H:Hp):V→Value→Prop where
 | non:n8 K H .non (.type "NoneType")
 | bl (x:Bool):n8 K H (.bl x) (.type "bool")
 | int (i:Int):n8 K H (.int i) (.type "int")
 | str (x:Str):n8 K H (.str x) (.type "str")
 | flt (x:UInt64):n8 K H (.flt x) (.type "float")
 | lst {a:Addr} {xs:List V} (e:H a=some (.lst xs)):n8 K H (.ref a) (.type "list")
 | frz {a:Addr} {o:Obj} {xs:List V} (e:H a=some (.frz o (.lst xs))):n8 K H (.ref a) (.type "list")
 | tup {a:Addr} {xs:List V} (e:H a=some (.tup xs)):n8 K H (.ref a) (.type "tuple")
 | dK {a:Addr} {kvs:List (Key×V)} (e:H a=some (.dK kvs)):n8 K H (.ref a) (.type "dict")
 | dT {a:Addr} {kvs:List (List Key×V)} (e:H a=some (.dT kvs)):n8 K H (.ref a) (.type "dict")
 | ins {a C dx:Addr} {fs:List (Str×V)} (e:H a=some (.ins C dx fs)) (cl:Cls K C) (ha:PySem.W.findIn K (.ref C) "__class__"=some (some (.builtin "object.__class__")))
   (hn:PySem.W.specialIn K (.builtin "object.__class__") "__get__"=some (some (.builtin "getset_descriptor.__get__"))) (htk:PySem.W.takesIn K (.builtin "object.__class__")=some true)
   (hm:PySem.W.mroIn K C (.type "object")=some true):n8 K H (.ref a) (.ref C)
theorem Gd {x:V} {u t:Value} (I:Inv X pins σ H s) (rx:RelV x u) (ty:n8 X.K H x t) (e:PySem.W.kitOne X.K t c=some b) (h:∀tk,Q (.bool b) { s with toks:=tk }):
  wpAny (model X.prog X.w) A (call (.builtin "isinstance") [u,c]) Q E s:=by
 cases ty with
 | non=>cases (show u=Value.none from rx);exact PySem.W.kia_one PySem.W.kitx_none I.kIn True.intro e (λz=>nomatch z) h
 | bl y=>cases (show u=Value.bool y from rx);exact PySem.W.kia_one PySem.W.kitx_bool I.kIn True.intro e (λz=>nomatch z) h
 | int i=>obtain ⟨t,q⟩:=(show ∃t,u=Value.int i t from rx);cases q;exact PySem.W.kia_one PySem.W.kitx_int I.kIn True.intro e (λz=>nomatch z) h
 | str y=>obtain ⟨t,q⟩:=(show ∃t,u=Value.str y t from rx);cases q;exact PySem.W.kia_one PySem.W.kitx_str I.kIn True.intro e (λz=>nomatch z) h
 | flt y=>obtain ⟨t,q⟩:=(show ∃t,u=Value.float y t from rx);cases q;exact PySem.W.kia_one PySem.W.kitx_float I.kIn True.intro e (λz=>nomatch z) h
 | @lst a xs ea=>
  cases (show u=Value.ref a from rx)
  obtain ⟨_,_,n,_,h1⟩:=(show br X.prog X.w H s.heap a (.lst xs) from I.hok a _ ea);exact PySem.W.kia_one PySem.W.kitx_list I.kIn ⟨_,h1,rfl⟩ e (λz=>nomatch z) h
 | @frz a ob xs ea=>
  cases (show u=Value.ref a from rx)
  obtain ⟨_,_,_,n,_,h1⟩:=(show br X.prog X.w H s.heap a (.frz ob (.lst xs)) from I.hok a _ ea);exact PySem.W.kia_one PySem.W.kitx_list I.kIn ⟨_,h1,rfl⟩ e (λz=>nomatch z) h
 | @tup a xs ea=>
  cases (show u=Value.ref a from rx)
  obtain ⟨_,_,_,p⟩:=(show br X.prog X.w H s.heap a (.tup xs) from I.hok a _ ea);obtain ⟨o,h1,h2,_⟩:=p;exact PySem.W.kia_one PySem.W.kitx_tuple I.kIn ⟨o,h1,h2⟩ e (λz=>nomatch z) h
 | @dK a kvs ea=>
  cases (show u=Value.ref a from rx)
  obtain ⟨_,_,vs,_,p⟩:=(show br X.prog X.w H s.heap a (.dK kvs) from I.hok a _ ea);obtain ⟨o,es,ep,h1,h2,_⟩:=p;exact PySem.W.kia_one PySem.W.kitx_dict I.kIn ⟨o,h1,h2.1⟩ e (λz=>nomatch z) h
 | @dT a kvs ea=>
  cases (show u=Value.ref a from rx)
  obtain ⟨_,_,xs,_,o,es,ep,h1,h2,_⟩:=(show br X.prog X.w H s.heap a (.dT kvs) from I.hok a _ ea);exact PySem.W.kia_one PySem.W.kitx_dict I.kIn ⟨o,h1,h2.1⟩ e (λz=>nomatch z) h
 | @ins a C dx fs ea cl ha hn htk hm=>
  cases (show u=Value.ref a from rx)
  obtain ⟨mA,O,_⟩:=Lk I.hok ea;obtain ⟨od,J,_⟩:=O.look;exact PySem.W.kia_one (PySem.W.kitx_own (cl.get _) cl.hd ha hn htk hm) I.kIn J e (λz=>nomatch z) h
end
structure fi (k:Nat) (A:Around):Prop where
 hd:A.handled=none
 dp:A.depth+3*k+5 < recursionLimit
 un:A.units+16*k+200 < cLine
theorem fi.mono {j k:Nat} {A:Around} (r:fi k A) (h:j≤k):fi j A:=⟨r.hd,by have:=r.dp;omega,by have:=r.un;omega⟩
theorem fi.deeper {k:Nat} {A:Around} (r:fi (k+1) A) (env:Env):fi k (A.deeper env):=
 ⟨r.hd,by have:=r.dp;show A.depth+1+3*k+5 < _;omega,by have:=r.un;show A.units+3+16*k+200 < _;omega⟩
theorem fi.depth {k:Nat} {A:Around} (r:fi k A):A.depth < recursionLimit:=by have:=r.dp;omega
theorem fi.units {k:Nat} {A:Around} (r:fi k A):A.units+64 < cLine:=by have:=r.un;omega
def tNil:TA:=λ_ H Q=>Q [] H
def tCons (ta:TE) (tr:TA):TA:=λσ H Q=>ta σ H λx H1=>tr σ H1 λxs H2=>Q (x::xs) H2
section
variable {X:Cx} {e:Expr} {es:List Expr} {te:TE} {t:TA} {pos:Pos}
theorem Jk:PA X [] tNil:=λ_ _ _ _ H Q I h=>Calls.spliced_nil ⟨[],H,I,.nil,h⟩
theorem wj (ha:PE X e te) (hr:PA X es t) (hs:starEach (e::es) X.env=(false,eval e X.env)::starEach es X.env:=by rfl):PA X (e::es) (tCons te t):=by
 intro pos pins s σ H Q I h;rw[hs];show wpAny _ _ (spliced ((false,eval e X.env)::backTo pos (starEach es X.env))) _ _ s
 refine Calls.spliced_cons (thn (ha pins s σ H _ I h) λu s1 ⟨x,H1,I1,r1,q1⟩=>?_);exact thn (hr pos pins s1 σ H1 _ I1 q1) λus s2 ⟨xs,H2,I2,r2,q2⟩=>⟨x::xs,H2,I2,.cons r1 r2,q2⟩
def tTup (t:TA):TE:=λσ H Q=>t σ H λxs H1=>xs.length≤sizeLine∧∀p,H1 p=none→Q (.ref p) (upd H1 p (.tup xs))
def tLst (t:TA):TE:=λσ H Q=>t σ H λxs H1=>xs.length≤sizeLine∧∀p,H1 p=none→Q (.ref p) (upd H1 p (.lst xs))
theorem pe_tup {x1} (h:PA X es t):PE X (.Tuple es x1 pos) (tTup t):=by
 intro pins s σ H Q I hq;refine wpAny_Tuple_spliced (thn (h pos pins s σ H _ I hq) λus s1 ⟨xs,H1,I1,r,z,q⟩=>⟨by rw[←r.length];exact z,?_⟩);have hf:H1 s1.heap.objs.size=none:=I1.hok.fresh (aa4 _);refine ⟨.ref s1.heap.objs.size,upd H1 s1.heap.objs.size (.tup xs),I1.laid (t':=s1.toks) (λb u e=>Heap.get?_push_of_some _ e) (aa4 _) ?_,rfl,q _ hf⟩;exact ⟨z,us,r,⟨_,Heap.get?_push_size _ rfl,rfl,_,rfl,rfl⟩⟩
theorem pe_lst (h:PA X es t):PE X (.List es pos) (tLst t):=by
 intro pins s σ H Q I hq;refine wpAny_List_spliced (thn (h pos pins s σ H _ I hq) λus s1 ⟨xs,H1,I1,r,z,q⟩=>⟨by rw[←r.length];exact z,?_⟩);have hf:H1 s1.heap.objs.size=none:=I1.hok.fresh (aa4 _);refine ⟨.ref s1.heap.objs.size,upd H1 s1.heap.objs.size (.lst xs),I1.laid (t':=s1.toks) (λb u e=>Heap.get?_push_of_some _ e) (aa4 _) ?_,rfl,q _ hf⟩;exact ⟨z,us,0,r,Heap.get?_push_size _ rfl⟩
end
abbrev Sp:=List V→Hp→VK→XK→Prop
abbrev CXT:=List Env→Hp→Shared→XK→Value→Shared→Prop
structure Env0 (P:Program) (w:World) (K:PySem.W.Frag) (mg:Str→Option Value) (base:Heap) (A:Around) (outer:List Env) (s:Shared) (H:Hp):Prop where
 frames:A.frames=some outer
 mod:Mod K mg base
 bs:∀b o,base.get? b=some o→s.heap.get? b=some o∧H b=none
 bsz:base.objs.size≤s.heap.objs.size
 ou:s.heap.FunFrames base outer
 frf:∀b∈frs outer,H b=none
 hok:HOk P w H s.heap
 bare:AllBare s.gens
def CE (outer:List Env) (P:Program) (w:World) (H:Hp) (s:Shared) (Q:VK) (u:Value) (s':Shared):Prop:=
 ∃v H',s'.os=s.os∧AllBare s'.gens∧Un (frs outer) [] H H' s.heap s'.heap∧HOk P w H' s'.heap∧RelV v u∧Q v H'
def CR (CX:CXT) (outer:List Env) (P:Program) (w:World) (H:Hp) (s:Shared) (Q:VK) (E:XK) (r:Result) (s':Shared):Prop:=
 match r with
 | .ok (.ret u)=>CE outer P w H s Q u s'
 | .ok _=>False
 | .error e=>CX outer H s E e s'
structure mi (P:Program) (w:World) (K:PySem.W.Frag) (mg:Str→Option Value) (base:Heap) (CX:CXT) (k:Nat) (f:Addr) (fd:FuncData) (ps:List Str) (sp:Sp):Prop where
 len:∀vs H Q E,sp vs H Q E→vs.length=ps.length
 run:∀(A:Around) (outer:List Env) (s:Shared) (H:Hp) (args:Args) (us:List Value) (vs:List V) (Q:VK) (E:XK),fi k A→Env0 P w K mg base A outer s H→BindsTo s fd args (ps.zip us)→Vals vs us→sp vs H Q E→
  codeAny (model P w) A (.call (.ref f) args) (CR CX outer P w H s Q E) s
theorem mi.mono {P:Program} {w:World} {K:PySem.W.Frag} {mg:Str→Option Value} {base:Heap} {CX:CXT} {j k:Nat} {f:Addr} {fd:FuncData} {ps:List Str} {sp:Sp} (F:mi P w K mg base CX j f fd ps sp) (h:j≤k):
  mi P w K mg base CX k f fd ps sp:=⟨F.len,λA outer s H args us vs Q E hr=>F.run A outer s H args us vs Q E (hr.mono h)⟩
section
variable {X:Cx} {pins:List (Addr×Obj)} {σ:St} {H:Hp} {s s':Shared}
theorem Inv.env0 (I:Inv X pins σ H s):Env0 X.prog X.w X.K X.mg X.base X.A X.stack s H:=
 ⟨I.ok.frames,I.ok.mod,I.bs,aal I.ok.bsz I.sz,I.stack,I.Cz,I.hok,I.bare⟩
theorem Inv.after {Q:VK} {u:Value} (I:Inv X pins σ H s) (h:CE X.stack X.prog X.w H s Q u s'):EP X pins σ Q u s':=by
 obtain ⟨v,H',os,bare,un,hok,r,q⟩:=h;obtain ⟨hh,g,d,t,os'⟩:=s';obtain rfl:os'=s.os:=os;exact ⟨v,H',I.call (h':=hh) (g':=g) (d':=d) (t':=t) (ch:=[]) un hok bare (λb z=>absurd z (by simp)),r,q⟩
end
def Gq (sp:Sp) (dvs:List V) (E:XK) (t:TA):TE:=λσ H Q=>t σ H λvs H1=>sp (vs++dvs) H1 Q E
def Binds (K:PySem.W.Frag) (fd:FuncData) (ps:List Str) (ds:List Value):Prop:=
 ∀(s:Shared) (us:List Value),K.In s.heap→(us++ds).length=ps.length→BindsTo s fd ⟨us,[]⟩ (ps.zip (us++ds))
theorem Binds.all {K:PySem.W.Frag} {fd:FuncData} {ps:List Str} (h:∀us:List Value,us.length=ps.length→bindArgs fd ⟨us,[]⟩=pure (ps.zip us)):Binds K fd ps []:=λs us _ hl=>by
 rw[aaz] at hl ⊢;exact .of_eq (h us hl)
def Passes (CX:CXT) (X:Cx) (E:XK):Prop:=∀(pins:List (Addr×Obj)) (σ:St) (H:Hp) (s:Shared) (e:Value) (s':Shared),Inv X pins σ H s→CX X.stack H s E e s'→X.xe e s'
section
variable {X:Cx} {CX:CXT} {k:Nat} {f C:Addr} {fd:FuncData} {ps:List Str} {sp:Sp} {dvs:List V} {ds:List Value} {E:XK} {x m:Str} {p pos apos:Pos} {e o:Expr} {es:List Expr} {ta:TE} {t:TA}
theorem Kp {pins:List (Addr×Obj)} {σ:St} {H:Hp} {s:Shared} {Q:VK} {us:List Value} {vs:List V} (F:mi X.prog X.w X.K X.mg X.base CX k f fd ps sp) (hr:fi k X.A) (hb:Binds X.K fd ps ds) (hd:Vals dvs ds) (hx:Passes CX X E)
  (I:Inv X pins σ H s) (r:Vals vs us) (h:sp (vs++dvs) H Q E):wpAny (model X.prog X.w) X.A (call (.ref f) us) (EP X pins σ Q) X.xe s:=by
 have r2:Vals (vs++dvs) (us++ds):=r.append hd;have hl:(us++ds).length=ps.length:=by rw[←r2.length];exact F.len _ _ _ _ h
 refine wpAny_call (codeAny_mono (F.run X.A X.stack s H ⟨us,[]⟩ (us++ds) (vs++dvs) Q E hr I.env0 (hb s us I.kIn hl) r2 h) λr s' hq=>?_);cases r with
 | error e=>exact hx pins σ H s e s' I hq
 | ok fl=>
  cases fl with
  | ret u=>exact I.after hq
  | next=>exact False.elim hq
  | brk=>exact False.elim hq
  | cont=>exact False.elim hq
theorem Lj (F:mi X.prog X.w X.K X.mg X.base CX k f fd ps sp) (hr:fi k X.A) (hg:Gl X x) (hm:X.mg x=some (.ref f)) (hk:PySem.W.keepIn X.K (.ref f)=true) (hb:Binds X.K fd ps ds) (hd:Vals dvs ds) (hx:Passes CX X E)
  (ha:PA X (e::es) t) (hdb:(x==("__debug__":Str))=false:=by decide) (he:starEach (e::es) X.env=(false,eval e X.env)::starEach es X.env:=by rfl) (hpl:(backTo pos (starEach es X.env)).any (·.1)=false:=by rfl):
  PE X (.Call (.Name x p) (e::es) [] pos) (Gq sp dvs E t):=by
 intro pins s σ H Q I h;refine wpAny_Call_Name_kw (Dm I hg hm ?_ hdb);refine PySem.W.callWith_K (h₀:=X.base) I.ok.mod.kin hk (thn (ha pos pins s σ H _ I h) λus s1 ⟨vs,H1,I1,r,q⟩=>⟨I1.kIn,?_⟩) he hpl;exact Kp F hr hb hd hx I1 r q
end
structure aj (N P:List Str) (sc:Scope):Prop where
 kind:sc.kind=.function
 co:sc.isCoroutine=false
 gen:sc.isGenerator=false
 nd:N.Nodup
 pre:N.take P.length=P
 par:∀x∈P,sc.names.lookup x=some .local∨sc.names.lookup x=some .cell
 nofree:∀y∈sc.names,y.2≠.free
theorem uy {kindOf:Str→Option NameKind} {x:Str}:∀{binds:List (Str×Value)} {m:Str→Option Value},(∀v,(x,v)∉binds)→bindL kindOf binds m x=m x
 | [],_,_=>rfl
 | (n,v)::r,m,h=>by
  unfold bindL;rw[uy λw hw=>h w (aa7 _ hw)];split
  ·have:x≠n:=by rintro rfl;exact h v aa8
   simp[this]
  ·rfl
theorem uh {kindOf:Str→Option NameKind} {x:Str}:∀{binds:List (Str×Value)} {m:Str→Option Value},(∀v,(x,v)∉binds)→bindC kindOf binds m x=m x
 | [],_,_=>rfl
 | (n,v)::r,m,h=>by
  unfold bindC;rw[uh λw hw=>h w (aa7 _ hw)];split
  ·rfl
  ·have:x≠n:=by rintro rfl;exact h v aa8
   simp[this]
theorem vq {kindOf:Str→Option NameKind} {x:Str} {v:Value}:∀{P:List Str} {vs:List Value} {i:Nat} {m:Str→Option Value},P.Nodup→P[i]?=some x→vs[i]?=some v→kindOf x=some .local→
  bindL kindOf (P.zip vs) m x=some v
 | [],_,_,_,_,h,_,_=>by simp at h
 | _::_,[],_,_,_,_,h,_=>by simp at h
 | p::P,w::vs,0,m,nd,h1,h2,hk=>by
  simp at h1 h2;subst h1;subst h2;show bindL kindOf ((p,w)::P.zip vs) m p=_
  unfold bindL;rw[uy λv hv=>(List.nodup_cons.mp nd).1 (adm hv).1,if_pos hk];simp
 | p::P,w::vs,i+1,m,nd,h1,h2,hk=>by
  show bindL kindOf ((p,w)::P.zip vs) m x=_
  unfold bindL;exact vq (i:=i) (List.nodup_cons.mp nd).2 (by simpa using h1) (by simpa using h2) hk
theorem u7 {kindOf:Str→Option NameKind} {x:Str} {v:Value}:∀{P:List Str} {vs:List Value} {i:Nat} {m:Str→Option Value},P.Nodup→P[i]?=some x→vs[i]?=some v→kindOf x≠some .local→
  bindC kindOf (P.zip vs) m x=some v
 | [],_,_,_,_,h,_,_=>by simp at h
 | _::_,[],_,_,_,_,h,_=>by simp at h
 | p::P,w::vs,0,m,nd,h1,h2,hk=>by
  simp at h1 h2;subst h1;subst h2;show bindC kindOf ((p,w)::P.zip vs) m p=_
  unfold bindC;rw[uh λv hv=>(List.nodup_cons.mp nd).1 (adm hv).1,if_neg hk];simp
 | p::P,w::vs,i+1,m,nd,h1,h2,hk=>by
  show bindC kindOf ((p,w)::P.zip vs) m x=_
  unfold bindC;exact u7 (i:=i) (List.nodup_cons.mp nd).2 (by simpa using h1) (by simpa using h2) hk
noncomputable def start (N:List Str) (vs:List V):St:=vs.map some++abi (N.length - vs.length) none
noncomputable def ow (CX:CXT) (P:Program) (w:World) (K:PySem.W.Frag) (mg:Str→Option Value) (base:Heap) (N:List Str) (qual:Str) (scope:Scope) (f:Addr) (cd:Value) (A:Around) (outer:List Env) (s:Shared) (H:Hp) (E:XK):Cx where
 prog:=P
 w:=w
 K:=K
 mg:=mg
 base:=base
 A:=A.deeper (envOfC qual scope s.heap.objs.size f cd)
 N:=N
 s₀:=s
 H₀:=H
 env:=envOfC qual scope s.heap.objs.size f cd
 outer:=outer
 stack:=envOfC qual scope s.heap.objs.size f cd::outer
 ex:=[]
 calm:=true
 fn:=λ_=>true
 pn:=[]
 xe:=λe s'=>wpAny (model P w) (A.deeper (envOfC qual scope s.heap.objs.size f cd)) (leaving (envOfC qual scope s.heap.objs.size f cd) e) (λ_ s''=>CX outer H s E e s'') (λe' s''=>CX outer H s E e' s'') s'
theorem xu {sc:Scope} {n:Nat} {x:Str} (h:sc.names.lookup x=some .cell):∃c,(cellsFrom n sc.names []).lookup x=some c:=by
 have q:=PySem.W.cellsFrom_some sc.names n [] (.inl h);exact Option.isSome_iff_exists.mp q
theorem Fo {CX:CXT} {P:Program} {w:World} {K:PySem.W.Frag} {mg:Str→Option Value} {base:Heap} {N ps:List Str} {qual:Str} {scope:Scope} {f:Addr} {cd:Value} {A:Around} {outer:List Env} {s s1:Shared} {H:Hp} {E:XK} {us:List Value} {vs:List V}
  (S:aj N ps scope) (hd:A.handled=none) (e0:Env0 P w K mg base A outer s H) (hl:vs.length=ps.length) (r:Vals vs us)
  (x:InCallC s s.heap.objs.size (bindL (envOfC qual scope s.heap.objs.size f cd).kindOf (ps.zip us) λ_=>none) (cellsFrom (s.heap.objs.size+1) scope.names []) (bindC (envOfC qual scope s.heap.objs.size f cd).kindOf (ps.zip us) λ_=>none) s1):
  Inv (ow CX P w K mg base N qual scope f cd A outer s H E) [] (start N vs) H s1:=by
 have hpl:ps.length≤N.length:=by have:=congrArg aeg S.pre;rw[aad] at this;omega
 obtain ⟨h1,tk,rfl,hk⟩:=x.done;have noA:∀b:Addr,b∉(ow CX P w K mg base N qual scope f cd A outer s H E).ex:=λb z=>absurd (show b∈([]:List Addr) from z) (by simp);refine ⟨⟨e0.mod,S.kind,rfl,rfl,aa4 _,λy z c h1 h2=>?_,λy hy=>?_,λy c _ h=>?_,λ_=>hd,Around.frames_deeper e0.frames,.inr ⟨rfl,rfl⟩,λb z=>absurd z (noA b),e0.bs,e0.bsz,λb _ _=>noA b,λb z=>absurd z (noA b),e0.ou,e0.frf⟩,
  rfl,e0.bare,Un.kept hk,⟨_,x.toInCall.ns,λi y v h1 h2 h3=>?_⟩,λy c h=>⟨_,x.cell y c h⟩,e0.hok.fresh (aa4 _),λy c h=>?_,λp hp=>absurd (show p∈([]:List (Addr×Obj)) from hp) (by simp),e0.hok.kept hk,?_⟩
 ·exact name_of_addr x.apart (PySem.mem_of_lookup h1) (PySem.mem_of_lookup h2)
 ·have hy:scope.names.lookup y=some .cell∨scope.names.lookup y=some .free:=hy;rcases hy with hy | hy
  ·exact xu hy
  ·exact absurd rfl (S.nofree _ (PySem.mem_of_lookup hy))
 ·exact acs (x.above y c (PySem.mem_of_lookup h))
 ·have hi:i < vs.length:=by
   unfold start at h2;by_cases hi:i < vs.length
   ·exact hi
   ·rw[aar (by simpa using hi)] at h2;rw[adj] at h2;split at h2 <;> cases h2
  have ha:vs[i]?=some v:=by
   unfold start at h2;rw[aax (by simpa using hi),aae] at h2;cases e:vs[i]? with
   | none=>rw[e] at h2;cases h2
   | some a=>rw[e] at h2;cases h2;rfl
  obtain ⟨u,hu,rv⟩:=r.get ha;have hp:ps[i]?=some y:=by
   rw[←S.pre,adf (by omega)];exact h1
  have ndP:ps.Nodup:=by rw[←S.pre];exact S.nd.sublist (acj _ _)
  refine ⟨u,rv,?_⟩;rcases S.par y (aam hp) with k | k
  ·exact .inl ⟨k,vq ndP hp hu k⟩
  ·obtain ⟨c,e⟩:=xu (n:=s.heap.objs.size+1) k;refine .inr ⟨.inl k,c,e,?_⟩;have q:=x.cell y c e;rw[u7 ndP hp hu (by show scope.names.lookup y≠_;rw[k];decide)] at q;exact q
 ·exact e0.hok.fresh (acs (x.above y c (PySem.mem_of_lookup h)))
 ·unfold start;show _=N.length
  rw[aa5,aa3,ac5];omega
theorem fn_of {CX:CXT} {P:Program} {w:World} {K:PySem.W.Frag} {mg:Str→Option Value} {base:Heap} {k:Nat} {f:Addr} {name qual:Str} {params:Arguments} {body:List Stmt} {scope:Scope} {dV kV doc pm cdv ct oc:Value} {an od:Option Addr}
  {osl:Array (Option Value)} {N ps:List Str} {sp:Sp} (lk:K.lookup f=some ⟨oc,od,.func (PySem.W.fnOf name qual params body scope dV kV doc pm an cdv ct),osl⟩) (hcd:PySem.W.codeIn K cdv qual=true) (S:aj N ps scope)
  (len:∀vs H Q E,sp vs H Q E→vs.length=ps.length)
  (hbody:∀(A:Around) (outer:List Env) (s:Shared) (H:Hp) (vs:List V) (Q:VK) (E:XK),fi k (A.deeper (envOfC qual scope s.heap.objs.size f cdv))→sp vs H Q E→
   ∃t,PSs (ow CX P w K mg base N qual scope f cdv A outer s H E) body t∧t { nx:=λ_ H'=>Q .non H',rt:=Q } (start N vs) H):
  mi P w K mg base CX (k+1) f (PySem.W.fnOf name qual params body scope dV kV doc pm an cdv ct) ps sp:=by
 refine ⟨len,λA outer s H args us vs Q E hr e0 hb r hsp=>?_⟩;have hl:=len _ _ _ _ hsp;have KX:K.In s.heap:=e0.mod.kin.keeps λb o e=>(e0.bs b o e).1;have lim:s.heap.NoLimit:=e0.mod.nolimit.keeps λb o e=>(e0.bs b o e).1;have hkind:∀y∈ps.zip us,scope.names.lookup y.1=some .local∨(scope.names.lookup y.1=some .cell∧((cellsFrom (s.heap.objs.size+1) scope.names []).lookup y.1).isSome=true):=λ⟨n,v⟩ hy=>by
  rcases S.par n (adm hy).1 with q | q
  ·exact .inl q
  ·exact .inr ⟨q,PySem.W.cellsFrom_some _ _ _ (.inl q)⟩
 refine codeAny_call_function hr.depth (KX _ _ lk) rfl S.co S.gen rfl (PySem.W.codeRec_of KX hcd) (hb _ _ _ _ ?_);refine wpAny_newFunctionEnv_cells S.kind hkind λenv he s1 x=>?_;subst he;refine ⟨lim.keeps x.toInCall.keep,codeAny_func ?_⟩;obtain ⟨t,ht,hq⟩:=hbody A outer s H vs Q E (hr.deeper _) hsp;have I:Inv (ow CX P w K mg base N qual scope f cdv A outer s H E) [] (start N vs) H s1:=Fo S hr.hd e0 hl r x;refine wpAny_mono (ht [] s1 (start N vs) H _ I hq) (λfl s' hs=>?_) λe s' hs=>hs;have fin:∀{σ':St} {H':Hp} {v:V} {u:Value},Inv (ow CX P w K mg base N qual scope f cdv A outer s H E) [] σ' H' s'→RelV v u→Q v H'→CE outer P w H s Q u s':=
  λ{σ' H' v u} J rv q=>⟨v,H',J.os,J.bare,J.base,J.hok,rv,q⟩
 cases fl with
 | ret u=>
  obtain ⟨v,σ',H',J,rv,q⟩:=hs;exact fin J rv q
 | next=>
  obtain ⟨σ',H',J,q⟩:=hs;exact fin (v:=V.non) (u:=Value.none) J rfl q
 | brk=>
  obtain ⟨_,_,_,q⟩:=hs;exact False.elim q
 | cont=>
  obtain ⟨_,_,_,q⟩:=hs;exact False.elim q
section
variable {X:Cx} {x:Str} {p pos:Pos} {e:Expr} {es:List Expr} {t:TA} {id T:String} {r:List V→Hp→VK→Prop}
def tCB (r:List V→Hp→VK→Prop) (t:TA):TE:=λσ H Q=>t σ H λvs H1=>r vs H1 Q
theorem Jz (hc:fq X (.builtin id) r) (hg:Gl X x) (hm:X.mg x=none) (hv:bootBuiltins x=some (.builtin id)) (ha:PA X (e::es) t) (hn:x≠"__name__":=by decide) (hdb:(x==("__debug__":Str))=false:=by decide)
  (he:starEach (e::es) X.env=(false,eval e X.env)::starEach es X.env:=by rfl) (hpl:(backTo pos (starEach es X.env)).any (·.1)=false:=by rfl):PE X (.Call (.Name x p) (e::es) [] pos) (tCB r t):=by
 intro pins s σ H Q I h;refine wpAny_Call_Name_kw (il I hg hm hv ?_ hn hdb);exact PyProof.Rows.callWith_builtin1 (thn (ha pos pins s σ H _ I h) λus s1 ⟨vs,H1,I1,r1,q1⟩=>hc pins s1 σ H1 vs us Q I1 r1 q1) he hpl
theorem Ga (hc:fq X (.type T) r) (hg:Gl X x) (hm:X.mg x=none) (hv:bootBuiltins x=some (.type T)) (ha:PA X (e::es) t) (hn:x≠"__name__":=by decide) (hdb:(x==("__debug__":Str))=false:=by decide)
  (he:starEach (e::es) X.env=(false,eval e X.env)::starEach es X.env:=by rfl) (hpl:(backTo pos (starEach es X.env)).any (·.1)=false:=by rfl):PE X (.Call (.Name x p) (e::es) [] pos) (tCB r t):=by
 intro pins s σ H Q I h;refine wpAny_Call_Name_kw (il I hg hm hv ?_ hn hdb);exact PyProof.Rows.callWith_type1 (thn (ha pos pins s σ H _ I h) λus s1 ⟨vs,H1,I1,r1,q1⟩=>hc pins s1 σ H1 vs us Q I1 r1 q1) he hpl
end
end L2
namespace HT
open PySem PyProof.Rows
section
open PySem.SeqAt
open PySem.AutoSeq1 (wpAny_loadPart')
open PySem.MeetsSeq PySem.MeetsSeq2 PySem.MeetsSeq3
end
section
variable {prog:Program} {w:World} {A:Around} {E:Value→Shared→Prop} {s:Shared}
theorem M6 {t b:Addr} {vs ws:List Value} {Q:Value→Shared→Prop} (ht:IsTup s.heap t vs.toArray) (hb:IsTup s.heap b ws.toArray) (hv:vs≠[])
  (h1:ws=[]→Q (.ref t) s) (h2:ws≠[]→Q (.ref s.heap.objs.size) { s with heap:=s.heap.push { cls:=.type "tuple",data:=.seq (vs++ws).toArray } })
  (hsz:vs.length+ws.length≤sizeLine):wpAny (model prog w) A (binaryOp .Add (.ref t) (.ref b)) Q E s:=by
 obtain ⟨⟨cls,dd,data,sl⟩,ho,hc,n,hd⟩:=id ht;obtain ⟨⟨cls2,dd2,data2,sl2⟩,ho2,hc2,n2,hd2⟩:=id hb;simp only at hc hd hc2 hd2;subst hc hd hc2 hd2;have e:vs.toArray++ws.toArray=(vs++ws).toArray:=by simp
 by_cases hw:ws=[]
 ·exact concat_meets ⟨_,ho,rfl⟩ ⟨_,ho2,rfl⟩ noFill_tuple_add seq_tuple_add PySem.F.slot_tuple_add PySem.F.entry_tuple_add (PySem.F.args_tuple_add_2 _ _)
   (tuple_addW1 t b vs.toArray ws.toArray n n2 dd dd2 sl sl2 (by simpa using hv) (by simp[hw])) ⟨ho,ho2,h1 hw⟩
 ·refine concat_meets ⟨_,ho,rfl⟩ ⟨_,ho2,rfl⟩ noFill_tuple_add seq_tuple_add PySem.F.slot_tuple_add PySem.F.entry_tuple_add (PySem.F.args_tuple_add_2 _ _)
   (tuple_addW2 t b vs.toArray ws.toArray n n2 dd dd2 sl sl2 (by simpa using hv) (by simpa using hw) (by rw[aa9,aa9];exact hsz)) ⟨ho,ho2,?_⟩
  rw[e];exact h2 hw
noncomputable def sIx (n d:Nat):Option Int→Nat
 | none=>d
 | some v=>if v < 0 then (v+(n:Int)).toNat else min v.toNat n
theorem Kj (n d:Nat):sIx n d none=d:=rfl
theorem L1 (n d k:Nat):sIx n d (some (k:Int))=min k n:=by
 show (if (k:Int) < 0 then ((k:Int)+(n:Int)).toNat else min (k:Int).toNat n)=min k n
 rw[if_neg (by omega),abk]
theorem Bx (n d:Nat) (hd:d≤n) (o:Option Int):sIx n d o≤n:=by
 cases o with
 | none=>exact hd
 | some v=>
  show (if v < 0 then (v+(n:Int)).toNat else min v.toNat n)≤n
  by_cases hv:v < 0
  ·rw[if_pos hv];omega
  ·rw[if_neg hv];exact aej _ _
theorem Cv (v:Int) (n d:Nat):(if v < 0 then max (v+(n:Int)) 0 else min v (n:Int))=((sIx n d (some v):Nat):Int):=by
 show (if v < 0 then max (v+(n:Int)) 0 else min v (n:Int))=(((if v < 0 then (v+(n:Int)).toNat else min v.toNat n):Nat):Int)
 by_cases hv:v < 0
 ·simp only[if_pos hv];omega
 ·simp only[if_neg hv];omega
theorem Bq (lo hi:Option Int) (n:Nat):Builtin.Slice.sliceAdjust lo hi 1 (n:Int)=(((sIx n 0 lo:Nat):Int),((sIx n n hi:Nat):Int)):=by
 have h1:¬((1:Int) < 0):=by omega
 unfold Builtin.Slice.sliceAdjust;simp only[h1,if_false];refine Prod.ext ?_ ?_
 ·cases lo with
  | none=>rfl
  | some v=>exact Cv v n 0
 ·cases hi with
  | none=>rfl
  | some v=>exact Cv v n n
theorem Ax (i j:Nat):Builtin.Slice.slicePlaces (i:Int) (j:Int) 1=j - i:=by
 unfold Builtin.Slice.slicePlaces;have h1:(1:Int) > 0:=by omega
 simp only[h1,if_true,Int.ediv_one];split <;> omega
theorem tj {v:Value} {o:Option Int} {Q:Option Int→Shared→Prop} (p:IsPart v o) (h:Q o s):wpAny (model prog w) A (Builtin.Slice.slicePartIndex v) Q E s:=by
 cases p with
 | none=>exact slicePart_none h
 | int i t=>exact slicePart_int h
theorem gd {sl:Addr} {vl vu:Value} {lo hi:Option Int} {n:Nat} {Q:Int×Int×Nat→Shared→Prop} (hs:s.heap.IsSliceOf sl vl vu .none) (pl:IsPart vl lo) (pu:IsPart vu hi)
  (h:Q (((sIx n 0 lo:Nat):Int),1,sIx n n hi - sIx n 0 lo) s):wpAny (model prog w) A (Builtin.Slice.sliceApplied (.ref sl) (pure (n:Int))) Q E s:=by
 obtain ⟨os,hos,hcs,hds⟩:=id hs;unfold Builtin.Slice.sliceApplied Builtin.Slice.sliceFields;refine wpAny_bind (wpAny_bind (wpAny_field hos hds (x:=vl) rfl (wpAny_bind (wpAny_field hos hds (x:=vu) rfl (wpAny_bind (wpAny_field hos hds (x:=.none) rfl (wpAny_pure ?_)))))));refine wpAny_bind (slicePart_none ?_);show wpAny _ _ (if ((1:Int)==0)=true then _ else _) _ _ s
 rw[if_neg (by decide)];refine wpAny_bind (tj pl (wpAny_bind (tj pu (wpAny_bind (wpAny_pure ?_)))));show wpAny _ _ (match Builtin.Slice.sliceAdjust lo hi 1 (n:Int) with | (lo,hi)=>pure (lo,(1:Int),Builtin.Slice.slicePlaces lo hi 1)) _ _ s
 rw[Bq lo hi n];show wpAny _ _ (pure (((sIx n 0 lo:Nat):Int),(1:Int),Builtin.Slice.slicePlaces ((sIx n 0 lo:Nat):Int) ((sIx n n hi:Nat):Int) 1)) _ _ s
 rw[Ax];exact wpAny_pure h
theorem Ip (xs:Array Value) (i k:Nat):((aak k).filterMap λ(m:Nat)=>xs[((i:Int)+(m:Int)*1).toNat]?).toArray=((xs.toList.drop i).take k).toArray:=by
 have e:(λ(m:Nat)=>xs[((i:Int)+(m:Int)*1).toNat]?)=λm=>xs[i+m]?:=by
  funext m
  have:((i:Int)+(m:Int)*1).toNat=i+m:=by omega
  rw[this]
 rw[e];have:=pick_run xs i k;rw[List.filterMap_map] at this;have e2:((λx=>xs[x]?) ∘ λx=>i+x)=λm=>xs[i+m]?:=rfl;rw[e2] at this;rw[this]
theorem kj {t sl:Addr} {items:Array Value} {vl vu:Value} {lo hi:Option Int} {Q:Value→Shared→Prop} (ht:IsTup s.heap t items) (hs:s.heap.IsSliceOf sl vl vu .none) (pl:IsPart vl lo) (pu:IsPart vu hi)
  (hw:¬(sIx items.size 0 lo=0∧sIx items.size items.size hi=items.size))
  (h:Q (.ref s.heap.objs.size) { s with heap:=s.heap.push { cls:=.type "tuple",data:=.seq ((items.toList.drop (sIx items.size 0 lo)).take (sIx items.size items.size hi - sIx items.size 0 lo)).toArray } })
  (hsz:items.size≤sizeLine):wpAny (model prog w) A (getItem (.ref t) (.ref sl)) Q E s:=by
 have htake:sizeOk (.seq ((items.toList.drop (sIx items.size 0 lo)).take (sIx items.size items.size hi - sIx items.size 0 lo)).toArray):=by
  show ((items.toList.drop (sIx items.size 0 lo)).take (sIx items.size items.size hi - sIx items.size 0 lo)).toArray.size≤sizeLine
  rw[aa9,aad,aao,ab9];omega
 have hj:sIx items.size items.size hi≤items.size:=Bx _ _ (aa4 _) hi;obtain ⟨os,hos,hcs,hds⟩:=id hs;have hTs:s.TypeIs (.ref sl) "slice":=⟨os,hos,hcs⟩;unfold getItem;try with_reducible refine wpAny_holding ?_
 first | refine wpAny_bind (wpAny_pure ?_) | skip
 refine wpAny_bind (wpAny_sequenceKey ht.typeIs (by decide) ?_);refine wpAny_bind (wpAny_callSpecial?_slot (name:=Str.ofString "__getitem__") ht.typeIs PyProof.Rows.slot_tuple_getitem
  (wpAny_call_entry PyProof.Rows.slot_tuple_getitem ht.typeIs entry_tuple_getitem ?_ (args_tuple_getitem _ _)))
 show wpAny _ _ (Builtin.Tuple.tupleItemsOf (.ref t) >>=_) _ _ s
 refine wpAny_bind (tupleItemsOf_ ht ?_);refine wpAny_bind (wpAny_typeOf hTs ?_);rw[if_pos (by decide)];refine wpAny_bind (gd hs pl pu ?_);have hno:¬((((sIx items.size 0 lo:Nat):Int)==0&&(1:Int)==1&&(sIx items.size items.size hi - sIx items.size 0 lo)==items.size)=true):=by
  intro q;rw[abf,abf] at q;have q1:((sIx items.size 0 lo:Nat):Int)=0:=eq_of_beq q.1.1;have q2:sIx items.size items.size hi - sIx items.size 0 lo=items.size:=eq_of_beq q.2;exact hw ⟨by omega,by omega⟩
 show wpAny _ _ (if (((sIx items.size 0 lo:Nat):Int)==0&&(1:Int)==1&&(sIx items.size items.size hi - sIx items.size 0 lo)==items.size)=true then _ else _) _ _ s
 rw[if_neg hno,Ip];first
  | exact wpAny_bind (m:=Builtin.Tuple.tupleExact _) (wpAny_newObj_type (wpAny_pure ⟨_,rfl,wpAny_pure h⟩) htake)
  | exact wpAny_bind (m:=Builtin.Tuple.tupleExact _) (wpAny_newObj_type (wpAny_bind (wpAny_pure (wpAny_pure ⟨_,rfl,wpAny_pure h⟩))) htake)
  | exact wpAny_bind (wpAny_bind (m:=Builtin.Tuple.tupleExact _) (wpAny_newObj_type (wpAny_pure (wpAny_pure ⟨_,rfl,wpAny_pure h⟩)) htake))
  | exact wpAny_bind (wpAny_bind (m:=Builtin.Tuple.tupleExact _) (wpAny_newObj_type (wpAny_pure ⟨_,rfl,wpAny_pure h⟩) htake))
end
end HT
namespace L2
open PySem PySem.Spec PyProof.Rows
abbrev TO:=St→Hp→(Option Int→Hp→Prop)→Prop
def PO (X:Cx) (e:Option Expr) (t:TO):Prop:=
 ∀(pins:List (Addr×Obj)) (s:Shared) (σ:St) (H:Hp) (Q:Option Int→Hp→Prop),Inv X pins σ H s→t σ H Q→
  wpAny (model X.prog X.w) X.A (evalPart e X.env) (λu s'=>∃o H',Inv X pins σ H' s'∧IsPart u o∧Q o H') X.xe s
def Dx:TO:=λ_ H Q=>Q none H
def Ih (t:TE):TO:=λσ H Q=>t σ H λx H1=>∃i,x=.int i∧Q (some i) H1
theorem intsAre_of {ns:List Int}:∀{us:List Value},Vals (ns.map V.int) us→IntsAre us ns:=by
 induction ns with
 | nil=>intro us r;rw[ac6] at r;cases r;exact .nil
 | cons n ns ih=>
  intro us r;rw[aaj] at r;cases r with
  | cons r1 r2=>
   obtain ⟨t,e⟩:=r1;subst e;exact .cons n t (ih r2)
section
variable {X:Cx} {e:Expr} {te:TE} {lo hi:Option Expr} {tl th:TO} {pos p2:Pos}
theorem mh:PO X none Dx:=by
 intro pins s σ H Q I h;rw[evalPart_none];exact wpAny_pure ⟨none,H,I,.none,h⟩
theorem Mr (h:PE X e te):PO X (some e) (Ih te):=by
 intro pins s σ H Q I hw;rw[evalPart_some];refine thn (h pins s σ H _ I hw) λu s1 ⟨x,H1,I1,r1,q1⟩=>?_;obtain ⟨i,rfl,q⟩:=q1;obtain ⟨t,rfl⟩:=r1;exact ⟨some i,H1,I1,.int i t,q⟩
def SlR (X:Cx) (r:V→Option Int→Option Int→Hp→VK→Prop):Prop:=
 ∀(pins:List (Addr×Obj)) (s:Shared) (σ:St) (H:Hp) (x:V) (v vl vu:Value) (lo hi:Option Int) (sl:Addr) (Q:VK),Inv X pins σ H s→RelV x v→s.heap.IsSliceOf sl vl vu .none→IsPart vl lo→IsPart vu hi→r x lo hi H Q→
  ∃T id,typeLookup (.type T) "__getitem__"=pure (some (.builtin id))∧s.TypeIs v T∧wpAny (model X.prog X.w) X.A (getItem v (.ref sl)) (EP X pins σ Q) X.xe s
def tSl (r:V→Option Int→Option Int→Hp→VK→Prop) (te:TE) (tl th:TO):TE:=λσ H Q=>te σ H λx H1=>tl σ H1 λl H2=>th σ H2 λu H3=>r x l u H3 Q
theorem Gn {r:V→Option Int→Option Int→Hp→VK→Prop} (hr:SlR X r) (he:PE X e te) (hl:PO X lo tl) (hu:PO X hi th):PE X (.Subscript e (.Slice lo hi none p2) pos) (tSl r te tl th):=by
 intro pins s σ H Q I h;refine Subscript_ (thn (he pins s σ H _ I h) λv s1 ⟨x,H1,I1,r1,q1⟩=>?_);refine wpAny_Slice (thn (hl pins s1 σ H1 _ I1 q1) λvl s2 ⟨l,H2,I2,pl,q2⟩=>thn (hu pins s2 σ H2 _ I2 q2) λvu s3 ⟨u,H3,I3,pu,q3⟩=>?_);rw[evalPart_none];refine wpAny_pure ?_;have I4:Inv X pins σ H3 { s3 with heap:=s3.heap.push { cls:=.type "slice",data:=.fields #[vl,vu,.none] } }:=I3.kept (t':=s3.toks) λb ob q=>Heap.get?_push_of_some _ q;obtain ⟨T,id,hT,ht,hg⟩:=hr pins { s3 with heap:=s3.heap.push { cls:=.type "slice",data:=.fields #[vl,vu,.none] } } σ H3 x v vl vu l u s3.heap.objs.size Q I4 r1 (Heap.IsSliceOf.new ..) pl pu q3;show wpAny (model X.prog X.w) X.A (subscriptTail e (.Slice lo hi none p2) v (.ref s3.heap.objs.size)) (EP X pins σ Q) X.xe { s3 with heap:=s3.heap.push { cls:=.type "slice",data:=.fields #[vl,vu,.none] } }
 exact tail_any (ops:=[.ref s3.heap.objs.size,v]) ht hT hg (by with_unfolding_all rfl)
noncomputable def js (xs:List V) (lo hi:Option Int):List V:=(xs.drop (HT.sIx xs.length 0 lo)).take (HT.sIx xs.length xs.length hi - HT.sIx xs.length 0 lo)
theorem oj (xs:List V) (lo hi:Option Int):(js xs lo hi).length≤xs.length:=by
 unfold js;rw[aad,aao];omega
def rSlT (K:PySem.W.Frag):V→Option Int→Option Int→Hp→VK→Prop:=λx lo hi H Q=>∃a xs,x=.ref a∧SqT K H a xs∧
 ¬(HT.sIx xs.length 0 lo=0∧HT.sIx xs.length xs.length hi=xs.length)∧∀p,H p=none→Q (.ref p) (upd H p (.tup (js xs lo hi)))
theorem sl_tup:SlR X (rSlT X.K):=by
 intro pins s σ H x v vl vu lo hi sl Q I rx hs pl pu h;obtain ⟨a,xs,rfl,hx,hw,q⟩:=h;cases rx
 obtain ⟨its,r,ht,hz⟩:=I.tuple hx;have hlen:its.toArray.size=xs.length:=by rw[aa9];exact r.length.symm
 refine ⟨"tuple",_,PyProof.Rows.slot_tuple_getitem.lookup,ht.typeIs,?_⟩;refine HT.kj ht hs pl pu (by rw[hlen];exact hw) ?_ (by rw[hlen];exact hz);rw[hlen];refine ⟨.ref s.heap.objs.size,_,I.laid (t':=s.toks) (o:=.tup (js xs lo hi)) (λb ob q=>Heap.get?_push_of_some _ q) (aa4 _) ?_,rfl,q _ (I.hok.fresh (aa4 _))⟩;exact ⟨aal (oj xs lo hi) hz,_,(r.drop (HT.sIx xs.length 0 lo)).take (HT.sIx xs.length xs.length hi - HT.sIx xs.length 0 lo),⟨_,Heap.get?_push_size _ rfl,rfl,_,rfl,rfl⟩⟩
def rCatT (K:PySem.W.Frag):R2:=λx y H Q=>∃a b xs ys,x=.ref a∧y=.ref b∧SqT K H a xs∧SqT K H b ys∧xs≠[]∧xs.length+ys.length≤sizeLine∧
 (ys=[]→Q (.ref a) H)∧(ys≠[]→∀p,H p=none→Q (.ref p) (upd H p (.tup (xs++ys))))
theorem Vals.pj {xs:List V} {us:List Value} (r:Vals xs us):us=[]↔xs=[]:=by
 cases r with
 | nil=>simp
 | cons _ _=>simp
theorem Lg:OpR X (binaryOp .Add) (rCatT X.K):=by
 intro pins s σ H x y v u Q I rx ry h;obtain ⟨a,b,xs,ys,rfl,rfl,ha,hb,hx,hz,q1,q2⟩:=h;cases rx
 cases ry
 obtain ⟨its,r1,p1,_⟩:=I.tuple ha;obtain ⟨its2,r2,p2,_⟩:=I.tuple hb;refine HT.M6 p1 p2 (λz=>hx (r1.pj.mp z)) (λz=>⟨.ref a,H,I,rfl,q1 (r2.pj.mp z)⟩) (λz=>?_) (by rw[←r1.length,←r2.length];exact hz);refine ⟨.ref s.heap.objs.size,_,I.laid (t':=s.toks) (o:=.tup (xs++ys)) (λb ob q=>Heap.get?_push_of_some _ q) (aa4 _) ?_,rfl,q2 (λw=>z (r2.pj.mpr w)) _ (I.hok.fresh (aa4 _))⟩;exact ⟨by rw[aa5];exact hz,_,r1.append r2,⟨_,Heap.get?_push_size _ rfl,rfl,_,rfl,rfl⟩⟩
end
noncomputable def ixN (n:Nat) (i:Int):Option Nat:=if 0≤i then (if i < n then some i.toNat else none) else if -(n:Int)≤i then some (i+n).toNat else none
noncomputable def atI {α:Type} (xs:List α) (i:Int):Option α:=(ixN xs.length i).bind λj=>xs[j]?
theorem C1 {n:Nat} {i:Int} {j:Nat} (h:ixN n i=some j):seqIndex? i n=some j∧j < n∧-(n:Int)≤i∧i < n:=by
 unfold ixN at h;by_cases h0:0≤i
 ·rw[if_pos h0] at h;by_cases h1:i < n
  ·rw[if_pos h1] at h;have e:i.toNat=j:=aa6 h;exact ⟨by rw[seqIndex_of h0 h1,e],by omega,by omega,h1⟩
  ·rw[if_neg h1] at h;cases h
 ·rw[if_neg h0] at h;by_cases h1:-(n:Int)≤i
  ·rw[if_pos h1] at h;have e:(i+n).toNat=j:=aa6 h;exact ⟨by rw[seqIndex_neg (by omega) h1,e],by omega,h1,by omega⟩
  ·rw[if_neg h1] at h;cases h
theorem vz {α:Type} {xs:List α} {i:Int} {v:α} (h:atI xs i=some v):∃j,seqIndex? i xs.length=some j∧xs[j]?=some v∧j < xs.length∧-(xs.length:Int)≤i∧i < xs.length:=by
 unfold atI at h;cases e:ixN xs.length i with
 | none=>rw[e] at h;cases h
 | some j=>
  rw[e] at h;obtain ⟨h1,h2,h3,h4⟩:=C1 e;exact ⟨j,h1,h,h2,h3,h4⟩
theorem cb {α:Type} {xs:List α} {j:Nat} {v:α} (h:xs[j]?=some v):atI xs (j:Int)=some v:=by
 have hj:j < xs.length:=(List.getElem?_eq_some_iff.mp h).1;have e:ixN xs.length (j:Int)=some j:=by
  unfold ixN;rw[if_pos (by omega),if_pos (by omega)];simp
 unfold atI;rw[e];exact h
theorem Ik {α:Type} (xs:List α) (v:α):atI (xs++[v]) (-1)=some v:=by
 have hl:(xs++[v]).length=xs.length+1:=by simp
 have e:ixN (xs++[v]).length (-1)=some xs.length:=by
  unfold ixN;rw[hl,if_neg (by decide),if_pos (by omega)];congr 1
  omega
 unfold atI;rw[e];show (xs++[v])[xs.length]?=some v
 simp
def Mw (b:Expr):Prop:=∀o i,subscripted b false o i=operate [o,i] (getItem o i)
def IxR (X:Cx) (r:R2):Prop:=
 ∀(value slice:Expr) (pins:List (Addr×Obj)) (s:Shared) (σ:St) (H:Hp) (x y:V) (v u:Value) (Q:VK),Inv X pins σ H s→RelV x v→RelV y u→r x y H Q→
  subscripted slice false v u=operate [v,u] (getItem v u)→wpAny (model X.prog X.w) X.A (subscriptTail value slice v u) (EP X pins σ Q) X.xe s
def MtR (X:Cx) (id:String) (r:V→List V→Hp→VK→Prop):Prop:=
 ∀(pins:List (Addr×Obj)) (s:Shared) (σ:St) (H:Hp) (x:V) (xs:List V) (v:Value) (us:List Value) (Q:VK),Inv X pins σ H s→RelV x v→Vals xs us→r x xs H Q→
  wpAny (model X.prog X.w) X.A (call (.builtin id) (v::us)) (EP X pins σ Q) X.xe s
section
variable {X:Cx} {a b:Expr} {ta tb:TE} {pos:Pos}
theorem pe_ix {r:R2} (hr:IxR X r) (ha:PE X a ta) (hb:PE X b tb) (hs:Mw b):PE X (.Subscript a b pos) (tOp r ta tb):=by
 intro pins s σ H Q I h;exact Subscript_ (binT ha hb I h λv u s2 x y H2 I2 rx ry q=>hr a b pins s2 σ H2 x y v u Q I2 rx ry q (hs _ _))
def rIxL (K:PySem.W.Frag):R2:=λx y H Q=>∃p xs i v,x=.ref p∧y=.int i∧SqL K H p xs∧atI xs i=some v∧Q v H
def rIxT (K:PySem.W.Frag):R2:=λx y H Q=>∃p xs i v,x=.ref p∧y=.int i∧SqT K H p xs∧atI xs i=some v∧Q v H
def rIxS:R2:=λx y H Q=>∃z i c,x=.str z∧y=.int i∧z.length≤sizeLine∧atI z.cps.toList i=some c∧Q (.str ⟨#[c]⟩) H
theorem Lb:IxR X (rIxL X.K):=by
 intro value slice pins s σ H x y v u Q I rx ry h hs;obtain ⟨p,xs,i,z,rfl,rfl,hq,he,q⟩:=h;cases rx
 obtain ⟨t,rfl⟩:=ry;obtain ⟨its,r,pl,hz⟩:=I.list hq;obtain ⟨j,h1,h2,h3,h4,h5⟩:=vz he;obtain ⟨w,ew,rw'⟩:=r.get h2;have hl:=r.length;have hn:=ni;have fin:EP X pins σ Q w s:=⟨z,H,I,rw',q⟩;by_cases h0:0≤i
 ·have hj:i.toNat=j:=by
   rw[seqIndex_of h0 h5] at h1;exact aa6 h1
  exact item_listR pl.isList h0 (by omega) (by rw[hj];simpa using ew) fin hs
 ·have hj:(i+(its.toArray.size:Int)).toNat=j:=by
   rw[seqIndex_neg (by omega) h4] at h1;rw[aa9,←hl];exact aa6 h1
  exact subscriptTail_builtinR (x:=w) pl.isList.typeIs slot_list_getitem.lookup
   (wpAny_getItem_list_neg (Q:=λr s'=>r=w∧EP X pins σ Q r s') pl.isList (by omega) (by rw[aa9] <;> omega) (by omega) (by rw[hj];simpa using ew) ⟨rfl,fin⟩) hs
theorem fg:IxR X (rIxT X.K):=by
 intro value slice pins s σ H x y v u Q I rx ry h hs;obtain ⟨p,xs,i,z,rfl,rfl,hq,he,q⟩:=h;cases rx
 obtain ⟨t,rfl⟩:=ry;obtain ⟨its,r,pl,hz⟩:=I.tuple hq;obtain ⟨j,h1,h2,h3,h4,h5⟩:=vz he;obtain ⟨w,ew,rw'⟩:=r.get h2;have hl:=r.length;have hn:=ni;have fin:EP X pins σ Q w s:=⟨z,H,I,rw',q⟩;exact subscriptTail_builtinR (x:=w) pl.typeIs slot_tuple_getitem.lookup
  (getItem_tuple (j:=j) (Q:=λr s'=>r=w∧EP X pins σ Q r s') pl (by omega) (by omega) (by rw[aa9,←hl];exact h1) (by simpa using ew) ⟨rfl,fin⟩) hs
theorem ip:IxR X rIxS:=by
 intro value slice pins s σ H x y v u Q I rx ry h hs;obtain ⟨z,i,c,rfl,rfl,hz,he,q⟩:=h;obtain ⟨t,rfl⟩:=rx;obtain ⟨t',rfl⟩:=ry;obtain ⟨j,h1,h2,h3,h4,h5⟩:=vz he;have hl:z.cps.toList.length=z.length:=by simp[Str.length]
 rw[hl] at h1 h4 h5;have hn:=ni;exact tail_any (typeIs_str s z t) slot_str_getitem.lookup (getItem_str (c:=c) (by
  have e1:decide (i < -(2 ^ 63:Int))=false:=decide_eq_false (by omega);have e2:decide (i≥2 ^ 63)=false:=decide_eq_false (by omega);rw[e1,e2,Bool.or_false]) (by rw[h1];simpa using h2) ⟨.str ⟨#[c]⟩,H,I.tok _,⟨_,rfl⟩,q⟩) hs
theorem Bh (its:List Value) (n j:Nat) (u:Value):Obj.mapSeq (·.setIfInBounds j u) { cls:=.type "list",data:=.seq its.toArray n }={ cls:=.type "list",data:=.seq (its.set j u).toArray n }:=by
 simp[Obj.mapSeq]
theorem Inv.lst {pins:List (Addr×Obj)} {σ:St} {H:Hp} {s:Shared} {p:Addr} {xs:List V} (I:Inv X pins σ H s) (h:H p=some (.lst xs)):
  ∃(its:List Value) (n:Nat),Vals xs its∧s.heap.get? p=some { cls:=.type "list",data:=.seq its.toArray n }∧xs.length≤sizeLine:=by
 obtain ⟨z,its,n,r,e⟩:=I.hok p _ h;exact ⟨its,n,r,e,z⟩
theorem Inv.lstUpd {pins:List (Addr×Obj)} {σ:St} {H:Hp} {s:Shared} {p:Addr} {xs ys:List V} {its its':List Value} {n n':Nat} {f:Obj→Obj} (I:Inv X pins σ H s) (h:H p=some (.lst xs))
  (ho:s.heap.get? p=some { cls:=.type "list",data:=.seq its.toArray n }) (hf:f { cls:=.type "list",data:=.seq its.toArray n }={ cls:=.type "list",data:=.seq its'.toArray n' }) (r:Vals ys its') (hz:ys.length≤sizeLine) (t:Nat):
  Inv X pins σ (upd H p (.lst ys)) { s with heap:=s.heap.update p f,toks:=t }:=by
 have e:(s.heap.update p f).get? p=some { cls:=.type "list",data:=.seq its'.toArray n' }:=by
  rw[Heap.get?_update_self f ho (by rw[hf] <;> rfl),hf]
 refine I.write (x:=p) (e:=p) (by rw[h];trivial) (.inl rfl) (λb u hb q=>(Heap.get?_update_other _ _ (Ne.symm hb)).trans q) ⟨_,e⟩ ?_;exact ⟨hz,its',n',r,e⟩
def Je:V→V→V→Hp→(Hp→Prop)→Prop:=λo i v H Q=>∃p xs k j,o=.ref p∧i=.int k∧H p=some (.lst xs)∧ixN xs.length k=some j∧Q (upd H p (.lst (xs.set j v)))
theorem set_list:PSet X Je:=by
 intro pins s σ H o i v ov iv u Q I ro ri rv h;obtain ⟨p,xs,k,j,rfl,rfl,hp,hj,q⟩:=h;cases ro
 obtain ⟨t,rfl⟩:=ri;obtain ⟨its,n,r,ho,hz⟩:=I.lst hp;obtain ⟨h1,h2,h3,h4⟩:=C1 hj;have hl:=r.length;have hn:=ni;have I':Inv X pins σ (upd H p (.lst (xs.set j v))) { s with heap:=s.heap.update p (Obj.mapSeq (·.setIfInBounds j u)) }:=
  I.lstUpd hp ho (Bh its n j u) (r.set rv j) (by rw[List.length_set];exact hz) s.toks
 by_cases h0:0≤k
 ·have hk:k.toNat=j:=by
   rw[seqIndex_of h0 h4] at h1;exact aa6 h1
  exact PySem.W.ki_setAt ho h0 (by omega) (by rw[aa9,←hl];exact h4) (by rw[hk];exact ⟨_,I',q⟩)
 ·have hk:(k+(its.toArray.size:Int)).toNat=j:=by
   rw[seqIndex_neg (by omega) h3] at h1;rw[aa9,←hl];exact aa6 h1
  exact PySem.W.ki_setBack ho (by omega) (by rw[aa9,←hl];exact h3) (by omega) (by rw[hk];exact ⟨_,I',q⟩)
theorem xl (lo hi:Option Int) (n:Nat):(sliceBounds lo hi none n).1=((HT.sIx n 0 lo:Nat):Int)∧(sliceBounds lo hi none n).2.1=((HT.sIx n n hi:Nat):Int)∧(sliceBounds lo hi none n).2.2=1:=by
 refine ⟨?_,?_,rfl⟩
 ·cases lo with
  | none=>simp[sliceBounds,HT.sIx]
  | some i=>
   simp only[sliceBounds,HT.sIx,adg,show (1:Int) > 0 by decide,if_true];by_cases h:i < 0
   ·simp only[h,if_true] <;> omega
   ·simp only[h,if_false] <;> omega
 ·cases hi with
  | none=>simp[sliceBounds,HT.sIx]
  | some i=>
   simp only[sliceBounds,HT.sIx,adg,show (1:Int) > 0 by decide,if_true];by_cases h:i < 0
   ·simp only[h,if_true] <;> omega
   ·simp only[h,if_false] <;> omega
theorem t7 (its:List Value) (lo hi:Option Int):slicePick its.toArray lo hi none=((its.drop (HT.sIx its.length 0 lo)).take (HT.sIx its.length its.length hi - HT.sIx its.length 0 lo)).toArray:=by
 obtain ⟨h1,h2,h3⟩:=xl lo hi its.toArray.size;unfold slicePick;rw[h1,h2,h3];simp only[sliceRange_one,pick_run,aa9] <;> rfl
def rSlL (K:PySem.W.Frag):V→Option Int→Option Int→Hp→VK→Prop:=λx lo hi H Q=>∃a xs,x=.ref a∧SqL K H a xs∧∀p,H p=none→Q (.ref p) (upd H p (.lst (js xs lo hi)))
theorem Co:SlR X (rSlL X.K):=by
 intro pins s σ H x v vl vu lo hi sl Q I rx hs pl pu h;obtain ⟨a,xs,rfl,hx,q⟩:=h;cases rx
 obtain ⟨its,r,ht,hz⟩:=I.list hx;have hlen:=r.length;refine ⟨"list",_,slot_list_getitem.lookup,ht.isList.typeIs,?_⟩;refine wpAny_getItem_list_slice ht.isList hs pl pu .none (by simp) ?_ (by rw[aa9] <;> omega);rw[t7,←hlen];refine ⟨.ref s.heap.objs.size,_,I.laid (t':=s.toks) (o:=.lst (js xs lo hi)) (λb ob q=>Heap.get?_push_of_some _ q) (aa4 _) ?_,rfl,q _ (I.hok.fresh (aa4 _))⟩;exact ⟨aal (oj xs lo hi) hz,_,0,(r.drop (HT.sIx xs.length 0 lo)).take (HT.sIx xs.length xs.length hi - HT.sIx xs.length 0 lo),Heap.get?_push_size _ rfl⟩
noncomputable def gi:V→Bool
 | .non=>true
 | .bl _=>true
 | .int _=>true
 | .str _=>true
 | _=>false
noncomputable def eqV:V→V→Bool
 | .non,.non=>true
 | .bl a,.bl b=>a==b
 | .bl a,.int b=>(if a then 1 else 0)==b
 | .int a,.bl b=>a==(if b then 1 else 0)
 | .int a,.int b=>a==b
 | .str a,.str b=>a==b
 | _,_=>false
theorem Kk {A:Around} {s:Shared} {y x:V} {u v:Value} (ry:RelV y u) (rx:RelV x v) (fy:gi y=true) (fx:gi x=true):SeqAt.EqAt A s u v (eqV y x):=by
 cases y with
 | non=>
  cases ry
  cases x with
  | non=>cases rx;exact SeqAt.EqAt.same _
  | bl b=>cases rx;exact SeqAt.EqAt.none_bool b
  | int b=>obtain ⟨t,rfl⟩:=rx;exact SeqAt.EqAt.none_int b t
  | str b=>obtain ⟨t,rfl⟩:=rx;exact SeqAt.EqAt.none_str b t
  | _=>exact absurd (show false=true from fx) aai
 | bl a=>
  cases ry
  cases x with
  | non=>cases rx;exact SeqAt.EqAt.bool_none a
  | bl b=>cases rx;exact SeqAt.EqAt.bool_bool a b
  | int b=>obtain ⟨t,rfl⟩:=rx;exact SeqAt.EqAt.bool_int a b t
  | str b=>obtain ⟨t,rfl⟩:=rx;exact SeqAt.EqAt.bool_str a b t
  | _=>exact absurd (show false=true from fx) aai
 | int a=>
  obtain ⟨t',rfl⟩:=ry;cases x with
  | non=>cases rx;exact SeqAt.EqAt.int_none a t'
  | bl b=>cases rx;exact SeqAt.EqAt.int_bool a t' b
  | int b=>obtain ⟨t,rfl⟩:=rx;exact SeqAt.EqAt.int_int a t' b t
  | str b=>obtain ⟨t,rfl⟩:=rx;exact SeqAt.EqAt.int_str a t' b t
  | _=>exact absurd (show false=true from fx) aai
 | str a=>
  obtain ⟨t',rfl⟩:=ry;cases x with
  | non=>cases rx;exact SeqAt.EqAt.str_none a t'
  | bl b=>cases rx;exact SeqAt.EqAt.str_bool a t' b
  | int b=>obtain ⟨t,rfl⟩:=rx;exact SeqAt.EqAt.str_int a t' b t
  | str b=>obtain ⟨t,rfl⟩:=rx;exact SeqAt.EqAt.str_str a t' b t
  | _=>exact absurd (show false=true from fx) aai
 | _=>exact absurd (show false=true from fy) aai
noncomputable def eqU (x:V) (u:Value):Bool:=match u with
 | .none=>eqV .non x
 | .bool b=>eqV (.bl b) x
 | .int i _=>eqV (.int i) x
 | .str z _=>eqV (.str z) x
 | _=>false
theorem G7 {x y:V} {u:Value} (r:RelV y u) (f:gi y=true):eqU x u=eqV y x:=by
 cases y with
 | non=>cases r;rfl
 | bl b=>cases r;rfl
 | int i=>obtain ⟨t,rfl⟩:=r;rfl
 | str z=>obtain ⟨t,rfl⟩:=r;rfl
 | _=>exact absurd (show false=true from f) aai
theorem ku {x:V}:∀{xs:List V} {us:List Value},Vals xs us→xs.all gi=true→us.any (eqU x)=xs.any λy=>eqV y x
 | _,_,.nil,_=>rfl
 | y::xs,u::us,.cons r t,f=>by
  rw[List.all_cons,abf] at f;rw[abz,abz,G7 r f.1,ku t f.2]
theorem i5 {A:Around} {s:Shared} {x:V} {v:Value} (rx:RelV x v) (fx:gi x=true):∀{xs:List V} {us:List Value},Vals xs us→xs.all gi=true→∀u∈us,SeqAt.EqAt A s u v (eqU x u)
 | _,_,.nil,_=>λu hu=>by cases hu
 | y::xs,u::us,.cons r t,f=>λu' hu=>by
  rw[List.all_cons,abf] at f;rcases List.mem_cons.mp hu with rfl | hu
  ·rw[G7 r f.1];exact Kk r rx f.1 fx
  ·exact i5 rx fx t f.2 u' hu
noncomputable def inV (x:V) (xs:List V):Bool:=xs.any λy=>eqV y x
def rIn (K:PySem.W.Frag) (neg:Bool):R2:=λx y H Q=>∃p xs,y=.ref p∧(SqL K H p xs∨SqT K H p xs)∧gi x=true∧xs.all gi=true∧Q (.bl (if neg then !inV x xs else inV x xs)) H
theorem gm:OpR X (compareOp .In) (rIn X.K false):=by
 intro pins s σ H x y v u Q I rx ry h;obtain ⟨p,xs,rfl,hq,fx,fs,q⟩:=h;cases ry
 rcases hq with hq | hq
 ·obtain ⟨its,r,pl,hz⟩:=I.list hq;refine SeqAt.in_listAt (eqU x) pl.isList (λw hw=>i5 rx fx r fs w (by simpa using hw)) ⟨.bl _,H,I,rfl,?_⟩;rw[show its.toArray.any (eqU x)=its.any (eqU x) by simp,ku r fs];exact q
 ·obtain ⟨its,r,pl,hz⟩:=I.tuple hq;refine SeqAt.in_tupleAt (eqU x) pl (λw hw=>i5 rx fx r fs w (by simpa using hw)) ⟨.bl _,H,I,rfl,?_⟩;rw[show its.toArray.any (eqU x)=its.any (eqU x) by simp,ku r fs];exact q
theorem xc:OpR X (compareOp .NotIn) (rIn X.K true):=by
 intro pins s σ H x y v u Q I rx ry h;obtain ⟨p,xs,rfl,hq,fx,fs,q⟩:=h;cases ry
 rcases hq with hq | hq
 ·obtain ⟨its,r,pl,hz⟩:=I.list hq;refine SeqAt.notIn_listAt (eqU x) pl.isList (λw hw=>i5 rx fx r fs w (by simpa using hw)) ⟨.bl _,H,I,rfl,?_⟩;rw[show its.toArray.any (eqU x)=its.any (eqU x) by simp,ku r fs];exact q
 ·obtain ⟨its,r,pl,hz⟩:=I.tuple hq;refine SeqAt.notIn_tupleAt (eqU x) pl (λw hw=>i5 rx fx r fs w (by simpa using hw)) ⟨.bl _,H,I,rfl,?_⟩;rw[show its.toArray.any (eqU x)=its.any (eqU x) by simp,ku r fs];exact q
theorem xh:fq X (.builtin "len") (λxs H Q=>∃p ys,xs=[.ref p]∧(SqL X.K H p ys∨SqT X.K H p ys)∧Q (.int ys.length) H):=by
 intro pins s σ H xs us Q I r h;obtain ⟨p,ys,rfl,hq,q⟩:=h;obtain ⟨u,rfl,rx⟩:=vals1 r;cases rx
 have hn:=ni;rcases hq with hq | hq
 ·obtain ⟨its,r',pl,hz⟩:=I.list hq;have hlen:=r'.length;exact Calls.call_len_list pl.isList (by simp only[aa9] <;> omega) ⟨.int ys.length,H,I.tok _,⟨s.toks+1,by rw[aa9,hlen]⟩,q⟩
 ·obtain ⟨its,r',pl,hz⟩:=I.tuple hq;have hlen:=r'.length;exact len_tuple pl (by simp only[aa9] <;> omega) ⟨.int ys.length,H,I.tok _,⟨s.toks+1,by rw[aa9,hlen]⟩,q⟩
theorem w4:fq X (.builtin "len") (λxs H Q=>∃z,xs=[.str z]∧z.length≤sizeLine∧Q (.int z.length) H):=by
 intro pins s σ H xs us Q I r h;obtain ⟨z,rfl,hz,q⟩:=h;obtain ⟨u,rfl,t,rfl⟩:=vals1 r;have hn:=ni;exact len_str (by omega) ⟨.int z.length,H,I.tok _,⟨_,rfl⟩,q⟩
theorem ua:fq X (.type "tuple") (λxs H Q=>∃p ys,xs=[.ref p]∧((SqL X.K H p ys∧∀l,H l=none→Q (.ref l) (upd H l (.tup ys)))∨(SqT X.K H p ys∧Q (.ref p) H))):=by
 intro pins s σ H xs us Q I r h;obtain ⟨p,ys,rfl,h⟩:=h;obtain ⟨u,rfl,rx⟩:=vals1 r;cases rx
 rcases h with ⟨hq,q⟩ | ⟨hq,q⟩
 ·obtain ⟨its,r',pl,hz⟩:=I.list hq;have hlen:=r'.length;refine call_tuple_list pl.isList (λh' kp=>?_) (by simp only[aa9] <;> omega);have I1:Inv X pins σ H { s with heap:=h' }:=I.kept (t':=s.toks) kp;have I2:Inv X pins σ (upd H h'.objs.size (.tup ys)) { s with heap:=h'.push { cls:=.type "tuple",data:=.seq its.toArray } }:=
   I1.laid (t':=s.toks) (λb o e=>Heap.get?_push_of_some _ e) (aa4 _) (show br X.prog X.w _ _ _ (.tup ys) from ⟨hz,its,r',⟨_,Heap.get?_push_size _ rfl,rfl,_,rfl,rfl⟩⟩)
  exact ⟨.ref h'.objs.size,_,I2,rfl,q _ (I1.hok.fresh (aa4 _))⟩
 ·obtain ⟨its,r',pl,hz⟩:=I.tuple hq;exact call_tuple_same pl ⟨.ref p,H,I,rfl,q⟩
def tyV (K:PySem.W.Frag) (T:String) (x:V) (H:Hp):Prop:=match x with
 | .str _=>T="str"
 | .int _=>T="int"
 | .ref p=>(T="list"∧∃xs,SqL K H p xs)∨(T="tuple"∧((∃o,K.lookup p=some o∧o.cls=.type "tuple"∧o.dict=none)∨∃xs,H p=some (.tup xs)))∨
   (T="dict"∧((∃kvs,H p=some (.dK kvs))∨∃kvs,H p=some (.dT kvs)))∨(T="set"∧∃S n,H p=some (.set S n))
 | _=>False
theorem B3 {pins:List (Addr×Obj)} {σ:St} {H:Hp} {s:Shared} {T:String} {x:V} {v:Value} (I:Inv X pins σ H s) (r:RelV x v) (ty:tyV X.K T x H):
  s.TypeIs v T∧∀a,v=.ref a→∃ob,s.heap.get? a=some ob∧ob.dict=none:=by
 cases x with
 | str z=>
  obtain ⟨t,rfl⟩:=r;cases (show T="str" from ty)
  exact ⟨typeIs_str s z t,λ_ e=>nomatch e⟩
 | int i=>
  obtain ⟨t,rfl⟩:=r;cases (show T="int" from ty)
  exact ⟨typeIs_int s i t,λ_ e=>nomatch e⟩
 | ref p=>
  cases r
  rcases ty with ⟨rfl,xs,hq⟩ | ⟨rfl,⟨o,hk,hc,hd⟩ | ⟨xs,hx⟩⟩ | ⟨rfl,hk⟩ | ⟨rfl,S,n,hk⟩
  ·obtain ⟨its,_,pl,_⟩:=I.list hq;refine ⟨pl.isList.typeIs,λa e=>?_⟩;cases e
   obtain ⟨o,n,e,c,hd,_⟩:=pl;exact ⟨o,e,hd⟩
  ·refine ⟨⟨o,I.kIn p o hk,hc⟩,λa e=>?_⟩;cases e
   exact ⟨o,I.kIn _ o hk,hd⟩
  ·obtain ⟨_,its,_,o,h1,h2,n,_,h3⟩:=I.hok p _ hx;refine ⟨⟨o,h1,h2⟩,λa e=>?_⟩;cases e
   exact ⟨o,h1,h3⟩
  ·have z:∃o,s.heap.get? p=some o∧o.ExactDict:=by
    rcases hk with ⟨kvs,hk⟩ | ⟨kvs,hk⟩
    ·obtain ⟨_,_,_,_,o,_,_,e,ex,_⟩:=I.hok p _ hk;exact ⟨o,e,ex⟩
    ·obtain ⟨_,_,_,_,o,_,_,e,ex,_⟩:=I.hok p _ hk;exact ⟨o,e,ex⟩
   obtain ⟨o,e,ex⟩:=z;refine ⟨⟨o,e,ex.1⟩,λa e2=>?_⟩;cases e2
   exact ⟨o,e,ex.2.1⟩
  ·obtain ⟨o,_,_,_,e,ex,_⟩:=I.hok p _ hk;refine ⟨⟨o,e,ex.1⟩,λa e2=>?_⟩;cases e2
   exact ⟨o,e,ex.2.1⟩
 | _=>exact False.elim ty
def tBM0 (K:PySem.W.Frag) (T:String) (r:V→List V→Hp→VK→Prop) (to:TE):TE:=λσ H Q=>to σ H λx H1=>tyV K T x H1∧r x [] H1 Q
def tBM (K:PySem.W.Frag) (T:String) (r:V→List V→Hp→VK→Prop) (to:TE) (t:TA):TE:=λσ H Q=>to σ H λx H1=>tyV K T x H1∧t σ H1 λxs H2=>r x xs H2 Q
variable {o e:Expr} {es:List Expr} {to:TE} {t:TA} {name:Str} {apos cpos:Pos} {T id:String} {r:V→List V→Hp→VK→Prop}
theorem pe_bm0 (pa:PlainAttrs T) (slot:Slot T name id) (hty:typeOf (.builtin id)=pure (.type "method_descriptor")) (hm:MtR X id r) (ho:PE X o to)
  (hbase:attributeBase o name X.env (eval o X.env)=eval o X.env:=by rfl) (hline:(apos.endLine==cpos.line)=true:=by rfl):PE X (.Call (.Attribute o name apos) [] [] cpos) (tBM0 X.K T r to):=by
 intro pins s σ H Q I h;refine wpAny_Call_method0_late hbase hline (thn (ho pins s σ H _ I h) λv s1 ⟨x,H1,I1,r1,ty,q1⟩=>?_);obtain ⟨h1,h2⟩:=B3 I1 r1 ty;exact ⟨T,id,pa,slot,hty,h1,h2,Calls.callWith_builtin rfl (PySem.evalArgs_none (hm pins s1 σ H1 x [] v [] Q I1 r1 .nil q1))⟩
theorem pe_bm (pa:PlainAttrs T) (slot:Slot T name id) (hty:typeOf (.builtin id)=pure (.type "method_descriptor")) (hm:MtR X id r) (ho:PE X o to) (ha:PA X (e::es) t)
  (hbase:attributeBase o name X.env (eval o X.env)=eval o X.env:=by rfl)
  (hfew:((backTo cpos (starEach (e::es) X.env)).all (λx=>!x.1)&&(backToKw cpos (keywordEach [] X.env)).all (λx=>x.1.isSome)
   &&decide ((e::es).length+([]:List Keyword).length+(if ([]:List Keyword).isEmpty then 0 else 1) < 30))=true:=by rfl)
  (hline:(apos.endLine==cpos.line)=true:=by rfl) (hs:starEach (e::es) X.env=(false,eval e X.env)::starEach es X.env:=by rfl) (hplain:(backTo cpos (starEach es X.env)).any (·.1)=false:=by rfl):
  PE X (.Call (.Attribute o name apos) (e::es) [] cpos) (tBM X.K T r to t):=by
 intro pins s σ H Q I h;refine wpAny_Call_method_late hbase hfew hline rfl (thn (ho pins s σ H _ I h) λv s1 ⟨x,H1,I1,r1,ty,q1⟩=>?_);obtain ⟨h1,h2⟩:=B3 I1 r1 ty;refine ⟨T,id,pa,slot,hty,h1,h2,?_⟩;have hA:=ha cpos pins s1 σ H1 _ I1 q1;rw[hs] at hA ⊢;refine Calls.callWith_builtin (by show (false||(backTo cpos (starEach es X.env)).any (·.1))=false;rw[hplain] <;> rfl) (Calls.evalArgs_plain ?_);exact thn hA λus s2 ⟨vs,H2,I2,r2,q2⟩=>hm pins s2 σ H2 x vs v us Q I2 r1 r2 q2
end
def MtM (X:Cx) (id:String) (r:V→List V→Hp→VK→Prop):Prop:=
 ∀(pins:List (Addr×Obj)) (s:Shared) (σ:St) (H:Hp) (x:V) (xs:List V) (v:Value) (us:List Value) (Q:VK),Inv X pins σ H s→RelV x v→Vals xs us→r x xs H Q→
  wpAny (model X.prog X.w) X.A (call (.builtin id) (v::us)) (EP X pins σ Q) X.xe s
theorem Vals.one:∀{x:V} {us:List Value},Vals [x] us→∃u,us=[u]∧RelV x u
 | _,_,.cons r .nil=>⟨_,rfl,r⟩
theorem Vals.zero:∀{us:List Value},Vals [] us→us=[]
 | _,.nil=>rfl
theorem Vals.dropLast {xs:List V} {us:List Value} (h:Vals xs us):Vals xs.dropLast us.dropLast:=by
 induction h with
 | nil=>exact .nil
 | cons r t ih=>
  cases t with
  | nil=>exact .nil
  | cons q t'=>exact .cons r ih
theorem Bd {α:Type} (l:List α):l.eraseIdx (l.length - 1)=l.dropLast:=by
 induction l with
 | nil=>rfl
 | cons a r ih=>
  cases r with
  | nil=>rfl
  | cons b r=>
   have e:(a::b::r).length - 1=((b::r).length - 1)+1:=by
    have h1:(a::b::r).length=r.length+2:=rfl;have h2:(b::r).length=r.length+1:=rfl;omega
   rw[e,List.eraseIdx_cons_succ,ih];all_goals rfl
section
variable {X:Cx} {pins:List (Addr×Obj)} {σ:St} {H:Hp} {s:Shared} {l b:Addr} {xs ys zs:List V}
theorem Inv.lset {its its':List Value} {n:Nat} {f:Array Value→Array Value} {t':Nat} (I:Inv X pins σ H s) (hH:H l=some (.lst xs))
  (e:s.heap.get? l=some { cls:=.type "list",data:=.seq its.toArray n }) (hf:f its.toArray=its'.toArray) (hv:Vals ys its') (hz:ys.length≤sizeLine):
  Inv X pins σ (upd H l (.lst ys)) { s with heap:=s.heap.update l (Obj.mapSeq f),toks:=t' }:=by
 have q:=PySem.IsL.update e f;rw[hf] at q;refine I.write (x:=l) (e:=l) (by rw[hH];exact trivial) (.inl rfl) (λb' u hb hu=>(Heap.get?_update_other s.heap (Obj.mapSeq f) (Ne.symm hb)).trans hu) ⟨_,q⟩ ?_;exact ⟨hz,its',_,hv,q⟩
theorem Inv.lnew {its:List Value} {t':Nat} (I:Inv X pins σ H s) (hv:Vals ys its) (hz:ys.length≤sizeLine):
  Inv X pins σ (upd H s.heap.objs.size (.lst ys)) { s with heap:=s.heap.push { cls:=.type "list",data:=.seq its.toArray },toks:=t' }:=
 I.laid (λ_ _ q=>Heap.get?_push_of_some _ q) (aa4 _) ⟨hz,its,0,hv,Heap.get?_push_size _ rfl⟩
theorem Inv.fresh (I:Inv X pins σ H s):H s.heap.objs.size=none:=I.hok.fresh (aa4 _)
theorem Inv.lstM (I:Inv X pins σ H s) (hH:H l=some (.lst xs)):xs.length≤sizeLine∧∃(its:List Value) (n:Nat),Vals xs its∧xs.length=its.length∧s.heap.get? l=some { cls:=.type "list",data:=.seq its.toArray n }:=by
 obtain ⟨z,its,n,r,e⟩:=I.hok l _ hH;exact ⟨z,its,n,r,r.length,e⟩
end
section
variable {X:Cx}
def m4:V→List V→Hp→VK→Prop:=λx vs H Q=>∃l xs y,x=.ref l∧vs=[y]∧H l=some (.lst xs)∧xs.length < sizeLine∧Q .non (upd H l (.lst (xs++[y])))
theorem u4:MtM X "list.append" m4:=by
 intro pins s σ H x vs v us Q I rx rv h;obtain ⟨l,xs,y,rfl,rfl,hH,hz,q⟩:=h;cases rx
 obtain ⟨u,rfl,ru⟩:=rv.one;obtain ⟨z,its,n,r,hl,e⟩:=I.lstM hH;refine call_meets F.slot_list_append ⟨_,e,rfl⟩ F.entry_list_append (F.args_list_append_2 _ _) (PySem.list_append l its.toArray n u (by rw[aa9];omega)) ⟨e,?_⟩;refine ⟨.non,_,I.lset (its':=its++[u]) hH e (by simp) (r.append (.cons ru .nil)) ?_,rfl,q⟩;rw[aa5,aat];omega
def rPop:V→List V→Hp→VK→Prop:=λx vs H Q=>∃l xs y,x=.ref l∧vs=[]∧H l=some (.lst xs)∧xs[xs.length - 1]?=some y∧Q y (upd H l (.lst xs.dropLast))
theorem Bl:MtM X "list.pop" rPop:=by
 intro pins s σ H x vs v us Q I rx rv h;obtain ⟨l,xs,y,rfl,rfl,hH,hy,q⟩:=h;cases rx
 have hus:=rv.zero;subst hus;obtain ⟨z,its,n,r,hl,e⟩:=I.lstM hH;obtain ⟨u,hu,ru⟩:=r.get hy;have hy':its.toArray[its.toArray.size - 1]?=some u:=by
  show its.toArray[its.length - 1]?=some u
  rw[←acq,←hl];exact hu
 refine call_meets F.slot_list_pop ⟨_,e,rfl⟩ F.entry_list_pop (F.args_list_pop_1 _) (MeetsSeq.list_pop_last l its.toArray n u hy' (by rw[aa9];omega)) ⟨e,?_⟩;refine ⟨y,_,I.lset (its':=its.dropLast) hH e ?_ r.dropLast ?_,ru,q⟩
 ·show its.toArray.eraseIdxIfInBounds (its.toArray.size - 1)=its.dropLast.toArray
  rw[aa9,List.eraseIdxIfInBounds_toArray,Bd]
 ·rw[List.length_dropLast];omega
def rCat:R2:=λx y H Q=>∃l b xs zs,x=.ref l∧y=.ref b∧H l=some (.lst xs)∧H b=some (.lst zs)∧xs.length+zs.length≤sizeLine∧∀p,H p=none→Q (.ref p) (upd H p (.lst (xs++zs)))
theorem Bn:OpR X (binaryOp .Add) rCat:=by
 intro pins s σ H x y v u Q I rx ry h;obtain ⟨l,b,xs,zs,rfl,rfl,hH,hB,hz,q⟩:=h;cases rx
 cases ry
 obtain ⟨z,its,n,r,hl,e⟩:=I.lstM hH;obtain ⟨z2,its2,n2,r2,hl2,e2⟩:=I.lstM hB;refine PySem.P.add_list e e2 ?_ (by rw[aa9,aa9];omega);have ea:its.toArray++its2.toArray=(its++its2).toArray:=by simp
 rw[ea];exact ⟨.ref _,_,I.lnew (t':=s.toks) (r.append r2) (by rw[aa5];omega),rfl,q _ I.fresh⟩
end
section
variable {prog:Program} {w:World} {A:Around} {E:Value→Shared→Prop} {s:Shared}
set_option maxRecDepth 100000 in
end
end L2
namespace Att
open PySem PySem.W PySem.Calls PyProof.Rows
theorem ox {P:Params} {h:Heap}:∀(ns:List Int) (vs:List Value),WellAll P h vs (ns.map WData.int)→IntsAre vs ns:=by
 intro ns;induction ns with
 | nil=>
  intro vs w;rw[ac6] at w;cases w
  exact .nil
 | cons n ns ih=>
  intro vs w;rw[aaj] at w;cases w with
  | cons a b=>
   cases a
   exact .cons _ _ (ih _ b)
theorem Ez {l:OpenLaw} {n:Nat} (hn:l.most=some n) {P:Params} {h:Heap} {args:List WData} {vals:List Value}
  (hpre:l.row.toRowW.claim.pre args=true) (hwl:WellAll P h vals args):
  ∃a vs ns,vals=[Value.ref a]∧args=[WData.list (ns.map WData.int)]∧h.get? a=some { cls:=.type "list",data:=.seq vs.toArray }∧IntsAre vs ns∧ns.length≤n:=by
 have hsh:WShape.hasAll [] args [.list .int]=true:=(pre_splitW hpre).1;have hc:l.pre.holds [] { args:=args }=true:=(pre_splitW hpre).2;obtain ⟨d,r,rfl,h1,h2⟩:=hasAllW_cons hsh;obtain rfl:=hasAllW_nil h2;obtain ⟨xs,rfl,h3⟩:=hasW_list h1;obtain ⟨ns,rfl⟩:=items_int h3;have hlen:ns.length≤n:=by
  unfold OpenLaw.pre at hc;have h4:(WTm.not (.lt (.lit (.int (n:Int))) (.len (.arg 0)))).holds [] { args:=[.list (ns.map .int)] }=true:=by
   have h4:=(holds_andW hc).1;rw[hn] at h4;exact h4
  have h5:=condW_of h4 (w_not (w_lt w_lit (w_len_list (w_arg rfl))));rw[aa3] at h5;refine aek λq=>?_;have q':(n:Int) < ((ns.length:Nat):Int):=by omega
  first
   | (rw[decide_eq_true q'] at h5;exact absurd h5 (by decide))
   | (simp at h5;omega)
 cases hwl with
 | cons w1 w2=>
  cases w2
  cases w1 with
  | list ho hall=>exact ⟨_,_,ns,rfl,rfl,ho,ox ns _ hall,hlen⟩
theorem Fw (l:OpenLaw) (args:List WData):l.row.toRowW.claim.post args (.bool true) args=true:=
 postW_of (r:=l.row.toRowW) (X:=(true==true))
  (show WShape.has [] (.bool true) .bool=true by first | rfl | decide | simp[WShape.has,WShape.arms,WShape.armsAll])
  (show (WTm.eq .res (.lit (.bool true))).value [] { args:=args,res:=some (.bool true),after:=args }=some (.bool (true==true)) from w_eq_bool (w_res rfl) w_lit) rfl
theorem yw {l:OpenLaw} {n:Nat} {q:Program} {loose:List Str} {XP:(Str→Option Value)→Heap→Prop} {YP:World→Heap→Prop} {d:DefRec}
  (hn:l.most=some n) (hdf:d.params.defaults=[])
  (call:∀(w:World) (s₀ s₁:Shared) (mg mb:Str→Option Value) (fa:Addr) (o:Obj) (pm cd doc:Value) (a:Addr) (vs:List Value) (ns:List Int),
   Ground q loose [] XP w s₀ mg mb s₁.heap→YP w s₁.heap→
   s₁.heap.get? fa=some o→o.data=.func (docDef d.name d.params d.body d.scope pm cd doc)→s₁.heap.CodeRec cd d.name→mg d.name=some (.ref fa)→
   s₁.heap.get? a=some { cls:=.type "list",data:=.seq vs.toArray }→IntsAre vs ns→ns.length≤n→s₁.gens=#[]→
   codeAny (model l.prog w) callerA (.call (.ref fa) ⟨[.ref a],[]⟩) (λr s'=>r=.ok (.ret (.bool true))∧OldK s₁.heap s'.heap∧s'.os=s₁.os∧AllBare s'.gens) s₁):
  WalkO q loose XP YP l.row.toRowW d [] (λf vs=>PySem.call f vs):=by
 intro w s₀ s₁ mg mb G Y fa o pm cd doc dV kV ho hd hcd hD hmg hg args vals as hpre hlay hrd hwl hlo;obtain rfl:dV=.none:=Dflts.none hD hdf;obtain rfl:kV=.none:=Dflts.noKw hD;obtain ⟨a,vs,ns,rfl,rfl,hobj,hints,hlen⟩:=Ez hn hpre hwl;refine enter_call (codeAny_mono (call w s₀ s₁ mg mb fa o pm cd doc a vs ns G Y ho (fd_plain hd) hcd hmg hobj hints hlen hg) λr s' hq=>?_);obtain ⟨rfl,h2,h3,h4⟩:=hq;exact ⟨.inl ⟨.bool true,.bool true,[],rfl,λ_=>rfl,.bool true,Fw l _,λ_=>⟨ada,λ_ hm=>(nomatch hm)⟩⟩,h2,h3,h4⟩
end Att
namespace L2
open PySem PySem.Spec PyProof.Rows
theorem vm:∀{vs:List Value} {ns:List Int},IntsAre vs ns→Vals (ns.map V.int) vs
 | _,_,.nil=>.nil
 | _,_,.cons n t h=>.cons ⟨t,rfl⟩ (vm h)
def Only (H:Hp):Prop:=∀b,H b=none∨∃o xs,H b=some (.frz o (.lst xs))
theorem Jb {P:Program} {w:World} {K:PySem.W.Frag} {mg mb:Str→Option Value} {CX:CXT} {k:Nat} {fa a:Addr} {fd:FuncData} {x:Str} {sp:Sp} {s₁:Shared} {vs:List Value} {ns:List Int}
  (KX:K.In s₁.heap) (hns:s₁.heap.Ns mainGlobals mg) (hb:s₁.heap.Ns builtinsNs mb) (hbb:∀x:Str,x≠"__name__"→mb x=bootBuiltins x) (hlim:s₁.heap.NoLimit) (hg:s₁.gens=#[])
  (ha:s₁.heap.get? a=some { cls:=.type "list",data:=.seq vs.toArray }) (hi:IntsAre vs ns) (hl:ns.length≤sizeLine) (hr:fi k callerA)
  (F:∀base:Heap,K.In base→base.Ns mainGlobals mg→mi P w K mg base CX k fa fd [x] sp) (hbind:∀(s:Shared) (u:Value),BindsTo s fd ⟨[u],[]⟩ [(x,u)])
  (hsp:∀H:Hp,Only H→SqL K H a (ns.map V.int)→sp [.ref a] H (λv _=>v=.bl true) λ_ _ _=>False)
  (hCX:∀H e s',CX [] H s₁ (λ_ _ _=>False) e s'→False):
  codeAny (model P w) callerA (.call (.ref fa) ⟨[.ref a],[]⟩) (λr s'=>r=.ok (.ret (.bool true))∧OldK s₁.heap s'.heap∧s'.os=s₁.os∧AllBare s'.gens) s₁:=by
 have rv:=vm hi;have lenV:=hi.length;have core:∀H:Hp,Only H→SqL K H a (ns.map V.int)→HOk P w H s₁.heap→(∀b,H b≠none→b=a)→(H a≠none→K.lookup a=none)→
   codeAny (model P w) callerA (.call (.ref fa) ⟨[.ref a],[]⟩) (λr s'=>r=.ok (.ret (.bool true))∧OldK s₁.heap s'.heap∧s'.os=s₁.os∧AllBare s'.gens) s₁:=by
  intro H hO hS hok hA hK;have base_of:∀{b:Addr} {o:Obj},s₁.heap.get? b=some o→H b=none→(xn s₁.heap H).get? b=some o:=λe n=>Ka e n;have noA:∀{b:Addr} {o:Obj} {es:Array DictEntry} {ep:Nat},s₁.heap.get? b=some o→o.data=.dict es ep→H b=none:=λ{b o es ep} e d=>by
   cases q:H b with
   | none=>rfl
   | some u=>
    have e':b=a:=hA b (by rw[q];simp);subst e';rw[ha] at e;cases e;have d':Data.seq vs.toArray _=Data.dict es ep:=d;cases d'
  have nsK:∀{b:Addr} {m:Str→Option Value},s₁.heap.Ns b m→(xn s₁.heap H).Ns b m:=λ{b m} ⟨o,es,ep,e,d,r⟩=>⟨o,es,ep,base_of e (noA e d),d,r⟩;have hKb:K.In (xn s₁.heap H):=λb o e=>base_of (KX b o e) (by
   cases q:H b with
   | none=>rfl
   | some u=>
    have e':b=a:=hA b (by rw[q];simp);subst e';rw[hK (by rw[q];simp)] at e;cases e)
  have hM:Mod K mg (xn s₁.heap H):=⟨hKb,nsK hns,⟨mb,nsK hb,hbb⟩,let ⟨mc,h1,h2⟩:=hlim;⟨mc,nsK h1,h2⟩⟩;have e0:Env0 P w K mg (xn s₁.heap H) callerA [] s₁ H:=⟨rfl,hM,λb o e=>Mh e,Nat.le_of_eq (Fv _ _),trivial,λb hb=>absurd (show b∈([]:List Addr) from hb) (by simp),hok,.of_eq hg⟩;refine codeAny_mono ((F _ hKb (nsK hns)).run callerA [] s₁ H ⟨[.ref a],[]⟩ [.ref a] [.ref a] _ _ hr e0 (hbind s₁ (.ref a)) (.cons rfl .nil) (hsp H hO hS)) λr s' h=>?_;cases r with
  | error e=>exact (hCX H e s' h).elim
  | ok fl=>
   cases fl with
   | next=>exact False.elim h
   | brk=>exact False.elim h
   | cont=>exact False.elim h
   | ret u=>
    obtain ⟨v,H',os,bare,un,hok',r',q⟩:=h;have q':v=.bl true:=q;subst q';obtain rfl:u=Value.bool true:=r';refine ⟨rfl,OldK.of_keep λb o e=>?_,os,bare⟩;cases q:H b with
    | none=>exact un.keep b o e q (by intro z;exact absurd (show b∈([]:List Addr) from z) (by simp)) (by simp)
    | some u=>
     rcases hO b with z | ⟨ob,xs,z⟩
     ·rw[q] at z;cases z
     ·have z2:=un.frzs b ob _ z;obtain ⟨e1,_⟩:=hok b _ z;obtain ⟨e2,_⟩:=hok' b _ z2;rw[e] at e1;cases e1;exact e2
 cases hk:K.lookup a with
 | some o=>
  have e:=KX a o hk;rw[ha] at e;cases e
  refine core (λ_=>none) (λ_=>.inl rfl) (.inr ⟨_,vs.toArray,_,hk,rfl,rfl,rfl,by rw[aa9,lenV];exact hl,by simpa using rv⟩) (λb u z=>by have z':(none:Option HO)=some u:=z;cases z') (λb z=>absurd rfl z) λz=>absurd rfl z
 | none=>
  refine core (λb=>if b=a then some (.frz { cls:=.type "list",data:=.seq vs.toArray } (.lst (ns.map V.int))) else none) (λb=>?_) (.inl (.inr ⟨{ cls:=.type "list",data:=.seq vs.toArray },if_pos rfl⟩)) (λb u z=>?_) (λb z=>?_) λ_=>hk
  ·by_cases hb:b=a
   ·exact .inr ⟨_,_,if_pos hb⟩
   ·exact .inl (if_neg hb)
  ·by_cases hb:b=a
   ·have z':=(if_pos hb).symm.trans z;cases z'
    subst hb;exact ⟨ha,by rw[aa3];exact hl,vs,_,rv,ha⟩
   ·have z':=(if_neg hb).symm.trans z;cases z'
  ·by_cases hb:b=a
   ·exact hb
   ·exact absurd (if_neg hb) z
noncomputable abbrev KOf {K:PySem.W.Frag} {h:Heap} (_:K.In h):PySem.W.Frag:=K
theorem Kz {l:PySem.W.OpenLaw} {n k:Nat} {q:Program} {loose:List Str} {XP:(Str→Option Value)→Heap→Prop} {YP:World→Heap→Prop} {d:DefRec} {K:Params→PySem.W.Frag} {CX:World→CXT} {sp:World→Sp} {x:Str}
  (hn:l.most=some n) (hn2:n≤sizeLine) (hdf:d.params.defaults=[]) (hr:fi k callerA)
  (hY:∀(w:World) (h:Heap),YP w h→(K w.params).In h)
  (F:∀(w:World) (mg:Str→Option Value) (fa:Addr) (h:Heap),(K w.params).In h→h.Ns mainGlobals mg→mg d.name=some (.ref fa)→
   ∃fd:FuncData,(∀(s:Shared) (u:Value),BindsTo s fd ⟨[u],[]⟩ [(x,u)])∧
    ∀base:Heap,(K w.params).In base→base.Ns mainGlobals mg→mi l.prog w (K w.params) mg base (CX w) k fa fd [x] (sp w))
  (hsp:∀(w:World) (H:Hp) (a:Addr) (ns:List Int),ns.length≤n→Only H→SqL (K w.params) H a (ns.map V.int)→sp w [.ref a] H (λv _=>v=.bl true) λ_ _ _=>False)
  (hCX:∀(w:World) (H:Hp) (s:Shared) (e:Value) (s':Shared),CX w [] H s (λ_ _ _=>False) e s'→False):
  PySem.W.WalkO q loose XP YP l.row.toRowW d [] (λf vs=>PySem.call f vs):=by
 refine Att.yw hn hdf λw s₀ s₁ mg mb fa o pm cd doc a vs ns G Y ho hd hcd hmg hobj hints hlen hg=>?_;have KX:=hY w _ Y;obtain ⟨fd,hb,hF⟩:=F w mg fa _ KX G.T.g hmg;exact Jb KX G.T.g G.T.b G.T.builtins G.T.nolimit hg hobj hints (aal hlen hn2) hr hF hb (λH hO hS=>hsp w H a ns hlen hO hS) λH e s'=>hCX w H s₁ e s'
noncomputable def ak (s:Stmt):Arguments:=match s with
 | .FunctionDef _ a _ _ _ _ _ _ _ _=>a
 | _=>{ posonlyargs:=[],args:=[],vararg:=none,kwonlyargs:=[],kw_defaults:=[],kwarg:=none,defaults:=[] }
noncomputable def ai (s:Stmt):List Stmt:=match s with
 | .FunctionDef _ _ b _ _ _ _ _ _ _=>b
 | _=>[]
noncomputable def ae (s:Stmt):Scope:=match s with
 | .FunctionDef _ _ _ _ _ _ sc _ _ _=>sc
 | _=>{ kind:=.function,names:=[],isGenerator:=false,isCoroutine:=false }
noncomputable abbrev CX0:CXT:=λ_ _ _ _ _ _=>False
abbrev E0:XK:=λ_ _ _=>False
theorem pass0 {X:Cx}:Passes CX0 X E0:=λ_ _ _ _ _ _ _ h=>h.elim
structure Fun (K:PySem.W.Frag) (x qual:Str) (st:Stmt) (f:Addr) (fd:FuncData):Prop where
 ex:∃(oc:Value) (od:Option Addr) (kV doc pm:Value) (an:Option Addr) (cdv ct:Value) (osl:Array (Option Value)),
  fd=PySem.W.fnOf x qual (ak st) (ai st) (ae st) .none kV doc pm an cdv ct∧K.lookup f=some ⟨oc,od,.func fd,osl⟩∧PySem.W.codeIn K cdv qual=true
 kp:PySem.W.keepIn K (.ref f)=true
section
variable {P:Program} {w:World} {K:PySem.W.Frag} {mg:Str→Option Value} {base:Heap}
theorem Fun.ok {x qual:Str} {st:Stmt} {f:Addr} {fd:FuncData} {N ps:List Str} {k:Nat} {sp:Sp} (F:Fun K x qual st f fd) (S:aj N ps (ae st)) (len:∀vs H Q E,sp vs H Q E→vs.length=ps.length)
  (hbody:∀(cdv:Value) (A:Around) (outer:List Env) (s:Shared) (H:Hp) (vs:List V) (Q:VK) (E:XK),fi k (A.deeper (envOfC qual (ae st) s.heap.objs.size f cdv))→sp vs H Q E→
   ∃t,PSs (ow CX0 P w K mg base N qual (ae st) f cdv A outer s H E).nox (ai st) t∧t { nx:=λ_ H'=>Q .non H',rt:=Q } (start N vs) H):mi P w K mg base CX0 (k+1) f fd ps sp:=by
 obtain ⟨oc,od,kV,doc,pm,an,cdv,ct,osl,rfl,lk,hcd⟩:=F.ex;refine fn_of lk hcd S len λA outer s H vs Q E hr hsp=>?_;obtain ⟨t,h,q⟩:=hbody cdv A outer s H vs Q E hr hsp;exact ⟨t,h.nox,q⟩
theorem Fun.binds {x qual:Str} {st:Stmt} {f:Addr} {fd:FuncData} {ps:List Str} (F:Fun K x qual st f fd)
  (h:∀(kV doc pm:Value) (an:Option Addr) (cdv ct:Value) (us:List Value),us.length=ps.length→bindArgs (PySem.W.fnOf x qual (ak st) (ai st) (ae st) .none kV doc pm an cdv ct) ⟨us,[]⟩=pure (ps.zip us)):Binds K fd ps []:=by
 obtain ⟨oc,od,kV,doc,pm,an,cdv,ct,osl,rfl,lk,hcd⟩:=F.ex;exact .all (h kV doc pm an cdv ct)
theorem ay {x qual:Str} {st:Stmt} {f:Addr} {oc:Value} {od an:Option Addr} {osl:Array (Option Value)} {kV doc pm cdv ct:Value} (l:K.lookup f=some ⟨oc,od,.func (PySem.W.fnOf x qual (ak st) (ai st) (ae st) .none kV doc pm an cdv ct),osl⟩)
  (c:PySem.W.codeIn K cdv qual=true) (k:PySem.W.keepIn K (.ref f)=true):Fun K x qual st f (PySem.W.fnOf x qual (ak st) (ai st) (ae st) .none kV doc pm an cdv ct):=⟨⟨oc,od,kV,doc,pm,an,cdv,ct,osl,rfl,l,c⟩,k⟩
end
theorem bu {A:Around} {k:Nat} (hr:fi k A):A.units+1 < cLine:=abc (ad1 (by decide:1≤64) _) hr.units
section
variable {X:Cx}
theorem pv (i:Nat) {x:Str} {pos:Pos} (hN:X.N[i]?=some x:=by rfl) (hv:Vis X.env.scope x:=by first | exact aa1 rfl | exact aa0 (aa1 rfl) | exact aa0 (aa0 rfl)) (hd:(x==("__debug__":Str))=false:=by decide)
  (hcd:(x==("__classdict__":Str))=false:=by decide):PE X (.Name x pos) (tVar i):=Kh hN hv hd hcd
end
theorem jv {A B:Prop} (h:B):if false=true then A else B:=by
 rw[if_neg aai];exact h
theorem iy {A B:Prop} (h:A):if true=true then A else B:=by
 rw[if_pos rfl];exact h
theorem cx {c A B:Prop} [Decidable c] (h1:c→A) (h2:¬c→B):if c then A else B:=by
 by_cases h:c
 ·rw[if_pos h];exact h1 h
 ·rw[if_neg h];exact h2 h
def ag (H H':Hp):Prop:=∀b o,H b=some o→H' b=some o
theorem ag.refl (H:Hp):ag H H:=λ_ _ h=>h
theorem ag.trans {H H1 H2:Hp} (a:ag H H1) (b:ag H1 H2):ag H H2:=λc o h=>b c o (a c o h)
theorem ag.free {H H':Hp} (e:ag H H') {l:Addr} (h:H' l=Option.none):H l=Option.none:=by
 cases q:H l with
 | none=>rfl
 | some o=>
  rw[e l o q] at h;cases h
theorem ag.seq {K:PySem.W.Frag} {H H':Hp} {a:Addr} {xs:List V} (e:ag H H') (h:SqL K H a xs):SqL K H' a xs:=by
 rcases h with (h | ⟨o,h⟩) | h
 ·exact .inl (.inl (e _ _ h))
 ·exact .inl (.inr ⟨o,e _ _ h⟩)
 ·exact .inr h
section
variable {κ:Type} [DecidableEq κ]
noncomputable def cp (kvs:List (κ×V)) (k:κ):Option V:=(kvs.find? λkv=>decide (kv.1=k)).map (·.2)
noncomputable def putK (kvs:List (κ×V)) (k:κ) (v:V):List (κ×V):=
 if (kvs.any λkv=>decide (kv.1=k))=true then kvs.map (λkv=>if kv.1=k then (kv.1,v) else kv) else kvs++[(k,v)]
theorem bw {p:κ×V} {r:List (κ×V)} {k:κ} (e:p.1=k):cp (p::r) k=some p.2:=by simp[cp,ac0,e]
theorem ax {p:κ×V} {r:List (κ×V)} {k:κ} (e:¬p.1=k):cp (p::r) k=cp r k:=by simp[cp,ac0,e]
theorem i8 (k:κ):∀kvs:List (κ×V),(kvs.any λkv=>decide (kv.1=k))=(cp kvs k).isSome
 | []=>rfl
 | p::r=>by
  rw[abz];by_cases e:p.1=k
  ·simp only[bw e,decide_eq_true e,Bool.true_or,Option.isSome_some]
  ·rw[ax e,decide_eq_false e,Bool.false_or];exact i8 k r
theorem ya (k j:κ) (y:V):∀kvs:List (κ×V),cp (kvs.map λkv=>if kv.1=k then (kv.1,y) else kv) j=(cp kvs j).map λx=>if j=k then y else x
 | []=>rfl
 | p::r=>by
  have ih:=ya k j y r;rw[aaj];by_cases h:p.1=k
  ·rw[if_pos h];by_cases e:p.1=j
   ·rw[bw (p:=(p.1,y)) e,bw e,acv,if_pos (e.symm.trans h)]
   ·rw[ax (p:=(p.1,y)) e,ax e,ih]
  ·rw[if_neg h];by_cases e:p.1=j
   ·rw[bw (p:=p) e,bw e,acv,if_neg (λz=>h (e.trans z))]
   ·rw[ax (p:=p) e,ax e,ih]
theorem u6 (k j:κ) (y:V):∀kvs:List (κ×V),cp kvs k=none→cp (kvs++[(k,y)]) j=if j=k then some y else cp kvs j
 | [],_=>by
  by_cases e:k=j
  ·rw[if_pos e.symm];exact bw (p:=(k,y)) e
  ·rw[if_neg (λz=>e z.symm)];exact ax (p:=(k,y)) e
 | p::r,hn=>by
  rw[ael];have hk:¬p.1=k:=λz=>by rw[bw z] at hn;cases hn
  rw[ax hk] at hn;have ih:=u6 k j y r hn;by_cases e:p.1=j
  ·rw[bw e,bw e,if_neg (λz=>hk (e.trans z))]
  ·rw[ax e,ax e,ih]
theorem p8 (kvs:List (κ×V)) (k j:κ) (y:V):cp (putK kvs k y) j=if j=k then some y else cp kvs j:=by
 unfold putK;by_cases a:(kvs.any λkv=>decide (kv.1=k))=true
 ·rw[if_pos a,ya];rw[i8] at a;by_cases e:j=k
  ·obtain ⟨x,hx⟩:=Option.isSome_iff_exists.mp a;rw[if_pos e,e,hx,acv,if_pos rfl]
  ·rw[if_neg e];cases cp kvs j with
   | none=>rfl
   | some x=>rw[acv,if_neg e]
 ·rw[if_neg a];refine u6 k j y kvs ?_;rw[i8] at a;cases q:cp kvs k with
  | none=>rfl
  | some x=>rw[q] at a;exact (a rfl).elim
theorem d7 (kvs:List (κ×V)) (k:κ) (v:V):(putK kvs k v).length≤kvs.length+1:=by
 unfold putK;split
 ·rw[aa3];omega
 ·rw[aa5,aaa,ac1];omega
theorem kh.gn {o:Option V} {u:Option Value} (r:kh o u):o.isSome=u.isSome:=by
 cases o with
 | none=>cases u with
  | none=>rfl
  | some _=>exact (show False from r).elim
 | some _=>cases u with
  | none=>exact (show False from r).elim
  | some _=>rfl
theorem kh.getD {o:Option V} {u:Option Value} {d:V} {d':Value} (r:kh o u) (rd:RelV d d'):RelV (o.getD d) (u.getD d'):=by
 cases o with
 | none=>cases u with
  | none=>exact rd
  | some _=>exact (show False from r).elim
 | some _=>cases u with
  | none=>exact (show False from r).elim
  | some _=>exact r
theorem KV.val {kvs:List (κ×V)} {vs:List (κ×Value)} (r:KV kvs vs) (k:κ):kh (cp kvs k) (valueAt vs k):=by
 unfold KV at r;induction r with
 | nil=>exact True.intro
 | @cons p q ps qs h t ih=>
  obtain ⟨h1,h2⟩:=h;by_cases e:p.1=k
  ·have e':q.1=k:=h1.symm.trans e;have b:valueAt (q::qs) k=some q.2:=by simp[valueAt,ac0,e']
   rw[bw e,b];exact h2
  ·have e':¬q.1=k:=λz=>e (h1.trans z);have b:valueAt (q::qs) k=valueAt qs k:=by simp[valueAt,ac0,e']
   rw[ax e,b];exact ih
theorem KV.any {kvs:List (κ×V)} {vs:List (κ×Value)} (r:KV kvs vs) (k:κ):(kvs.any λkv=>decide (kv.1=k))=vs.any λkv=>decide (kv.1=k):=by
 unfold KV at r;induction r with
 | nil=>rfl
 | cons h t ih=>rw[abz,abz,ih,h.1]
theorem KV.repl {kvs:List (κ×V)} {vs:List (κ×Value)} (r:KV kvs vs) (k:κ) {y:V} {u:Value} (ry:RelV y u):
  KV (kvs.map λkv=>if kv.1=k then (kv.1,y) else kv) (vs.map λkv=>if kv.1=k then (kv.1,u) else kv):=by
 unfold KV at r ⊢;induction r with
 | nil=>exact .nil
 | @cons p q ps qs h t ih=>
  rw[aaj,aaj];refine .cons ?_ ih;obtain ⟨h1,h2⟩:=h;by_cases e:p.1=k
  ·rw[if_pos e,if_pos (h1.symm.trans e)];exact ⟨h1,ry⟩
  ·rw[if_neg e,if_neg (λz=>e (h1.trans z))];exact ⟨h1,h2⟩
theorem KV.put {kvs:List (κ×V)} {vs:List (κ×Value)} (r:KV kvs vs) (k:κ) {y:V} {u:Value} (ry:RelV y u):KV (putK kvs k y) (stored vs k u):=by
 unfold putK stored;rw[r.any k];by_cases e:(vs.any λkv=>decide (kv.1=k))=true
 ·rw[if_pos e,if_pos e];exact r.repl k ry
 ·rw[if_neg e,if_neg e];exact Paired.snoc r ⟨rfl,ry⟩
theorem KV.length {kvs:List (κ×V)} {vs:List (κ×Value)} (r:KV kvs vs):kvs.length=vs.length:=Paired.length r
end
theorem jw {P:Program} {w:World} {k:Key} {u:Value} (r:RelV (kV k) u):(ar P w).is k u=true:=by
 cases k with
 | inl i=>obtain ⟨t,e⟩:=(show ∃t,u=Value.int i t from r);subst e;exact yc P w i t
 | inr x=>obtain ⟨t,e⟩:=(show ∃t,u=Value.str x t from r);subst e;exact ir P w x t
theorem uv {P:Program} {w:World}:∀{ks:List Key} {us:List Value},Vals (ks.map kV) us→ItemsAre (ar P w) ks us
 | [],_,r=>by rw[ac6] at r;cases r;exact .nil
 | k::ks,_,r=>by
  rw[aaj] at r;cases r with
  | cons h t=>exact .cons (jw h) (uv t)
abbrev KT (H:Hp):List (List Key×V)→List (List Key×Addr×Value)→Prop:=Paired λp q=>p.1=q.1∧H q.2.1=some (.tup (p.1.map kV))∧RelV p.2 q.2.2
theorem KT.val {H:Hp} {kvs:List (List Key×V)} {xs:List (List Key×Addr×Value)} (r:KT H kvs xs) (k:List Key):kh (cp kvs k) ((atKey xs k).map (·.2)):=by
 induction r with
 | nil=>exact True.intro
 | @cons p q ps qs h t ih=>
  obtain ⟨h1,_,h2⟩:=h;by_cases e:p.1=k
  ·have e':q.1=k:=h1.symm.trans e;have b:atKey (q::qs) k=some q.2:=by simp[atKey,ac0,e']
   rw[bw e,b];exact h2
  ·have e':¬q.1=k:=λz=>e (h1.trans z);have b:atKey (q::qs) k=atKey qs k:=by simp[atKey,ac0,e']
   rw[ax e,b];exact ih
theorem KT.repl {H:Hp} {kvs:List (List Key×V)} {xs:List (List Key×Addr×Value)} (r:KT H kvs xs) (k:List Key) {y:V} {u:Value} (ry:RelV y u):
  KT H (kvs.map λkv=>if kv.1=k then (kv.1,y) else kv) (xs.map (putAt k u)):=by
 induction r with
 | nil=>exact .nil
 | @cons p q ps qs h t ih=>
  rw[aaj,aaj];refine .cons ?_ ih;obtain ⟨h1,h2,h3⟩:=h;unfold putAt;by_cases e:p.1=k
  ·rw[if_pos e,if_pos (h1.symm.trans e)];exact ⟨h1,h2,ry⟩
  ·rw[if_neg e,if_neg (λz=>e (h1.trans z))];exact ⟨h1,h2,h3⟩
theorem KT.put {H:Hp} {kvs:List (List Key×V)} {xs:List (List Key×Addr×Value)} (r:KT H kvs xs) (k:List Key) {b:Addr} {y:V} {u:Value} (hb:H b=some (.tup (k.map kV))) (ry:RelV y u):
  KT H (putK kvs k y) (storedH xs k b u):=by
 have e:(kvs.any λkv=>decide (kv.1=k))=(atKey xs k).isSome:=by
  rw[i8,(r.val k).gn,adb]
 unfold putK storedH;rw[e];by_cases q:(atKey xs k).isSome=true
 ·rw[if_pos q,if_pos q];exact r.repl k ry
 ·rw[if_neg q,if_neg q];exact Paired.snoc r ⟨rfl,hb,ry⟩
theorem KT.keeps {H H':Hp} {kvs:List (List Key×V)} {xs:List (List Key×Addr×Value)} (r:KT H kvs xs) (ht:∀b ys,H b=some (.tup ys)→H' b=some (.tup ys)):KT H' kvs xs:=
 Paired.mapP r λ_ _ z=>⟨z.1,ht _ _ z.2.1,z.2.2⟩
section
variable {P:Program} {w:World} {H:Hp} {h:Heap} {a:Addr}
theorem rd_of {u:HO} (ok:HOk P w H h) (e:Rd H a u):br P w H h a u:=e.ok ok
theorem u0 {kvs:List (Key×V)} (ok:HOk P w H h) (e:Rd H a (.dK kvs)):kvs.length≤sizeLine∧(a==sysModules)=false∧∃vs,KV kvs vs∧h.DictOf (ar P w) a vs:=
 show br P w H h a (.dK kvs) from rd_of ok e
theorem dk_of {kvs:List (Key×V)} (ok:HOk P w H h) (e:H a=some (.dK kvs)):kvs.length≤sizeLine∧(a==sysModules)=false∧∃vs,KV kvs vs∧h.DictOf (ar P w) a vs:=u0 ok (.inl e)
theorem nr {ks:List Key} (ok:HOk P w H h) (e:H a=some (.tup (ks.map kV))):(tupleKind (ar P w)).is h ks a:=by
 obtain ⟨_,its,r,o,h1,h2,n,h3,_⟩:=(show br P w H h a (.tup (ks.map kV)) from ok a _ e);exact ⟨o,its.toArray,n,h1,h2,h3,by simpa using uv r⟩
theorem vt {kvs:List (List Key×V)} (ok:HOk P w H h) (e:Rd H a (.dT kvs)):kvs.length≤sizeLine∧(a==sysModules)=false∧
  ∃xs,KT H kvs xs∧h.DictOfH (tupleKind (ar P w)) a xs:=by
 obtain ⟨z,y,xs,r,o,es,ep,h1,h2,h3,h4,h5⟩:=(show br P w H h a (.dT kvs) from rd_of ok e);refine ⟨z,y,xs,r,o,es,ep,h1,h2,h3,h4,λx hx=>?_,h5⟩;have all:∀{l:List (List Key×V)} {m:List (List Key×Addr×Value)},KT H l m→∀x∈m,(tupleKind (ar P w)).is h x.1 x.2.1:=by
  intro l m q;induction q with
  | nil=>intro x hx;exact nomatch hx
  | @cons p q ps qs hq t ih=>
   intro x hx;rcases List.mem_cons.mp hx with e | hx
   ·subst e;exact nr ok (by rw[←hq.1];exact hq.2.1)
   ·exact ih x hx
 exact all r x hx
theorem dt_of {kvs:List (List Key×V)} (ok:HOk P w H h) (e:H a=some (.dT kvs)):kvs.length≤sizeLine∧(a==sysModules)=false∧
  ∃xs,KT H kvs xs∧h.DictOfH (tupleKind (ar P w)) a xs:=vt ok (.inl e)
end
def fj (H:Hp) (a:Addr) (y:V) (r:Option V):Prop:=
 (∃kvs k,Rd H a (.dK kvs)∧y=kV k∧r=cp kvs k)∨∃kvs k b,Rd H a (.dT kvs)∧y=.ref b∧H b=some (.tup (k.map kV))∧r=cp kvs k
def sf (H:Hp) (a:Addr) (y v:V) (H':Hp):Prop:=
 (∃kvs k,H a=some (.dK kvs)∧y=kV k∧kvs.length < sizeLine∧H'=upd H a (.dK (putK kvs k v)))∨
 ∃kvs k b,H a=some (.dT kvs)∧y=.ref b∧H b=some (.tup (k.map kV))∧kvs.length < sizeLine∧H'=upd H a (.dT (putK kvs k v))
theorem fj.k {H:Hp} {a:Addr} {kvs:List (Key×V)} {k:Key} (e:H a=some (.dK kvs)):fj H a (kV k) (cp kvs k):=.inl ⟨kvs,k,.inl e,rfl,rfl⟩
theorem fj.t {H:Hp} {a b:Addr} {kvs:List (List Key×V)} {k:List Key} (e:H a=some (.dT kvs)) (eb:H b=some (.tup (k.map kV))):fj H a (.ref b) (cp kvs k):=.inr ⟨kvs,k,b,.inl e,rfl,eb,rfl⟩
theorem sf.k {H:Hp} {a:Addr} {kvs:List (Key×V)} {k:Key} {v:V} (e:H a=some (.dK kvs)) (hl:kvs.length < sizeLine):sf H a (kV k) v (upd H a (.dK (putK kvs k v))):=.inl ⟨kvs,k,e,rfl,hl,rfl⟩
theorem sf.t {H:Hp} {a b:Addr} {kvs:List (List Key×V)} {k:List Key} {v:V} (e:H a=some (.dT kvs)) (eb:H b=some (.tup (k.map kV))) (hl:kvs.length < sizeLine):
  sf H a (.ref b) v (upd H a (.dT (putK kvs k v))):=.inr ⟨kvs,k,b,e,rfl,eb,hl,rfl⟩
section
variable {X:Cx} {pins:List (Addr×Obj)} {σ:St} {H:Hp} {s:Shared} {a:Addr} {y v:V} {u r:Value} {o:Option V} {A:Around} {E:Value→Shared→Prop}
theorem Inv.big (I:Inv X pins σ H s):sysModules < s.heap.objs.size:=by
 have h:mainGlobals < s.heap.objs.size:=(I.mod.glob.keeps I.bk).lt;exact Nat.lt_trans (by decide) h
theorem E5 {Q:Value→Shared→Prop} (hu:A.units+1 < cLine) (I:Inv X pins σ H s) (g:fj H a y (some v)) (ry:RelV y u) (h:∀w' s',Inv X pins σ H s'→RelV v w'→Q w' s'):
  wpAny (model X.prog X.w) A (getItem (.ref a) u) Q E s:=by
 rcases g with ⟨kvs,k,e,ey,l⟩ | ⟨kvs,k,b,e,ey,eb,l⟩
 ·subst ey;obtain ⟨z,hd,vs,rel,dd⟩:=u0 I.hok e;obtain ⟨w',hw,rw'⟩:=kh.some_of (v:=v) (o:=valueAt vs k) (by rw[l];exact rel.val k);exact wpAny_getItem_of (jw ry) dd.mapOf hw (h w' _ (I.tok _) rw')
 ·subst ey;cases (show u=Value.ref b from ry)
  obtain ⟨z,hd,xs,rel,dd⟩:=vt I.hok e;obtain ⟨w',hw,rw'⟩:=kh.some_of (v:=v) (o:=(atKey xs k).map (·.2)) (by rw[l];exact rel.val k);obtain ⟨p,hp,hp2⟩:=Option.map_eq_some_iff.mp hw;refine wpAny_getItem_heap (tupleKind_room_in1 hu) (nr I.hok eb) dd hp ?_;rw[hp2];exact h w' _ (I.tok _) rw'
theorem d_in {Q:Value→Shared→Prop} (hu:A.units+1 < cLine) (I:Inv X pins σ H s) (g:fj H a y o) (ry:RelV y u) (h:∀s',Inv X pins σ H s'→Q (.bool o.isSome) s'):
  wpAny (model X.prog X.w) A (compareOp .In u (.ref a)) Q E s:=by
 rcases g with ⟨kvs,k,e,ey,l⟩ | ⟨kvs,k,b,e,ey,eb,l⟩
 ·subst ey;obtain ⟨z,hd,vs,rel,dd⟩:=u0 I.hok e;refine wpAny_in_of (jw ry) hd dd.mapOf ?_;rw[←(rel.val k).gn,←l];exact h _ (I.tok _)
 ·subst ey;cases (show u=Value.ref b from ry)
  obtain ⟨z,hd,xs,rel,dd⟩:=vt I.hok e;refine wpAny_in_heap (tupleKind_room_in1 hu) (nr I.hok eb) hd dd ?_;have q:=(rel.val k).gn;rw[adb] at q;rw[←q,←l];exact h _ (I.tok _)
theorem Ls {Q:Value→Shared→Prop} (hu:A.units+1 < cLine) (I:Inv X pins σ H s) (g:fj H a y o) (ry:RelV y u) (h:∀s',Inv X pins σ H s'→Q (.bool (!o.isSome)) s'):
  wpAny (model X.prog X.w) A (compareOp .NotIn u (.ref a)) Q E s:=by
 rcases g with ⟨kvs,k,e,ey,l⟩ | ⟨kvs,k,b,e,ey,eb,l⟩
 ·subst ey;obtain ⟨z,hd,vs,rel,dd⟩:=u0 I.hok e;refine wpAny_notIn_of (jw ry) hd dd.mapOf ?_;rw[←(rel.val k).gn,←l];exact h _ (I.tok _)
 ·subst ey;cases (show u=Value.ref b from ry)
  obtain ⟨z,hd,xs,rel,dd⟩:=vt I.hok e;refine wpAny_notIn_heap (tupleKind_room_in1 hu) (nr I.hok eb) hd dd ?_;have q:=(rel.val k).gn;rw[adb] at q;rw[←q,←l];exact h _ (I.tok _)
theorem wd {h':Heap} {t':Nat} {ob:HO} (I:Inv X pins σ H s) (mu:Mut (H a)) (hs:Heap.SameBut a s.heap h') (he:∃q,h'.get? a=some q) (new:br X.prog X.w (upd H a ob) h' a ob):
  Inv X pins σ (upd H a ob) { s with heap:=h',toks:=t' }:=
 I.write (x:=a) (e:=a) mu (.inl rfl) (λb q hb z=>(hs.2 b hb).trans z) he new
theorem Jt {P:Program} {w:World} {H':Hp} {h':Heap} {kvs:List (Key×V)} {vs:List (Key×Value)} (z:kvs.length≤sizeLine) (hd:(a==sysModules)=false) (rel:KV kvs vs) (dd:h'.DictOf (ar P w) a vs):
  br P w H' h' a (.dK kvs):=⟨z,hd,vs,rel,dd⟩
theorem Gg {H':Hp} {Q:Unit→Shared→Prop} (hu:A.units+1 < cLine) (I:Inv X pins σ H s) (g:sf H a y v H') (ry:RelV y u) (rv:RelV v r) (h:∀s',Inv X pins σ H' s'→Q () s'):
  wpAny (model X.prog X.w) A (setItem (.ref a) u r) Q E s:=by
 rcases g with ⟨kvs,k,e,ey,l,eH⟩ | ⟨kvs,k,b,e,ey,eb,l,eH⟩
 ·subst ey eH;obtain ⟨z,hd,vs,rel,dd⟩:=dk_of I.hok e;have hz:vs.length≤sizeLine:=by rw[←rel.length];exact z
  have hl:(putK kvs k v).length≤sizeLine:=by have:=d7 kvs k v;omega
  refine wpAny_setItem_pairs (hsz:=hz) (jw ry) dd λh' dd' hs=>h _ ?_;have he:∃q,h'.get? a=some q:=let ⟨q,_,_,hq,_⟩:=dd';⟨q,hq⟩
  exact wd I (by rw[e];exact True.intro) hs he (Jt hl hd (rel.put k rv) dd')
 ·subst ey eH;cases (show u=Value.ref b from ry)
  obtain ⟨z,hd,xs,rel,dd⟩:=dt_of I.hok e;have hz:xs.length≤sizeLine:=by rw[←Paired.length rel];exact z
  have hl:(putK kvs k v).length≤sizeLine:=by have:=d7 kvs k v;omega
  refine wpAny_setItem_heap (hsz:=hz) (tupleKind_room_in1 hu) (nr I.hok eb) dd λh' dd' hs=>h _ ?_;obtain ⟨q,es,ep,hq,h2,h3,h4,_,h5⟩:=dd';refine wd I (by rw[e];exact True.intro) hs ⟨q,hq⟩ ⟨hl,hd,_,(rel.put k eb rv).keeps λc ys ec=>?_,q,es,ep,hq,h2,h3,h4,h5⟩;rw[af (sk ec e (λz=>nomatch z))];exact ec
end
def NoSl (i:Expr):Prop:=∀ov iv,subscripted i false ov iv=operate [ov,iv] (getItem ov iv)
theorem K8 {prog:Program} {w:World} {A:Around} {E:Value→Shared→Prop} {s:Shared} {env:Env} {value slice:Expr} {pos:Pos} {T id:String} {Q:Value→Shared→Prop}
  (hl:typeLookup (.type T) "__getitem__"=pure (some (.builtin id))) (hs:NoSl slice)
  (h:wpAny (model prog w) A (eval value env) (λo s₁=>wpAny (model prog w) A (eval slice env) (λi s₂=>s₂.TypeIs o T∧wpAny (model prog w) A (getItem o i) Q E s₂) E s₁) E s):
  wpAny (model prog w) A (eval (.Subscript value slice pos) env) Q E s:=by
 refine Subscript_ (wpAny_mono h (λo s₁ h₁=>wpAny_mono h₁ (λi s₂ h₂=>?_) λ_ _ x=>x) λ_ _ x=>x);obtain ⟨hT,h₂⟩:=h₂;unfold subscriptTail;refine wpAny_bind ?_;rw[getitemInPython_of_ne hT.not_modules];refine wpAny_bind (wpAny_specialOf hT hl ?_);have fin:wpAny (model prog w) A (subscripted slice false o i) (λr s₃=>wpAny (model prog w) A (letTemporaryGo value o r >>=λ_=>pure r) Q E s₃) E s₂:=by
  rw[hs o i];exact wpAny_operating (wpAny_mono h₂ (λr s₃ h₃=>wpAny_bind (wpAny_letTemporaryGo (wpAny_pure h₃))) λ_ _ x=>x)
 first
  | exact wpAny_pure (wpAny_bind fin)
  | exact wpAny_bind (wpAny_pure (wpAny_bind fin))
  | exact wpAny_bind fin
theorem yx {X:Cx} {pins:List (Addr×Obj)} {σ:St} {H:Hp} {s:Shared} {a:Addr} {y:V} {o:Option V} (I:Inv X pins σ H s) (g:fj H a y o):s.TypeIs (.ref a) "dict":=by
 rcases g with ⟨kvs,k,e,_,_⟩ | ⟨kvs,k,b,e,_,_,_⟩
 ·obtain ⟨_,_,vs,_,dd⟩:=u0 I.hok e;exact dd.typeIs
 ·obtain ⟨_,_,xs,_,dd⟩:=vt I.hok e;exact dd.typeIs
def tDGet (td ty:TE):TE:=λσ H Q=>td σ H λx H1=>ty σ H1 λy H2=>∃a v,x=.ref a∧fj H2 a y (some v)∧Q v H2
def tDIn (ty td:TE):TE:=λσ H Q=>ty σ H λy H1=>td σ H1 λx H2=>∃a o,x=.ref a∧fj H2 a y o∧Q (.bl o.isSome) H2
def Em (ty td:TE):TE:=λσ H Q=>ty σ H λy H1=>td σ H1 λx H2=>∃a o,x=.ref a∧fj H2 a y o∧Q (.bl (!o.isSome)) H2
def sDPut (td ty tv:TE):TS:=λD σ H=>tv σ H λv H1=>td σ H1 λx H2=>ty σ H2 λy H3=>∃a H4,x=.ref a∧sf H3 a y v H4∧D.nx σ H4
section
variable {X:Cx} {o i e value:Expr} {pos pos' tpos:Pos} {td ty tv:TE}
theorem Nb (hu:X.A.units+1 < cLine) (ho:PE X o td) (hi:PE X i ty) (hs:NoSl i):PE X (.Subscript o i pos) (tDGet td ty):=by
 intro pins s σ H Q I h;refine K8 PySem.F.slot_dict_getitem.lookup hs (thn (ho pins s σ H _ I h) λu s1 ⟨x,H1,I1,rx,q1⟩=>thn (hi pins s1 σ H1 _ I1 q1) λiv s2 ⟨y,H2,I2,ry,a,v,ex,g,q2⟩=>?_);subst ex;obtain rfl:u=Value.ref a:=rx;exact ⟨yx I2 g,E5 hu I2 g ry λw' s3 I3 rw'=>⟨v,H2,I3,rw',q2⟩⟩
theorem pc_din (hu:X.A.units+1 < cLine) (hi:PE X i ty) (ho:PE X o td):PC X .In i o (tDIn ty td):=by
 intro pins s σ H Q I h;refine thn (hi pins s σ H _ I h) λiv s1 ⟨y,H1,I1,ry,q1⟩=>thn (ho pins s1 σ H1 _ I1 q1) λu s2 ⟨x,H2,I2,rx,a,ov,ex,g,q2⟩=>?_;subst ex;obtain rfl:u=Value.ref a:=rx;exact d_in hu I2 g ry λs3 I3=>⟨.bl ov.isSome,H2,I3,rfl,q2⟩
theorem uw (hu:X.A.units+1 < cLine) (hi:PE X i ty) (ho:PE X o td):PC X .NotIn i o (Em ty td):=by
 intro pins s σ H Q I h;refine thn (hi pins s σ H _ I h) λiv s1 ⟨y,H1,I1,ry,q1⟩=>thn (ho pins s1 σ H1 _ I1 q1) λu s2 ⟨x,H2,I2,rx,a,ov,ex,g,q2⟩=>?_;subst ex;obtain rfl:u=Value.ref a:=rx;exact Ls hu I2 g ry λs3 I3=>⟨.bl (!ov.isSome),H2,I3,rfl,q2⟩
theorem L8 (hu:X.A.units+1 < cLine) (ho:PE X o td) (hi:PE X i ty) (hv:PE X value tv) (hs:swapsWith value (some (.Subscript o i pos')) pos.line X.env=pure false):
  PS X (.Assign [.Subscript o i pos'] value pos) (sDPut td ty tv):=by
 intro pins s σ H D I h;refine wpAny_Assign_Subscript (thn (hv pins s σ H _ I h) λr s1 ⟨v,H1,I1,rv,q1⟩=>thn (ho pins s1 σ H1 _ I1 q1) λu s2 ⟨x,H2,I2,rx,q2⟩=>thn (hi pins s2 σ H2 _ I2 q2) λiv s3 ⟨y,H3,I3,ry,a,H4,ex,g,q3⟩=>?_) hs;subst ex;obtain rfl:u=Value.ref a:=rx;exact Gg hu I3 g ry rv λs4 I4=>⟨σ,H4,I4,q3⟩
end
theorem zw {P:Program} {w:World} {H:Hp} (h:Heap) (hb:sysModules < h.objs.size):br P w H (h.push { cls:=.type "dict",data:=.dict #[] }) h.objs.size (.dK []):=
 ⟨aac _,beq_eq_false_iff_ne.mpr (Ne.symm (aap hb)),[],.nil,Heap.DictOf.new h⟩
theorem Hm {P:Program} {w:World} {H:Hp} (h:Heap) (hb:sysModules < h.objs.size):br P w H (h.push { cls:=.type "dict",data:=.dict #[] }) h.objs.size (.dT []):=
 ⟨aac _,beq_eq_false_iff_ne.mpr (Ne.symm (aap hb)),[],.nil,_,#[],0,Heap.get?_push_size _ rfl,⟨rfl,rfl,rfl⟩,rfl,rfl,abo⟩
def Hi:TE:=λ_ H Q=>∀p,H p=none→Q (.ref p) (upd H p (.dK []))
def Gz:TE:=λ_ H Q=>∀p,H p=none→Q (.ref p) (upd H p (.dT []))
section
variable {X:Cx} {pos:Pos}
theorem sg:PE X (.Dict [] [] pos) Hi:=λpins s σ H Q I h=>
 wpAny_Dict_empty ⟨.ref s.heap.objs.size,_,I.laid (a:=s.heap.objs.size) (o:=.dK []) (t':=s.toks) (λ_ _ q=>Heap.get?_push_of_some _ q) (aa4 _) (zw s.heap I.big),rfl,h _ (I.hok.fresh (aa4 _))⟩
theorem Kb:PE X (.Dict [] [] pos) Gz:=λpins s σ H Q I h=>
 wpAny_Dict_empty ⟨.ref s.heap.objs.size,_,I.laid (a:=s.heap.objs.size) (o:=.dT []) (t':=s.toks) (λ_ _ q=>Heap.get?_push_of_some _ q) (aa4 _) (Hm s.heap I.big),rfl,h _ (I.hok.fresh (aa4 _))⟩
end
def sr:List (TE×TE)→St→Hp→(List (V×V)→Hp→Prop)→Prop
 | [],_,H,Q=>Q [] H
 | (tk,tv)::r,σ,H,Q=>tk σ H λx H1=>tv σ H1 λy H2=>sr r σ H2 λps H3=>Q ((x,y)::ps) H3
abbrev VV:List (V×V)→List (Value×Value)→Prop:=Paired λp q=>RelV p.1 q.1∧RelV p.2 q.2
def PPs (X:Cx) (pos:Pos) (keys:List (Option Expr)) (values:List Expr) (trs:List (TE×TE)):Prop:=
 ∀(pins:List (Addr×Obj)) (s:Shared) (σ:St) (H:Hp) (Q:List (V×V)→Hp→Prop),Inv X pins σ H s→sr trs σ H Q→
  wpAny (model X.prog X.w) X.A (evalPairs (pairTrees keys values X.env pos)) (λvs s'=>∃ps H',Inv X pins σ H' s'∧VV ps vs∧Q ps H') X.xe s
theorem Dw {X:Cx} {pos:Pos}:PPs X pos [] [] []:=λpins s σ H Q I h=>pairTrees_nil_walk ⟨[],H,I,.nil,h⟩
theorem Jf {X:Cx} {pos:Pos} {k v:Expr} {ks:List (Option Expr)} {vs:List Expr} {tk tv:TE} {trs:List (TE×TE)} (hk:PE X k tk) (hv:PE X v tv) (hr:PPs X pos ks vs trs):
  PPs X pos (some k::ks) (v::vs) ((tk,tv)::trs):=λpins s σ H Q I h=>
 pairTrees_cons_walk (thn (hk pins s σ H _ I h) λu s1 ⟨x,H1,I1,rx,q1⟩=>thn (hv pins s1 σ H1 _ I1 q1) λw2 s2 ⟨y,H2,I2,ry,q2⟩=>
  thn (hr pins s2 σ H2 _ I2 q2) λws s3 ⟨ps,H3,I3,rel,q3⟩=>⟨(x,y)::ps,H3,I3,.cons ⟨rx,ry⟩ rel,q3⟩)
noncomputable def cy (kvs more:List (Key×V)):List (Key×V):=more.foldl (λacc kv=>putK acc kv.1 kv.2) kvs
theorem KV.merge:∀{more:List (Key×V)} {rs:List (Key×Value)} {kvs:List (Key×V)} {vs:List (Key×Value)},KV more rs→KV kvs vs→KV (cy kvs more) (merged vs rs):=by
 intro more rs kvs vs r;unfold KV at r;induction r generalizing kvs vs with
 | nil=>intro q;exact q
 | @cons p q ps qs h t ih=>
  intro r0;have e:KV (putK kvs p.1 p.2) (stored vs q.1 q.2):=by
   have:=r0.put p.1 h.2;rw[←h.1];exact this
  exact ih e
theorem jy:∀(more kvs:List (Key×V)),(cy kvs more).length≤kvs.length+more.length
 | [],kvs=>by show kvs.length≤kvs.length+0;omega
 | p::r,kvs=>by
  have h1:=jy r (putK kvs p.1 p.2);have h2:=d7 kvs p.1 p.2;show (cy (putK kvs p.1 p.2) r).length≤_
  rw[aaa];omega
theorem qe {P:Program} {w:World}:∀{kvs:List (Key×V)} {ws:List (Value×Value)},VV (kvs.map λkv=>(kV kv.1,kv.2)) ws→∃rs,Carries (ar P w) ws rs∧KV kvs rs
 | [],_,r=>by rw[ac6] at r;cases r;exact ⟨[],True.intro,.nil⟩
 | p::kvs,_,r=>by
  rw[aaj] at r;cases r with
  | @cons a b as bs h t=>
   obtain ⟨rs,c,q⟩:=qe (P:=P) (w:=w) t;obtain ⟨b1,b2⟩:=b;exact ⟨(p.1,b2)::rs,⟨jw h.1,rfl,c⟩,.cons ⟨rfl,h.2⟩ q⟩
def Il (trs:List (TE×TE)):TE:=λσ H Q=>∀p,H p=none→sr trs σ (upd H p (.dK [])) λps H2=>H2 p=some (.dK [])∧∃kvs:List (Key×V),ps=kvs.map (λkv=>(kV kv.1,kv.2))∧kvs.length≤15∧Q (.ref p) (upd H2 p (.dK (cy [] kvs)))
theorem Dl {X:Cx} {pos:Pos} {keys:List (Option Expr)} {values:List Expr} {trs:List (TE×TE)} (h:PPs X pos keys values trs) (hall:keys.all (·.isSome)=true) (hl:keys.length=values.length) (h0:keys≠[])
  (h15:keys.length≤15):PE X (.Dict keys values pos) (Il trs):=by
 intro pins s σ H Q I q;have hn:=I.hok.fresh (aa4 s.heap.objs.size);have I1:=I.laid (a:=s.heap.objs.size) (o:=.dK []) (h':=s.heap.push { cls:=.type "dict",data:=.dict #[] }) (t':=s.toks) (λ_ _ q=>Heap.get?_push_of_some _ q) (aa4 _) (zw s.heap I.big);refine wpAny_Dict_walk (knd:=ar X.prog X.w) hall hl h0 h15 (thn (h pins _ σ _ _ I1 (q _ hn)) λws s2 ⟨ps,H2,I2,rel,e,kvs,ep,lk,q2⟩=>?_);subst ep;obtain ⟨rs,c,rk⟩:=qe (P:=X.prog) (w:=X.w) rel;obtain ⟨z,hd,vs0,r0,dd⟩:=dk_of I2.hok e;cases r0
 refine ⟨rs,c,dd,λh' dd' hs=>⟨.ref s.heap.objs.size,_,?_,rfl,q2⟩⟩;have hz:(cy [] kvs).length≤sizeLine:=by
  have h1:=jy kvs [];rw[ac1] at h1;rw[sizeLine_eq];omega
 have he:∃q,h'.get? s.heap.objs.size=some q:=let ⟨q,_,_,hq,_⟩:=dd';⟨q,hq⟩
 exact wd I2 (by rw[e];exact True.intro) hs he (Jt hz hd (rk.merge .nil) dd')
structure M2 (X:Cx) (o:Expr) (m:Str) (apos:Pos) (e f:Expr) (cpos:Pos):Prop where
 base:attributeBase o m X.env (eval o X.env)=eval o X.env
 few:((backTo cpos (starEach [e,f] X.env)).all (λx=>!x.1)&&(backToKw cpos (keywordEach [] X.env)).all (λx=>x.1.isSome)
  &&decide (([e,f]:List Expr).length+([]:List Keyword).length+(if ([]:List Keyword).isEmpty then 0 else 1) < 30))=true
 line:(apos.endLine==cpos.line)=true
 trees:backTo cpos (starEach [e,f] X.env)=[(false,eval e X.env),(false,eval f X.env)]
def vj (i:Nat):TE:=λσ H Q=>match σ[i]? with | some (some v)=>Q v H | _=>False
theorem pvD {X:Cx} (i:Nat) {x:Str} {pos:Pos} (hN:X.N[i]?=some x) (hv:Vis X.env.scope x) (hd:(x==("__debug__":Str))=false) (hcd:(x==("__classdict__":Str))=false):PE X (.Name x pos) (vj i):=λpins s σ H Q I h=>pv i hN hv hd hcd pins s σ H Q I (by
 unfold vj at h;split at h
 ·exact ⟨_,‹_›,h⟩
 ·exact h.elim)
theorem pl {X:Cx} (i:Nat) {x:Str} {pos:Pos} (hN:X.N[i]?=some x) (hv:X.env.scope.names.lookup x=some .local) (hd:(x==("__debug__":Str)||x==("__classdict__":Str))=false):PE X (.Name x pos) (vj i):=pvD i hN (.inl hv) (Bool.or_eq_false_iff.mp hd).1 (Bool.or_eq_false_iff.mp hd).2
theorem E3 {i:Nat} {σ:L2.St} {H:Hp} {Q:VK}:vj i σ H Q=∃v,σ[i]?=some (some v)∧Q v H:=by
 unfold vj;refine propext ⟨λh=>?_,λ⟨v,e,h⟩=>?_⟩
 ·split at h
  ·exact ⟨_,‹_›,h⟩
  ·exact h.elim
 ·rw[e];exact h
theorem Ge {α:Type} {a:α} {x y:List α}:(a::x=a::y)=(x=y):=propext ⟨λh=>(ab1 h).2,λh=>by rw[h]⟩
theorem Mb {α:Type} {a b:α}:([a]=[b])=(a=b):=propext ⟨λh=>(ab1 h).1,λh=>by rw[h]⟩
theorem Ld {α:Type} {a b c d:α}:([a,c]=[b,d])=(a=b∧c=d):=propext ⟨λh=>⟨(ab1 h).1,(ab1 (ab1 h).2).1⟩,λ⟨h,k⟩=>by rw[h,k]⟩
theorem L7 {α:Type} {a b c d e f:α}:([a,c,e]=[b,d,f])=(a=b∧c=d∧e=f):=propext ⟨λh=>⟨(ab1 h).1,(ab1 (ab1 h).2).1,(ab1 (ab1 (ab1 h).2).2).1⟩,λ⟨h,k,l⟩=>by rw[h,k,l]⟩
theorem int_ex {a:Int} {p:Int→Prop}:(∃x,V.int a=V.int x∧p x)=p a:=propext ⟨λ⟨x,e,h⟩=>by cases e;exact h,λh=>⟨a,rfl,h⟩⟩
theorem ref_ex {a:Addr} {p:Addr→Prop}:(∃x,V.ref a=V.ref x∧p x)=p a:=propext ⟨λ⟨x,e,h⟩=>by cases e;exact h,λh=>⟨a,rfl,h⟩⟩
theorem bl_ex {a:Bool} {p:Bool→Prop}:(∃x,V.bl a=V.bl x∧p x)=p a:=propext ⟨λ⟨x,e,h⟩=>by cases e;exact h,λh=>⟨a,rfl,h⟩⟩
theorem Mv {a b:Int} {p:Int→Int→Prop}:(∃x y,V.int a=V.int x∧V.int b=V.int y∧p x y)=p a b:=propext ⟨λ⟨x,y,e,e2,h⟩=>by cases e;cases e2;exact h,λh=>⟨a,b,rfl,rfl,h⟩⟩
theorem us0 {α:Type} {P:List α→Prop} {us:List α} (hl:us.length=0) (h:P []):P us:=by
 rw[List.length_eq_zero_iff.mp hl];exact h
theorem usS {α:Type} {P:List α→Prop} {us:List α} {n:Nat} (hl:us.length=n+1) (h:∀a us,us.length=n→P (a::us)):P us:=by
 cases us with
 | nil=>exact absurd hl.symm (Nat.succ_ne_zero n)
 | cons a l=>exact h a l (Nat.succ.inj hl)
theorem us1 {α:Type} {P:List α→Prop} {us:List α} (hl:us.length=1) (h:∀a,P [a]):P us:=usS hl λa us hl=>us0 (P:=λus=>P (a::us)) hl (h a)
theorem us2 {α:Type} {P:List α→Prop} {us:List α} (hl:us.length=2) (h:∀a b,P [a,b]):P us:=usS hl λa us hl=>us1 (P:=λus=>P (a::us)) hl (h a)
theorem us3 {α:Type} {P:List α→Prop} {us:List α} (hl:us.length=3) (h:∀a b c,P [a,b,c]):P us:=usS hl λa us hl=>us2 (P:=λus=>P (a::us)) hl (h a)
theorem us4 {α:Type} {P:List α→Prop} {us:List α} (hl:us.length=4) (h:∀a b c d,P [a,b,c,d]):P us:=usS hl λa us hl=>us3 (P:=λus=>P (a::us)) hl (h a)
def yo (g:Int→Int→V):R2:=λx y H Q=>match x,y with | .int i,.int j=>Q (g i j) H | _,_=>False
def rID (C:Int→Int→Prop) (g:Int→Int→V):R2:=λx y H Q=>match x,y with | .int i,.int j=>C i j∧Q (g i j) H | _,_=>False
def rUD (g:Int→V):V→Hp→VK→Prop:=λx H Q=>match x with | .int i=>Q (g i) H | _=>False
def tBD (t:TE):TT:=λσ H Q=>t σ H λx H1=>match x with | .bl c=>Q c H1 | _=>False
def Aq (t:TE):TO:=λσ H Q=>t σ H λx H1=>match x with | .int i=>Q (some i) H1 | _=>False
theorem jn:@yo=@rI0:=by
 funext g x y H Q
 refine propext ⟨λh=>?_,λ⟨i,j,e,f,h⟩=>by subst e;subst f;exact h⟩;unfold yo at h;split at h
 ·exact ⟨_,_,rfl,rfl,h⟩
 ·exact h.elim
theorem wc:@rID=@rI:=by
 funext C g x y H Q
 refine propext ⟨λh=>?_,λ⟨i,j,e,f,h⟩=>by subst e;subst f;exact h⟩;unfold rID at h;split at h
 ·exact ⟨_,_,rfl,rfl,h⟩
 ·exact h.elim
theorem rUD_eq:@rUD=@rU:=by
 funext g x H Q
 refine propext ⟨λh=>?_,λ⟨i,e,h⟩=>by subst e;exact h⟩;unfold rUD at h;split at h
 ·exact ⟨_,rfl,h⟩
 ·exact h.elim
theorem blD {x:V} {Q:Bool→Prop}:(match x with | .bl c=>Q c | _=>False)=∃c,x=.bl c∧Q c:=by
 refine propext ⟨λh=>?_,λ⟨i,e,h⟩=>by subst e;exact h⟩;split at h
 ·exact ⟨_,rfl,h⟩
 ·exact h.elim
theorem wm:@tBD=@tB:=by
 funext t σ H Q
 exact congrArg (t σ H) (funext λx=>funext λH1=>blD)
theorem Fe:@Aq=@Ih:=by
 funext t σ H Q
 refine congrArg (t σ H) (funext λx=>funext λH1=>propext ⟨λh=>?_,λ⟨i,e,h⟩=>by subst e;exact h⟩);split at h
 ·exact ⟨_,rfl,h⟩
 ·exact h.elim
variable {X:Cx}
theorem Mq:OpR X (binaryOp .Add) (yo λi j=>.int (i+j)):=jn ▸ op_add
theorem ky:OpR X (binaryOp .Sub) (yo λi j=>.int (i - j)):=jn ▸ op_sub
theorem Ai:OpR X (compareOp .Lt) (yo λi j=>.bl (decide (i < j))):=jn ▸ op_lt
theorem og:OpR X (compareOp .Gt) (yo λi j=>.bl (decide (j < i))):=jn ▸ op_gt
theorem Hy:OpR X (compareOp .GtE) (yo λi j=>.bl (decide (j≤i))):=jn ▸ op_ge
theorem w8:OpR X (binaryOp .Mult) (rID CMul λi j=>.int (i*j)):=wc ▸ op_mul
theorem ze:OpR X (binaryOp .FloorDiv) (rID CDiv λi j=>.int (i / j)):=wc ▸ Kt
theorem gs:OpR X (binaryOp .Mod) (rID (λ_ j=>0 < j) λi j=>.int (i % j)):=wc ▸ op_mod
theorem Mt:OpR X (binaryOp .Pow) (rID CPow λi j=>.int (i ^ j.toNat)):=wc ▸ op_pow
theorem m6:UnR X (unaryOp .USub) (rUD λi=>.int (-i)):=rUD_eq ▸ un_neg
theorem Ly {e:Expr} {t:TE} (h:PE X e t) (he:∀whole,isTrue e X.env whole=(do let v ←whole;standAt e.pos;holding [v] (truthy v))):PT X e (tBD t):=wm ▸ pt_val h he
theorem L3 {a b:Expr} {pos:Pos} {op:CmpOp} {t:TE} (h:PC X op a b t) (h1:behindInMarks op b=false):PT X (.Compare a [op] [b] pos) (tBD t):=wm ▸ pt_cmp h h1
theorem yk {a b:Expr} {ta tb:TE} {pos:Pos} {op:CmpOp} {r:R2} (ho:OpR X (compareOp op) r) (ha:PE X a ta) (hb:PE X b tb) (hm:behindInMarks op b=false):PT X (.Compare a [op] [b] pos) (tBD (tOp r ta tb)):=wm ▸ Mz ho ha hb hm
theorem Gv {e:Expr} {te:TE} (h:PE X e te):PO X (some e) (Aq te):=Fe ▸ Mr h
def Hk (K:PySem.W.Frag):List V→Hp→VK→Prop:=λxs H Q=>match xs with | [.ref p]=>∃ys,(SqL K H p ys∨SqT K H p ys)∧Q (.int ys.length) H | _=>False
def G9 (K:PySem.W.Frag):List V→Hp→VK→Prop:=λxs H Q=>match xs with | [.ref p]=>∃ys,(SqL K H p ys∧∀l,H l=none→Q (.ref l) (upd H l (.tup ys)))∨(SqT K H p ys∧Q (.ref p) H) | _=>False
def Jw:List V→Hp→VK→Prop:=λxs H Q=>match xs with | [.int i]=>Q (.int i) H | [.bl k]=>Q (.int (if k then 1 else 0)) H | _=>False
theorem ue:fq X (.builtin "len") (Hk X.K):=by
 refine Eq.mp (congrArg _ ?_) xh;funext xs H Q
 refine propext ⟨λ⟨p,ys,e,h⟩=>by subst e;exact ⟨ys,h⟩,λh=>?_⟩;unfold Hk at h;split at h
 ·exact h.elim λys h=>⟨_,ys,rfl,h⟩
 ·exact h.elim
theorem qy:fq X (.type "tuple") (G9 X.K):=by
 refine Eq.mp (congrArg _ ?_) ua;funext xs H Q
 refine propext ⟨λ⟨p,ys,e,h⟩=>by subst e;exact ⟨ys,h⟩,λh=>?_⟩;unfold G9 at h;split at h
 ·exact h.elim λys h=>⟨_,ys,rfl,h⟩
 ·exact h.elim
theorem qk:fq X (.type "int") Jw:=by
 refine Eq.mp (congrArg _ ?_) E1;funext xs H Q
 refine propext ⟨λh=>?_,λh=>?_⟩
 ·rcases h with ⟨i,e,h⟩ | ⟨k,e,h⟩ <;> subst e <;> exact h
 unfold Jw at h;split at h
 ·exact .inl ⟨_,rfl,h⟩
 ·exact .inr ⟨_,rfl,h⟩
 ·exact h.elim
end L2
namespace Fm
section
variable {N:Type} [DecidableEq N]
noncomputable def ba:List (N×Int)→N→Int
 | [],_=>0
 | p::r,n=>(if p.1=n then p.2 else 0)+ba r n
theorem Ii (f g:List (N×Int)) (n:N):ba (f++g) n=ba f n+ba g n:=by
 induction f with
 | nil=>show ba g n=0+ba g n;omega
 | cons p r ih=>show (if p.1=n then p.2 else 0)+ba (r++g) n=(if p.1=n then p.2 else 0)+ba r n+ba g n;omega
theorem Ep {f g:List (N×Int)} (h:f.Perm g) (n:N):ba f n=ba g n:=by
 induction h with
 | nil=>rfl
 | cons p _ ih=>show (if p.1=n then p.2 else 0)+_=(if p.1=n then p.2 else 0)+_;omega
 | swap p q l=>show (if q.1=n then q.2 else 0)+((if p.1=n then p.2 else 0)+ba l n)=(if p.1=n then p.2 else 0)+((if q.1=n then q.2 else 0)+ba l n);omega
 | trans _ _ h1 h2=>exact h1.trans h2
theorem lj {f:List (N×Int)} {n:N} (h:∀p∈f,p.1≠n):ba f n=0:=by
 induction f with
 | nil=>rfl
 | cons p r ih=>
  show (if p.1=n then p.2 else 0)+ba r n=0
  rw[if_neg (h p aa8),ih λq hq=>h q (aa7 _ hq)];rfl
theorem Hs (f:List (N×Int)) (n:N):ba (f.map λp=>(p.1,-p.2)) n=-ba f n:=by
 induction f with
 | nil=>rfl
 | cons p r ih=>
  show (if p.1=n then -p.2 else 0)+ba (r.map λp=>(p.1,-p.2)) n=-((if p.1=n then p.2 else 0)+ba r n)
  rw[ih];split <;> omega
theorem K6 (f:List (N×Int)) (n:N):ba (f.filter λp=>decide (p.2≠0)) n=ba f n:=by
 induction f with
 | nil=>rfl
 | cons p r ih=>
  by_cases h:p.2=0
  ·rw[ab4,if_neg (by simp[h])];show _=(if p.1=n then p.2 else 0)+ba r n
   rw[ih,h];split <;> omega
  ·rw[ab4,if_pos (by simp[h])];show (if p.1=n then p.2 else 0)+_=(if p.1=n then p.2 else 0)+ba r n
   rw[ih]
structure NF (lt:N→N→Bool) (f:List (N×Int)):Prop where
 ord:f.Pairwise λp q=>lt p.1 q.1=true
 nz:∀p∈f,p.2≠0
structure Lin (lt:N→N→Bool):Prop where
 irr:∀x,lt x x=false
 tr:∀{x y z},lt x y=true→lt y z=true→lt x z=true
 tri:∀x y,lt x y=true∨x=y∨lt y x=true
variable {lt:N→N→Bool}
theorem Lin.ne (o:Lin lt) {x y:N} (h:lt x y=true):x≠y:=λe=>by
 rw[e,o.irr] at h;cases h
theorem NF.nil:NF lt ([]:List (N×Int)):=⟨ada,λ_ h=>nomatch h⟩
theorem NF.tail {p:N×Int} {r:List (N×Int)} (h:NF lt (p::r)):NF lt r:=⟨(List.pairwise_cons.mp h.ord).2,λq hq=>h.nz q (aa7 _ hq)⟩
theorem NF.head (o:Lin lt) {p:N×Int} {r:List (N×Int)} (h:NF lt (p::r)):ba (p::r) p.1=p.2:=by
 show (if p.1=p.1 then p.2 else 0)+ba r p.1=p.2
 rw[if_pos rfl,lj λq hq=>(o.ne ((List.pairwise_cons.mp h.ord).1 q hq)).symm];omega
theorem NF.low (o:Lin lt) {p:N×Int} {r:List (N×Int)} {n:N} (h:NF lt (p::r)) (hn:lt n p.1=true):ba (p::r) n=0:=by
 refine lj λq hq=>?_;rcases List.mem_cons.mp hq with e | e
 ·rw[e];exact (o.ne hn).symm
 ·exact (o.ne (o.tr hn ((List.pairwise_cons.mp h.ord).1 q e))).symm
theorem NF.unique (o:Lin lt):∀{f g:List (N×Int)},NF lt f→NF lt g→(∀n,ba f n=ba g n)→f=g
 | [],[],_,_,_=>rfl
 | [],q::s,_,hg,h=>by
  have:=h q.1;rw[hg.head o] at this;exact absurd this.symm (hg.nz q aa8)
 | p::r,[],hf,_,h=>by
  have:=h p.1;rw[hf.head o] at this;exact absurd this (hf.nz p aa8)
 | p::r,q::s,hf,hg,h=>by
  rcases o.tri p.1 q.1 with e | e | e
  ·have:=h p.1;rw[hf.head o,hg.low o e] at this;exact absurd this (hf.nz p aa8)
  ·have h1:=h p.1;rw[hf.head o,e,hg.head o] at h1;have e2:p=q:=Prod.ext e h1;subst e2;have h2:r=s:=NF.unique o hf.tail hg.tail λn=>by
    have:=h n;have this:(if p.1=n then p.2 else 0)+ba r n=(if p.1=n then p.2 else 0)+ba s n:=this;omega
   rw[h2]
  ·have:=h q.1;rw[hg.head o,hf.low o e] at this;exact absurd this.symm (hg.nz q aa8)
structure rn (lt:N→N→Bool) (rows f:List (N×Int)):Prop where
 nf:NF lt f
 co:∀n,ba f n=ba rows n
theorem rn.unique (o:Lin lt) {rows f g:List (N×Int)} (hf:rn lt rows f) (hg:rn lt rows g):f=g:=NF.unique o hf.nf hg.nf λn=>(hf.co n).trans (hg.co n).symm
theorem rn.self {f:List (N×Int)} (h:NF lt f):rn lt f f:=⟨h,λ_=>rfl⟩
theorem rn.none (o:Lin lt) {rows f:List (N×Int)} (h:rn lt rows f) (hz:∀n,ba rows n=0):f=[]:=NF.unique o h.nf NF.nil λn=>(h.co n).trans (hz n)
noncomputable def ev (mon:N→Int):List (N×Int)→Int
 | []=>0
 | p::r=>p.2*mon p.1+ev mon r
variable (mon:N→Int)
end
section
variable {N:Type} [DecidableEq N] (mon:N→Int)
noncomputable def prod (j:N→N→N) (f g:List (N×Int)):List (N×Int):=f.flatMap λp=>g.map λq=>(j p.1 q.1,p.2*q.2)
noncomputable def cw:List (N×Int)→N→Int→List (N×Int)
 | [],n,c=>[(n,c)]
 | p::r,n,c=>if p.1=n then (p.1,p.2+c)::r else p::cw r n c
theorem ve (n:N) (c:Int) (m:N):∀f:List (N×Int),ba (cw f n c) m=ba f m+if n=m then c else 0
 | []=>by show (if n=m then c else 0)+0=0+if n=m then c else 0;omega
 | p::r=>by
  by_cases h:p.1=n
  ·show ba (if p.1=n then (p.1,p.2+c)::r else p::cw r n c) m=_
   rw[if_pos h];show (if p.1=m then p.2+c else 0)+ba r m=(if p.1=m then p.2 else 0)+ba r m+if n=m then c else 0
   rw[h];split <;> omega
  ·show ba (if p.1=n then (p.1,p.2+c)::r else p::cw r n c) m=_
   rw[if_neg h];show (if p.1=m then p.2 else 0)+ba (cw r n c) m=(if p.1=m then p.2 else 0)+ba r m+if n=m then c else 0
   rw[ve n c m r];omega
theorem oa (n:N) (c:Int):∀{f:List (N×Int)} {x:N},x∈(cw f n c).map (·.1)→x∈f.map (·.1)∨x=n
 | [],x,h=>by
  have:x=n:=by simpa [cw] using h
  exact .inr this
 | p::r,x,h=>by
  by_cases e:p.1=n
  ·have e2:cw (p::r) n c=(p.1,p.2+c)::r:=if_pos e;rw[e2] at h;exact .inl h
  ·have e2:cw (p::r) n c=p::cw r n c:=if_neg e;rw[e2] at h;rcases List.mem_cons.mp h with h | h
   ·exact .inl (List.mem_cons.mpr (.inl h))
   ·rcases oa n c h with h | h
    ·exact .inl (aa7 _ h)
    ·exact .inr h
theorem C2 (n:N) (c:Int):∀{f:List (N×Int)},(f.map (·.1)).Nodup→((cw f n c).map (·.1)).Nodup
 | [],_=>by show ([n]:List N).Nodup;simp
 | p::r,h=>by
  have h:(p.1::r.map (·.1)).Nodup:=h;obtain ⟨h1,h2⟩:=List.nodup_cons.mp h;by_cases e:p.1=n
  ·have e2:cw (p::r) n c=(p.1,p.2+c)::r:=if_pos e;rw[e2];exact h
  ·have e2:cw (p::r) n c=p::cw r n c:=if_neg e;rw[e2];show (p.1::(cw r n c).map (·.1)).Nodup
   refine List.nodup_cons.mpr ⟨λm=>?_,C2 n c h2⟩;rcases oa n c m with z | z
   ·exact h1 z
   ·exact e z
end
end Fm
namespace L2
open PySem PySem.Spec PyProof.Rows
theorem lookup_mem {α:Type} {x:Str} {c:α}:∀{l:List (Str×α)},l.lookup x=some c→(x,c)∈l
 | [],h=>by cases h
 | (y,d)::r,h=>by
  rw[List.lookup_cons] at h;cases e:x==y with
  | true=>
   rw[e] at h;have e':x=y:=eq_of_beq e;cases h
   subst e';exact aa8
  | false=>
   rw[e] at h;exact aa7 _ (lookup_mem h)
noncomputable def ud (ix:List Nat) (σ:St):St:=ix.map λj=>(σ[j]?).getD none
def SubP (cs:List (Str×Addr)):List (Str×Addr)→Prop
 | []=>True
 | p::r=>cs.lookup p.1=some p.2∧SubP cs r
theorem SubP.of {cs:List (Str×Addr)}:∀{cl:List (Str×Addr)},SubP cs cl→∀p∈cl,cs.lookup p.1=some p.2
 | [],_,_,h=>by cases h
 | p::r,⟨h1,h2⟩,q,hq=>by
  rcases List.mem_cons.mp hq with e | e
  ·rw[e];exact h1
  ·exact SubP.of h2 q e
def y6 (X:Cx) (scope:Scope):List Str→List Nat→Prop
 | [],[]=>True
 | x::fr,j::ix=>(X.N[j]?=some x∧X.env.kindOf x=some .cell∧(relabel scope X.env).names.lookup x=some .cell)∧y6 X scope fr ix
 | _,_=>False
theorem y6.len {X:Cx} {scope:Scope}:∀{fr:List Str} {ix:List Nat},y6 X scope fr ix→fr.length=ix.length
 | [],[],_=>rfl
 | x::fr,j::ix,h=>by rw[aaa,aaa,y6.len h.2]
 | [],_::_,h=>h.elim
 | _::_,[],h=>h.elim
theorem y6.get {X:Cx} {scope:Scope}:∀{fr:List Str} {ix:List Nat},y6 X scope fr ix→∀(k j:Nat),ix[k]?=some j→∃x,fr[k]?=some x∧X.N[j]?=some x∧X.env.kindOf x=some .cell∧(relabel scope X.env).names.lookup x=some .cell
 | [],[],_,k,j,e=>by simp at e
 | x::fr,i::ix,h,0,j,e=>by
  have e':i=j:=by simpa using e
  subst e';exact ⟨x,rfl,h.1⟩
 | x::fr,i::ix,h,k+1,j,e=>by
  obtain ⟨y,hy,r⟩:=y6.get h.2 k j (by simpa using e);exact ⟨y,by simpa using hy,r⟩
 | [],_::_,h,_,_,_=>h.elim
 | _::_,[],h,_,_,_=>h.elim
structure ie (X:Cx) (scope:Scope) (own fr:List Str) (ix:List Nat) (cl:List (Str×Addr)):Prop where
 clos:closureFor scope X.env=pure cl
 kind:scope.kind=.function
 nocell:(scope.names.all λy=>decide (y.2≠.cell))=true
 names:(scope.names.all λy=>decide (y.2≠.local)||decide (scope.names.lookup y.1=some .local))=true
 sub:SubP X.env.cells cl
 has:((relabel scope X.env).names.all λy=>!(decide (y.2=.cell)||decide (y.2=.free))||(cl.lookup y.1).isSome)=true
 out':y6 X scope fr ix
section
variable {X:Cx} {scope:Scope} {own fr:List Str} {ix:List Nat} {cl:List (Str×Addr)}
theorem ie.len (C:ie X scope own fr ix cl):fr.length=ix.length:=C.out'.len
theorem ie.out (C:ie X scope own fr ix cl):∀(k j:Nat),ix[k]?=some j→∃x,fr[k]?=some x∧X.N[j]?=some x∧Vis X.env.scope x∧X.env.kindOf x≠some .local∧(relabel scope X.env).names.lookup x≠some .local:=λk j e=>by
 obtain ⟨x,h1,h2,h3,h4⟩:=C.out'.get k j e;exact ⟨x,h1,h2,.inr (.inl h3),(by rw[h3];intro z;cases z),(by rw[h4];intro z;cases z)⟩
theorem ie.M3 (C:ie X scope own fr ix cl):∀x∈scope.names,x.2≠.cell:=λx hx=>of_decide_eq_true (List.all_eq_true.mp C.nocell x hx)
theorem ie.J0 (C:ie X scope own fr ix cl):∀x∈scope.names,x.2=.local→scope.names.lookup x.1=some .local:=λx hx e=>by
 have h:=List.all_eq_true.mp C.names x hx;rw[adn] at h;rcases h with h | h
 ·exact absurd e (of_decide_eq_true h)
 ·exact of_decide_eq_true h
theorem ie.sub' (C:ie X scope own fr ix cl):∀x c,cl.lookup x=some c→X.env.cells.lookup x=some c:=λx c h=>C.sub.of _ (lookup_mem h)
theorem ie.has' (C:ie X scope own fr ix cl):∀x,((relabel scope X.env).names.lookup x=some .cell∨(relabel scope X.env).names.lookup x=some .free)→∃c,cl.lookup x=some c:=λx hx=>by
 have key:∀k,(relabel scope X.env).names.lookup x=some k→(k=.cell∨k=.free)→∃c,cl.lookup x=some c:=λk e hk=>by
  have h:=List.all_eq_true.mp C.has (x,k) (lookup_mem e);rw[adn] at h;rcases h with h | h
  ·rcases hk with rfl | rfl
   ·simp at h
   ·simp at h
  ·exact Option.isSome_iff_exists.mp h
 rcases hx with h | h
 ·exact key _ h (.inl rfl)
 ·exact key _ h (.inr rfl)
end
noncomputable def cxC (X:Cx) (scope:Scope) (cl:List (Str×Addr)) (ns:List Str) (fp:List Addr) (s:Shared) (H:Hp):Cx where
 prog:=X.prog
 w:=X.w
 K:=X.K
 mg:=X.mg
 base:=X.base
 A:=X.A
 N:=ns
 s₀:=s
 H₀:=H
 env:=compEnvC scope cl s.heap.objs.size X.env
 outer:=X.stack
 stack:=X.stack
 ex:=fp
 fn:=λ_=>false
 calm:=X.calm
 pn:=[]
 xe:=λ_ _=>False
section
variable {X:Cx} {scope:Scope} {own fr:List Str} {ix:List Nat} {cl:List (Str×Addr)} {pins:List (Addr×Obj)} {σ:St} {H:Hp} {s:Shared} {fp:List Addr}
theorem cxC_ok (C:ie X scope own fr ix cl) (I:Inv X pins σ H s) (f:∀b∈fp,mv X pins H b) (lt:∀b∈fp,b < s.heap.objs.size):(cxC X scope cl (own++fr) fp s H).Ok where
 mod:=I.ok.mod
 kind:=C.kind
 glob:=I.ok.glob
 blt:=I.ok.blt
 above:=aa4 _
 inj:=λx y c h1 h2=>I.ok.inj x y c (C.sub' x c h1) (C.sub' y c h2)
 has:=λx hx=>C.has' x hx
 cab:=λx c h _=>Bool.noConfusion h
 hd:=I.ok.hd
 frames:=I.ok.frames
 stk:=.inl rfl
 exf:=λb hb=>⟨aap (lt b hb),λx c e=>(f b hb).2.2.2.2.1 x c (C.sub' x c e)⟩
 bs:=λb o e=>I.bs b o e
 bsz:=aal I.ok.bsz I.sz
 noex:=λb o e hb=>by
  rcases (f b hb).2.2.2.1 with z | z
  ·exact I.ok.noex b o e z
  ·exact absurd (aah (Heap.lt_size e) (aal I.ok.bsz z)) (abu _)
 exfs:=λb hb z=>by
  rcases List.mem_cons.mp (I.Aj b z) with q | q
  ·exact (f b hb).2.1 q
  ·exact (f b hb).2.2.1 q
 ou:=I.stack
 frf:=I.Cz
theorem G8 (C:ie X scope own fr ix cl) (I:Inv X pins σ H s) (f:∀b∈fp,mv X pins H b) (lt:∀b∈fp,b < s.heap.objs.size) {h₁:Heap} {t:Nat} {m:Str→Option Value}
  (hns:h₁.Ns s.heap.objs.size m) (k:∀b o,s.heap.get? b=some o→h₁.get? b=some o):
  Inv (cxC X scope cl (own++fr) fp s H) [] (abi own.length none++ud ix σ) H { s with heap:=h₁,toks:=t } where
 ok:=cxC_ok C I f lt
 os:=rfl
 bare:=I.bare
 base:=Un.kept k
 loc:=⟨m,hns,λi x v e1 e2 e3=>by
  have e1:(own++fr)[i]?=some x:=e1;by_cases hi:i < own.length
  ·rw[aax (by simpa using hi),adj] at e2;rw[if_pos hi] at e2;cases e2
  ·have hi':own.length≤i:=aek hi;rw[aar (by simpa using hi')] at e2;rw[aar hi'] at e1;rw[ac5] at e2;unfold ud at e2;rw[aae] at e2;cases q:ix[i - own.length]? with
   | none=>rw[q] at e2;cases e2
   | some j=>
    rw[q] at e2;have e2':(σ[j]?).getD none=some v:=aa6 e2;obtain ⟨x',hx',hN,hv,hk,hl'⟩:=C.out _ j q;rw[e1] at hx';cases hx'
    have e4:σ[j]?=some (some v):=by
     cases z:σ[j]? with
     | none=>rw[z] at e2';cases e2'
     | some w=>rw[z] at e2';exact congrArg some e2'
    obtain ⟨mX,hnX,hl⟩:=I.loc;obtain ⟨u,r,l⟩:=hl j x v hN e4 hv;rcases l with ⟨kl,_⟩ | ⟨kk,c,ec,z⟩
    ·exact absurd kl hk
    ·have kY:(relabel scope X.env).names.lookup x=some .cell∨(relabel scope X.env).names.lookup x=some .free:=by
      rcases e3 with e3 | e3 | e3
      ·exact absurd e3 hl'
      ·exact .inl e3
      ·exact .inr e3
     obtain ⟨c',hc'⟩:=C.has' x kY;have hcc:=C.sub' x c' hc';rw[ec] at hcc;cases hcc
     obtain ⟨o,ho,hd⟩:=z;exact ⟨u,r,.inr ⟨kY,c,hc',⟨o,k c o ho,hd⟩⟩⟩⟩
 cell:=λx c e=>by
  obtain ⟨v,o,ho,hd⟩:=I.cell x c (C.sub' x c e);exact ⟨v,o,k c o ho,hd⟩
 free:=I.hok.fresh (aa4 _)
 freeC:=λx c e=>I.freeC x c (C.sub' x c e)
 pin:=λp hp=>by cases hp
 hok:=I.hok.kept k
 len:=by
  show (abi own.length none++ud ix σ).length=(own++fr).length
  rw[aa5,aa5,ac5,C.len];unfold ud;rw[aa3]
theorem Hu (I:Inv X pins σ H s) (f:∀b∈fp,mv X pins H b) {ns:List Str} {τ:St} {H':Hp} {s':Shared} {pins':List (Addr×Obj)} (J:Inv (cxC X scope cl ns fp s H) pins' τ H' s'):Inv X pins σ H' s':=
 I.call' (ch:=fp) J.os J.base J.hok J.bare λb hb=>⟨(f b hb).2.2.2.1,(f b hb).2.1,(f b hb).2.2.2.2.1,(f b hb).2.2.2.2.2⟩
theorem yi {σ':St} (I:Inv X pins σ H s) {H':Hp} {s':Shared} {h':Heap} (J:Inv X pins σ' H' s') (free:H' s.heap.objs.size=none) (sb:Heap.SameBut s.heap.objs.size s'.heap h'):Inv X pins σ' H' { s' with heap:=h' }:=
 J.turned (it:=s.heap.objs.size) (t':=s'.toks) (λb o hb e=>(sb.2 b hb).trans e) free (ac4 I.lt) (.inr I.sz)
  (λx c e z=>by
   obtain ⟨v,q⟩:=I.cell x c e;exact absurd (z ▸ q.lt) (abu _))
  (λp hp z=>absurd (z ▸ Heap.lt_size (I.pin p hp).1) (abu _))
end
section
variable {prog:Program} {w:World} {A:Around} {R:Result→Shared→Prop} {s:Shared}
theorem wq {elt target iter:Expr} {ifs:List Expr} {scope:Scope} {pos:Pos} {it acc:Value} {env:Env} (I:Nat→Shared→Prop)
  (turn:∀n s,I n s→wpAny (model prog w) A (pyNext it) (λr s₁=>match r with
   | none=>R (.ok .next) s₁
   | some v=>wpAny (model prog w) A (letOwnedTupleGo target it v) (λ_ s₁'=>wpAny (model prog w) A (assign target env v) (λ_ s₂=>
     wpAny (model prog w) A (forIn ifs true λc r=>if r=true then do let ok ←isTrue c env (eval c env);pure (ForInStep.yield ok) else pure (ForInStep.yield r)) (λok s₃=>
      if ok=true then wpAny (model prog w) A (eval elt env) (λx s₄=>
       wpAny (model prog w) A (call (.builtin "list.append") [acc,x]) (λ_ s₅=>∃m,m < n∧I m s₅) (notedBy (model prog w) A env λe s'=>R (.error e) s') s₄) (notedBy (model prog w) A env λe s'=>R (.error e) s') s₃
      else ∃m,m < n∧I m s₃) (notedBy (model prog w) A env λe s'=>R (.error e) s') s₂) (notedBy (model prog w) A env λe s'=>R (.error e) s') s₁') (notedBy (model prog w) A env λe s'=>R (.error e) s') s₁)
    (notedBy (model prog w) A env λe s'=>R (.error e) s') s)
  (n:Nat) (h:I n s):
  codeAny (model prog w) A (.compLoop (.ListComp elt [⟨target,iter,ifs,0⟩] scope pos) 0 it acc env) R s:=by
 refine codeAny_loop rfl I (λn s hI=>?_) n h;show wpAny _ A ((compTurn (.ListComp elt [⟨target,iter,ifs,0⟩] scope pos) 0 it acc env).onRaise (λx=>do noteFrame x env;theTreesLotGoes x)) _ _ s
 refine wpAny_noted ?_;rw[compTurn_list];refine wpAny_bind (wpAny_standAt (wpAny_bind (wpAny_mono (turn n s hI) (λr s₁ h₁=>?_) λ_ _ h'=>h')));cases r with
 | none=>exact wpAny_pure h₁
 | some v=>
  refine wpAny_bind (wpAny_mono h₁ (λ_ s₁' h₁'=>?_) λ_ _ h'=>h');refine wpAny_bind (wpAny_mono h₁' (λ_ s₂ h₂=>wpAny_bind (wpAny_mono h₂ (λok s₃ h₃=>?_) λ_ _ h'=>h')) λ_ _ h'=>h');cases ok with
  | false=>exact wpAny_pure ⟨rfl,h₃⟩
  | true=>
   exact wpAny_bind (wpAny_bind (wpAny_mono h₃ (λx s₄ h₄=>wpAny_bind (wpAny_mono h₄ (λ_ s₅ h₅=>wpAny_pure (wpAny_pure ⟨rfl,h₅⟩)) λ_ _ h'=>h')) λ_ _ h'=>h'))
end
def PIfs (X:Cx) (ifs:List Expr) (t:TT):Prop:=
 ∀(pins:List (Addr×Obj)) (s:Shared) (σ:St) (H:Hp) (Q:Bool→Hp→Prop),Inv X pins σ H s→t σ H Q→
  wpAny (model X.prog X.w) X.A (forIn ifs true λc r=>if r=true then do let ok ←isTrue c X.env (eval c X.env);pure (ForInStep.yield ok) else pure (ForInStep.yield r)) (TP X pins σ Q) X.xe s
def tNoIf:TT:=λ_ H Q=>Q true H
theorem zg {X:Cx}:PIfs X [] tNoIf:=λpins s σ H Q I h=>wpAny_tests_nil ⟨H,I,h⟩
theorem pif1 {X:Cx} {c:Expr} {t:TT} (h:PT X c t):PIfs X [c] t:=λpins s σ H Q I q=>wpAny_tests_one (h pins s σ H Q I q)
def LC (n:Nat) (fr:St) (g:TG) (tc:TT) (te:TE) (J:It) (D:Addr) (H1:Hp) (Q:Hp→Prop):Prop:=
 ∃W:Nat→Nat→Hp→Prop,(∃m,W 0 m (upd H1 D (.lst [])))∧∀i m H,W i m H→
  (J.stop i H∧Q H)∨(J.go i H∧∀(τ:St) x H',τ.length=n→J.yld i H x H'→g x (τ++fr) H' λσ2 H2=>(∃τ':St,τ'.length=n∧σ2=τ'++fr)∧tc σ2 H2 λb H3=>
   if b=true then te σ2 H3 λy H4=>∃ys,H4 D=some (.lst ys)∧ys.length < sizeLine∧∃m',m' < m∧W (i+1) m' (upd H4 D (.lst (ys++[y]))) else ∃m',m' < m∧W (i+1) m' H3)
def tLC (n:Nat) (ix:List Nat) (wi:TI) (g:TG) (tc:TT) (te:TE):TE:=λσ H Q=>wi σ H λJ H1=>∀D,H1 D=none→LC n (ud ix σ) g tc te J D H1 λH'=>Q (.ref D) H'
section
variable {X:Cx} {scope:Scope} {own fr:List Str} {ix:List Nat} {cl:List (Str×Addr)} {elt iter tg:Expr} {ifs:List Expr} {pos:Pos} {wi:TI} {g:TG} {tc:TT} {te:TE}
theorem tq {E:Value→Shared→Prop} {RR:Value→Addr→Result→Shared→Prop} (C:ie X scope own fr ix cl) (hc:X.calm=true)
  (hg:∀fp s H,PG (cxC X scope cl (own++fr) fp s H) tg g) (ht:∀fp s H,PIfs (cxC X scope cl (own++fr) fp s H) ifs tc) (he:∀fp s H,PE (cxC X scope cl (own++fr) fp s H) elt te)
  {pins:List (Addr×Obj)} {σ:St} {H2:Hp} {s2:Shared} {it:Addr} {fp:List Addr} {tn:Nat→Heap→Prop} {J:It} {Q:Hp→Prop} (I2:Inv X pins σ H2 s2) (T:Turn X.prog X.w X.K tg J fp it tn) (st2:tn 0 s2.heap) (f2:∀b∈fp,mv X pins H2 b)
  (q:LC own.length (ud ix σ) g tc te J s2.heap.objs.size H2 Q)
  (hRR:∀(s3 s':Shared) (H3 H':Hp) (τ:St),Inv X pins σ H3 s3→Inv X pins σ H' s'→H' s3.heap.objs.size=none→(∃m,s'.heap.Ns s3.heap.objs.size m)→Q H'→RR (.ref s2.heap.objs.size) s3.heap.objs.size (.ok .next) s'):
  wpAny (model X.prog X.w) X.A (newList []) (λacc s₃=>wpAny (model X.prog X.w) X.A (newFunctionEnv scope X.env.globals cl [] X.env.qual none .none (some X.env)) (λcenv s₄=>
   codeAny (model X.prog X.w) X.A (.compStart (.ListComp elt [⟨tg,iter,ifs,0⟩] scope pos) 0 (.ref it) acc { cenv with scope:=relabel scope X.env }) (RR acc cenv.locals) s₄) E s₃) E s2:=by
 refine wpAny_newObj_type ?_;have I3:Inv X pins σ (upd H2 s2.heap.objs.size (.lst [])) { s2 with heap:=s2.heap.push { cls:=.type "list",dict:=none,data:=.seq ([]:List Value).toArray } }:=I2.lnew (t':=s2.toks) (its:=[]) .nil (aac _);have lt2:∀b∈fp,b < s2.heap.objs.size:=λb hb=>by
  obtain ⟨o,e,_⟩:=T.obj 0 _ st2 b hb;exact Heap.lt_size e
 have fneD:∀b∈fp,b≠s2.heap.objs.size:=λb hb=>aap (lt2 b hb);generalize hs3:({ s2 with heap:=s2.heap.push { cls:=.type "list",dict:=none,data:=.seq ([]:List Value).toArray } }:Shared)=s3 at I3 ⊢;have hsz:s3.heap.objs.size=s2.heap.objs.size+1:=by rw[←hs3];exact Heap.size_push ..
 have kp23:∀b o,s2.heap.get? b=some o→s3.heap.get? b=some o:=λb o e=>by rw[←hs3];exact Heap.get?_push_of_some _ e
 have f3:∀b∈fp,mv X pins (upd H2 s2.heap.objs.size (.lst [])) b:=λb hb=>by
  obtain ⟨f0,fr⟩:=f2 b hb;exact ⟨by rw[af (fneD b hb)];exact f0,fr⟩
 have lt3:∀b∈fp,b < s3.heap.objs.size:=λb hb=>by rw[hsz];exact aed (lt2 b hb)
 refine wpAny_newFunctionEnv C.M3 (by intro y hy;simp at hy) (λh₁ hns₁ hsb₁=>?_) C.kind;have k34:∀b o,s3.heap.get? b=some o→h₁.get? b=some o:=λb o e=>
  (hsb₁.2 b (aap (Heap.lt_size e))).trans (Heap.get?_push_of_some _ e)
 have I4:=G8 C I3 f3 lt3 (t:=s3.toks+([]:List (Str×Value)).length) hns₁ k34;have st4:tn 0 h₁:=T.keep 0 _ _ st2 λb _ o e=>k34 b o (kp23 b o e);obtain ⟨W,⟨m0,w0⟩,turn⟩:=q;have loop:∀s4:Shared,s4={ s3 with heap:=h₁,toks:=s3.toks+([]:List (Str×Value)).length }→
   codeAny (model X.prog X.w) X.A (.compLoop (.ListComp elt [⟨tg,iter,ifs,0⟩] scope pos) 0 (.ref it) (.ref s2.heap.objs.size) (compEnvC scope cl s3.heap.objs.size X.env)) (RR (.ref s2.heap.objs.size) s3.heap.objs.size) s4:=by
  rintro s4 rfl;have stat:∀{H':Hp},(∀b∈fp,H' b=none)→∀b∈fp,mv (cxC X scope cl (own++fr) fp s3 (upd H2 s2.heap.objs.size (.lst []))) [] H' b:=λ{H'} hn b hb=>
   ⟨hn b hb,aap (lt3 b hb),I4.ok.exfs b hb,.inl hb,(I4.ok.exf b hb).2,λp hp=>by cases hp⟩
  refine wq (λn s'=>∃i τ H',τ.length=own.length∧Inv (cxC X scope cl (own++fr) fp s3 (upd H2 s2.heap.objs.size (.lst []))) [] (τ++ud ix σ) H' s'∧tn i s'.heap∧(∀b∈fp,H' b=none)∧W i n H') ?_ m0
   ⟨0,abi own.length none,_,ac5,I4,st4,λb hb=>(f3 b hb).1,w0⟩
  rintro n s5 ⟨i,τ,H5,hτ,I5,st5,fr5,w5⟩;rcases turn i n H5 w5 with ⟨stop,qn⟩ | ⟨go,step⟩
  ·refine wpAny_mono (T.done (cxC X scope cl (own++fr) fp s3 (upd H2 s2.heap.objs.size (.lst []))) rfl rfl rfl hc i [] s5 _ H5 (λ_ _=>False) I5 (stat fr5) st5 stop) (λr s6 ⟨hr,I6⟩=>?_) λ_ _ z=>z.elim;subst hr;obtain ⟨mm,hmm,_⟩:=I6.loc;exact hRR s3 s6 _ H5 τ I3 (Hu I3 f3 I6) I6.free ⟨mm,hmm⟩ qn
  ·refine wpAny_mono (T.item (cxC X scope cl (own++fr) fp s3 (upd H2 s2.heap.objs.size (.lst []))) rfl rfl rfl hc i [] s5 _ H5 (λ_ _=>False) I5 (stat fr5) st5 go) (λr s6 ⟨u,hr,h6⟩=>?_) λ_ _ z=>z.elim;subst hr;refine wpAny_mono h6 (λ_ s7 ⟨x,H7,I7,r7,y7,st7,fr7⟩=>?_) λ_ _ z=>z.elim;have I7':=I7.pinned (stat fr7) (T.obj _ _ st7);refine wpAny_mono (hg fp s3 _ _ s7 _ H7 x u _ I7' r7 (step τ x H7 hτ y7)) (λ_ s8 ⟨σ8,H8,I8,⟨τ',hτ',e8⟩,q8⟩=>?_) λ_ _ z=>z.elim;have fin:∀{H9:Hp} {s9:Shared},Inv (cxC X scope cl (own++fr) fp s3 (upd H2 s2.heap.objs.size (.lst []))) ([]++tw fp s7.heap) σ8 H9 s9→(∃m',m' < n∧W (i+1) m' H9)→
     ∃m,m < n∧∃i τ H',τ.length=own.length∧Inv (cxC X scope cl (own++fr) fp s3 (upd H2 s2.heap.objs.size (.lst []))) [] (τ++ud ix σ) H' s9∧tn i s9.heap∧(∀b∈fp,H' b=none)∧W i m H':=λ{H9 s9} I9 hw=>by
    obtain ⟨m',hm,w9⟩:=hw;refine ⟨m',hm,i+1,τ',H9,hτ',e8 ▸ I9.lh,T.keep _ _ _ st7 λb hb o e=>(I9.pin (b,o) (aaw _ (aaw _ (g9 hb e)))).1,λb hb=>?_,w9⟩;obtain ⟨o,e,d⟩:=T.obj _ _ st7 b hb;exact (I9.pin (b,o) (aaw _ (aaw _ (g9 hb e)))).2.1
   refine wpAny_mono (ht fp s3 _ _ s8 σ8 H8 _ I8 q8) (λok s9 ⟨H9,I9,q9⟩=>?_) λ_ _ z=>z.elim;cases ok with
   | false=>exact fin I9 q9
   | true=>
    refine wpAny_mono (he fp s3 _ _ s9 σ8 H9 _ I9 q9) (λy s10 ⟨v10,H10,I10,r10,ys,hD,hz,q10⟩=>?_) λ_ _ z=>z.elim;refine wpAny_mono (u4 (X:=cxC X scope cl (own++fr) fp s3 (upd H2 s2.heap.objs.size (.lst []))) _ s10 σ8 H10 (.ref s2.heap.objs.size) [v10] _ [y] (λ_ H'=>∃m',m' < n∧W (i+1) m' H') I10 rfl (.cons r10 .nil) ⟨_,ys,v10,rfl,rfl,hD,hz,q10⟩) (λ_ s11 ⟨_,H11,I11,_,q11⟩=>?_) λ_ _ z=>z.elim;exact fin I11 q11
 exact codeAny_compStart_list (loop _ rfl) (T.self _ 0 _ _ _ st4 (loop _ rfl))
theorem pe_lc (C:ie X scope own fr ix cl) (hc:X.calm=true) (hi:PI X tg iter wi) (hg:∀fp s H,PG (cxC X scope cl (own++fr) fp s H) tg g)
  (ht:∀fp s H,PIfs (cxC X scope cl (own++fr) fp s H) ifs tc) (he:∀fp s H,PE (cxC X scope cl (own++fr) fp s H) elt te)
  (hs:∀x,foldedSetIterable iter X.env x=pure x:=by intro _;rfl):PE X (.ListComp elt [⟨tg,iter,ifs,0⟩] scope pos) (tLC own.length ix wi g tc te):=by
 intro pins s σ H Q I h;rw[eval_ListComp];refine wpAny_comprehension_free (use:=none) rfl hs C.clos C.kind C.J0 (thn (hi pins s σ H _ I h) λv s1 h1=>thn h1 λitv s2 h2=>?_);obtain ⟨it,fp,tn,J,H2,e,I2,T,st2,f2,q⟩:=h2;subst e;refine tq (RR:=λacc D=>compPost (model X.prog X.w) X.A X.xe none (EP X pins σ Q) acc D) C hc hg ht he I2 T st2 f2 (q _ (I2.hok.fresh (aa4 _))) λs3 s' H3 H' τ I3 I' hn hm q'=>?_;obtain ⟨m,hm⟩:=hm;exact ⟨m,hm,λh' sb=>⟨.ref s2.heap.objs.size,H',yi I3 I' hn sb,rfl,q'⟩⟩
def Ib (i n:Nat) (ix:List Nat) (wi:TI) (g:TG) (tc:TT) (te:TE):TS:=λD σ H=>wi σ H λJ H1=>∀l,H1 l=none→LC n (ud ix σ) g tc te J l H1 λH'=>D.nx (σ.set i (some (.ref l))) H'
theorem G1 {i:Nat} {x:Str} {px spos:Pos} (hN:X.N.Nodup) (hx:X.N[i]?=some x) (hl:Loc X.env.scope x) (C:ie X scope own fr ix cl) (hc:X.calm=true) (hi:PI X tg iter wi)
  (hg:∀fp s H,PG (cxC X scope cl (own++fr) fp s H) tg g) (ht:∀fp s H,PIfs (cxC X scope cl (own++fr) fp s H) ifs tc) (he:∀fp s H,PE (cxC X scope cl (own++fr) fp s H) elt te)
  (hsw:swapsWith (.ListComp elt [⟨tg,iter,ifs,0⟩] scope pos) (some (.Name x px)) spos.line X.env=pure true:=by rfl)
  (hs:∀x,foldedSetIterable iter X.env x=pure x:=by intro _;rfl) (hf:X.fn x=true∨X.env.scope.names.lookup x=some .local:=by first | exact .inl rfl | exact .inr rfl | assumption):
  PS X (.Assign [.Name x px] (.ListComp elt [⟨tg,iter,ifs,0⟩] scope pos) spos) (Ib i own.length ix wi g tc te):=by
 intro pins s σ H D I h;rw[exec_Assign_Name_used _ _ _ _ hsw];refine wpAny_bind (wpAny_standAt (wpAny_bind ?_));show wpAny _ X.A (do let _ ←comprehension (.ListComp elt [⟨tg,iter,ifs,0⟩] scope pos) scope X.env _ (newList []) false (eval iter X.env) (some (assign (.Name x px) X.env))) _ _ s
 refine wpAny_bind (wpAny_mono (wpAny_comprehension_free (use:=some (assign (.Name x px) X.env)) (Q:=λ_ s'=>SP X pins D .next s') rfl hs C.clos C.kind C.J0
  (thn (hi pins s σ H _ I h) λv s1 h1=>thn h1 λitv s2 h2=>?_)) (λ_ s' hq=>wpAny_pure (wpAny_pure hq)) λ_ _ e=>e)
 obtain ⟨it,fp,tn,J,H2,e,I2,T,st2,f2,q⟩:=h2;subst e;refine tq (RR:=λacc C=>compPost (model X.prog X.w) X.A X.xe (some (assign (.Name x px) X.env)) (λ_ s'=>SP X pins D .next s') acc C) C hc hg ht he I2 T st2 f2 (q _ (I2.hok.fresh (aa4 _))) λs3 s' H3 H' τ I3 I' hn hm q'=>?_;obtain ⟨m,hm⟩:=hm;show wpAny _ X.A (assign (.Name x px) X.env (.ref s2.heap.objs.size)) _ _ _
 refine wpAny_assign_Name (uu I' hN hx hl (v:=.ref s2.heap.objs.size) rfl (λs'' I'' hsb=>?_) hf);obtain ⟨a,sba,ha⟩:=hsb;have hne:s3.heap.objs.size≠a:=by
  rcases ha with rfl | ha
  ·exact ac4 I3.lt
  ·obtain ⟨v,qv⟩:=I3.cell x a ha;exact ac4 qv.lt
 exact ⟨m,hm.sameBut sba hne,λh' sb=>⟨_,H',yi I3 I'' hn sb,q'⟩⟩
end
noncomputable def Its (z:Str):It:=⟨λi _=>i < z.cps.size,λi H x H'=>H'=H∧∃c,z.cps[i]?=some c∧x=.str ⟨#[c]⟩,λi _=>i=z.cps.size⟩
def iStr (tl:TE):TI:=λσ H R=>tl σ H λx H1=>∃z,x=.str z∧R (Its z) H1
theorem range_all (bs:List Bool) (tr:Nat→Bool) (h:∀(i:Nat) b,bs[i]?=some b→tr i=b):(aak bs.length).all tr=bs.all id:=by
 apply Bool.eq_iff_iff.mpr
 constructor
 ·intro h1;refine List.all_eq_true.mpr λb hb=>?_;obtain ⟨i,hi⟩:=List.getElem?_of_mem hb;have hl:i < bs.length:=(List.getElem?_eq_some_iff.mp hi).1;have:=List.all_eq_true.mp h1 i (List.mem_range.mpr hl);rw[h i b hi] at this;exact this
 ·intro h1;refine List.all_eq_true.mpr λi hi=>?_;have hl:i < bs.length:=List.mem_range.mp hi;have hg:bs[i]?=some bs[i]:=aa2 hl;rw[h i _ hg];exact List.all_eq_true.mp h1 _ (abg hl)
section
variable {X:Cx}
theorem fz (hc:X.calm=true):fq X (.builtin "all") (λxs H Q=>∃p bs,xs=[.ref p]∧SqL X.K H p (adh V.bl bs)∧Q (.bl (bs.all id)) H):=by
 intro pins s σ H xs us Q I r h;obtain ⟨p,bs,rfl,hq,q⟩:=h;obtain ⟨u,rfl,rx⟩:=vals1 r;cases rx
 obtain ⟨its,rv,pl,hz⟩:=I.list hq;have hlen:bs.length=its.length:=by rw[←rv.length,aa3]
 refine call_all_walk (wpAny_pyIter_list pl.isList ?_);have hne:p≠s.heap.objs.size:=by
  obtain ⟨o,n,e,_⟩:=pl;exact aap (Heap.lt_size e)
 have I1:Inv X pins σ H { s with heap:=s.heap.push { cls:=.type "list_iterator",data:=.fields #[.ref p,.int 0 0] } }:=I.kept (t':=s.toks) λb o e=>Heap.get?_push_of_some _ e;have fp:=I.kg (H':=H) (aa4 s.heap.objs.size) (I.hok.fresh (aa4 _));obtain ⟨f0,f1,f2,f3,f4,f5⟩:=fp;refine ⟨s.heap.objs.size,_,_,its.toArray.size,_,_,λi=>(bs[i]?).getD false,rfl,Walks.list (A:=X.A.in1) (by show X.A.handled=none;exact I.ok.hd hc) s.heap.objs.size p hne its.toArray,⟨⟨_,Heap.get?_push_size _ rfl,rfl,rfl⟩,?_⟩,?_,λh' tk kk=>?_⟩
 ·obtain ⟨o,ho,r⟩:=pl.isList;exact ⟨o,Heap.get?_push_of_some _ ho,r⟩
 ·intro i v s' Q' E' hv hQ;have hv':its[i]?=some v:=by simpa using hv
  have hi:i < bs.length:=by rw[hlen];exact (List.getElem?_eq_some_iff.mp hv').1
  have hb:(bs.map V.bl)[i]?=some (V.bl bs[i]):=by rw[aae,aa2 hi];rfl
  obtain ⟨u',hu',ru'⟩:=rv.get hb;rw[hv'] at hu';cases hu'
  cases ru'
  dsimp only at hQ;rw[aa2 hi] at hQ;exact wpAny_truthy_bool hQ
 ·rw[aa9,←hlen,range_all bs _ (λi b e=>by rw[e];rfl)];exact ⟨.bl _,H,I1.turned (it:=s.heap.objs.size) (λb o hb e=>kk b o (by simpa using hb) e) f0 f1 f3 f4 f5,rfl,q⟩
end
noncomputable def dg (z:Str) (lo hi:Option Int):Str:=⟨((z.cps.toList.drop (HT.sIx z.length 0 lo)).take (HT.sIx z.length z.length hi - HT.sIx z.length 0 lo)).toArray⟩
theorem Ml (z:Str) (lo hi:Option Int):(dg z lo hi).length≤z.length:=by
 show ((z.cps.toList.drop _).take _).toArray.size≤z.cps.size
 rw[aa9,aad,aao,ab9];omega
theorem Le (n:Nat) (lo:Option Int):(match lo with | none=>(0:Int) | some i=>max 0 (min (if i < 0 then i+(n:Int) else i) n))=((HT.sIx n 0 lo:Nat):Int):=by
 cases lo with
 | none=>rfl
 | some i=>
  show max 0 (min (if i < 0 then i+(n:Int) else i) n)=((HT.sIx n 0 (some i):Nat):Int)
  unfold HT.sIx;by_cases h:i < 0
  ·simp only[h,if_true] <;> omega
  ·simp only[h,if_false] <;> omega
theorem My (n:Nat) (hi:Option Int):(match hi with | none=>(n:Int) | some i=>max 0 (min (if i < 0 then i+(n:Int) else i) n))=((HT.sIx n n hi:Nat):Int):=by
 cases hi with
 | none=>rfl
 | some i=>
  show max 0 (min (if i < 0 then i+(n:Int) else i) n)=((HT.sIx n n (some i):Nat):Int)
  unfold HT.sIx;by_cases h:i < 0
  ·simp only[h,if_true] <;> omega
  ·simp only[h,if_false] <;> omega
theorem mz (lo hi:Option Int) (n:Nat):Builtin.Str.strSliceIndices lo hi 1 n=(aak (HT.sIx n n hi - HT.sIx n 0 lo)).map (HT.sIx n 0 lo+·):=by
 have e:Builtin.Str.strSliceIndices lo hi 1 n=sliceRange (match lo with | none=>(0:Int) | some i=>max 0 (min (if i < 0 then i+(n:Int) else i) n)) (match hi with | none=>(n:Int) | some i=>max 0 (min (if i < 0 then i+(n:Int) else i) n)) 1:=by
  cases lo <;> cases hi <;> rfl
 rw[e,Le n lo,My n hi,sliceRange_one]
theorem Fx (z:Str) (lo hi:Option Int):(⟨((Builtin.Str.strSliceIndices lo hi 1 z.length).filterMap (z.cps[·]?)).toArray⟩:Str)=dg z lo hi:=by
 rw[mz,pick_run];rfl
theorem Ca (z:Str) (lo hi:Option Int) (h:(Builtin.Str.strSliceIndices lo hi 1 z.length).length=z.length):dg z lo hi=z:=by
 rw[mz,aa3,aba] at h;have h1:HT.sIx z.length 0 lo≤z.length:=HT.Bx _ _ (aac _) lo;have h2:HT.sIx z.length z.length hi≤z.length:=HT.Bx _ _ (aa4 _) hi;unfold dg;by_cases h0:z.length=0
 ·have e0:z.cps.toList=[]:=by
   apply acz
   rw[ab9];exact h0
  rw[e0];have e1:z.cps=#[]:=by
   apply Array.eq_empty_of_size_eq_zero
   exact h0
  cases z with
  | mk c=>cases e1;simp
 ·have a:HT.sIx z.length 0 lo=0:=by omega
  have b:HT.sIx z.length z.length hi=z.length:=by omega
  rw[a,b,acg,adi];have e:z.cps.toList.take z.length=z.cps.toList:=by
   apply adq
   rw[ab9];exact aa4 _
  rw[e]
section
variable {X:Cx}
def rSlS:V→Option Int→Option Int→Hp→VK→Prop:=λx lo hi H Q=>∃z,x=.str z∧z.length≤sizeLine∧Q (.str (dg z lo hi)) H
theorem part_of {v:Value} {o:Option Int} (p:IsPart v o):∃l:Option (Int×Tok),partValue l=v∧l.map (·.1)=o:=by
 cases p with
 | none=>exact ⟨none,rfl,rfl⟩
 | int i t=>exact ⟨some (i,t),rfl,rfl⟩
theorem Iy:SlR X rSlS:=by
 intro pins s σ H x v vl vu lo hi sl Q I rx hs pl pu h;obtain ⟨z,rfl,hz,q⟩:=h;obtain ⟨t,rfl⟩:=rx;obtain ⟨l,el,e1⟩:=part_of pl;obtain ⟨u,eu,e2⟩:=part_of pu;subst el eu e1 e2;refine ⟨"str",_,F.slot_str_getitem.lookup,typeIs_str s z t,wpAny_getItem_str_slice (l:=l) (u:=u) (st:=none) hs rfl ?_⟩;unfold sliceMade slicePicked;by_cases c:(((none:Option (Int×Tok)).map (·.1)).getD 1==1&&(Builtin.Str.strSliceIndices (l.map (·.1)) (u.map (·.1)) (((none:Option (Int×Tok)).map (·.1)).getD 1) z.length).length==z.length)=true
 ·rw[if_pos c];rw[abf] at c;have c2:(Builtin.Str.strSliceIndices (l.map (·.1)) (u.map (·.1)) 1 z.length).length=z.length:=eq_of_beq c.2;have e:=Ca z _ _ c2;rw[e] at q;exact ⟨.str z,H,I,⟨t,rfl⟩,q⟩
 ·rw[if_neg c];have e:=Fx z (l.map (·.1)) (u.map (·.1));show ((⟨((Builtin.Str.strSliceIndices (l.map (·.1)) (u.map (·.1)) 1 z.length).filterMap (z.cps[·]?)).toArray⟩:Str).length≤sizeLine∧EP X pins σ Q (.str ⟨((Builtin.Str.strSliceIndices (l.map (·.1)) (u.map (·.1)) 1 z.length).filterMap (z.cps[·]?)).toArray⟩ s.toks) { s with toks:=s.toks+1 })
  rw[e];exact ⟨aal (Ml z _ _) hz,⟨.str _,H,I.tok _,⟨_,rfl⟩,q⟩⟩
theorem qx:∀{ys:List Str} {us:List Value},Vals (ys.map V.str) us→StrsAre us ys
 | [],_,.nil=>.nil
 | y::ys,u::us,.cons r t=>by
  obtain ⟨t',rfl⟩:=r;exact .cons _ _ (qx t)
theorem Ma:MtR X "str.join" (λx xs H Q=>∃sep p ys,x=.str sep∧xs=[.ref p]∧SqL X.K H p (adh V.str ys)∧(ys.map (·.length)).sum+ys.length*sep.length≤1000000∧Q (.str (Txt.join sep ys)) H):=by
 intro pins s σ H x xs v us Q I rx rv h;obtain ⟨sep,p,ys,rfl,rfl,hq,hb,q⟩:=h;obtain ⟨t,rfl⟩:=rx;obtain ⟨u,rfl,ru⟩:=rv.one;cases ru
 obtain ⟨its,r,pl,hz⟩:=I.list hq;exact join_list pl.isList (by simpa using qx r) (by omega) λt' k=>⟨.str _,H,I.tok _,⟨_,rfl⟩,q⟩
theorem zb:fq X (.builtin "isinstance") (λxs H Q=>∃x n t b,xs=[x,.ty n]∧n8 X.K H x t∧PySem.W.kitOne X.K t (.type n)=some b∧Q (.bl b) H):=by
 intro pins s σ H xs us Q I r h;obtain ⟨x,n,t,b,rfl,ty,e,q⟩:=h;obtain ⟨u,u2,rfl,r1,r2⟩:=vals2 r;cases (show u2=Value.type n from r2)
 exact Gd I r1 ty e λtk=>⟨.bl b,H,I.tok tk,rfl,q⟩
end
theorem ab {H:Hp} {p:Addr} (h:H p=none) (o:HO):ag H (upd H p o):=λb u q=>by rw[af (ah q h)];exact q
theorem ag.upd {H H':Hp} {p:Addr} (e:ag H H') (h:H p=none) (o:HO):ag H (L2.upd H' p o):=λb u q=>by rw[af (ah q h)];exact e b u q
theorem ag.tup {K:PySem.W.Frag} {H H':Hp} {a:Addr} {xs:List V} (e:ag H H') (h:SqT K H a xs):SqT K H' a xs:=by
 rcases h with (h | ⟨o,h⟩) | h
 ·exact .inl (.inl (e _ _ h))
 ·exact .inl (.inr ⟨o,e _ _ h⟩)
 ·exact .inr h
def Has (P:Program) (w:World) (K:PySem.W.Frag) (mg:Str→Option Value) (base:Heap) (k:Nat) (x:Str) (ps:List Str) (sp:Sp):Prop:=
 ∃(f:Addr) (fd:FuncData),mi P w K mg base CX0 k f fd ps sp∧Binds K fd ps []∧PySem.W.keepIn K (.ref f)=true∧mg x=some (.ref f)
theorem Has.up {P:Program} {w:World} {K:PySem.W.Frag} {mg:Str→Option Value} {base:Heap} {j k:Nat} {x:Str} {ps:List Str} {sp:Sp} (h:Has P w K mg base j x ps sp) (l:j≤k):Has P w K mg base k x ps sp:=by
 obtain ⟨f,fd,F,r⟩:=h;exact ⟨f,fd,F.mono l,r⟩
def Def (K:PySem.W.Frag) (mg:Str→Option Value) (x:Str) (st:Stmt) (ps:List Str):Prop:=
 ∃(f:Addr) (fd:FuncData),Fun K x x st f fd∧Binds K fd ps []∧mg x=some (.ref f)
theorem Def.has {P:Program} {w:World} {K:PySem.W.Frag} {mg:Str→Option Value} {base:Heap} {k:Nat} {x:Str} {st:Stmt} {N ps:List Str} {sp:Sp} (D:Def K mg x st ps) (S:aj N ps (ae st)) (len:∀vs H Q E,sp vs H Q E→vs.length=ps.length)
  (hbody:∀(f:Addr) (cdv:Value) (A:Around) (outer:List Env) (s:Shared) (H:Hp) (vs:List V) (Q:VK) (E:XK),fi k (A.deeper (envOfC x (ae st) s.heap.objs.size f cdv))→sp vs H Q E→
   ∃t,PSs (ow CX0 P w K mg base N x (ae st) f cdv A outer s H E).nox (ai st) t∧t { nx:=λ_ H'=>Q .non H',rt:=Q } (start N vs) H):Has P w K mg base (k+1) x ps sp:=by
 obtain ⟨f,fd,F,b,m⟩:=D;exact ⟨f,fd,F.ok S len λcdv A outer s H vs Q E hr h=>hbody f cdv A outer s H vs Q E hr h,b,F.kp,m⟩
section
variable {X:Cx} {k:Nat} {ps:List Str} {sp:Sp} {x:Str} {p pos:Pos} {e:Expr} {es:List Expr} {t:TA}
theorem pe_has (h:Has X.prog X.w X.K X.mg X.base k x ps sp) (hr:fi k X.A) (ha:PA X (e::es) t) (hg:Gl X x:=by rfl) (hdb:(x==("__debug__":Str))=false:=by decide+kernel)
  (he:starEach (e::es) X.env=(false,eval e X.env)::starEach es X.env:=by rfl) (hpl:(backTo pos (starEach es X.env)).any (·.1)=false:=by rfl):
  PE X (.Call (.Name x p) (e::es) [] pos) (Gq sp [] E0 t):=by
 obtain ⟨f,fd,F,b,kp,m⟩:=h;exact Lj F hr hg m kp b .nil pass0 ha hdb he hpl
end
theorem Bc {J:It} {fr:St} {tc:TT} {te:TE} {D:Addr} {H1:Hp} {Q:Hp→Prop} (n:Nat) (item:Nat→V) (P:Nat→List V→Prop) (hn:n < sizeLine) (hD:H1 D=none)
  (hgo:∀i H,i < n→ag H1 H→J.go i H) (hyld:∀i H x H',i < n→ag H1 H→J.yld i H x H'→H'=H∧x=item i) (hstop:∀H,ag H1 H→J.stop n H)
  (h0:P 0 [])
  (step:∀i ys H (G:Hp→Prop) (K':V→Hp→Prop),i < n→P i ys→ys.length≤i→ag H1 H→(∀H3,ag H H3→P (i+1) ys→G H3)→(∀y H4,ag H H4→P (i+1) (ys++[y])→K' y H4)→tc ([some (item i)]++fr) H λb H3=>if b=true then te ([some (item i)]++fr) H3 K' else G H3)
  (done:∀ys H,P n ys→ys.length≤n→ag H1 H→H D=some (.lst ys)→Q H):LC 1 fr (cm 0) tc te J D H1 Q:=by
 refine ⟨λi m H=>m=n - i∧i≤n∧∃ys,H D=some (.lst ys)∧P i ys∧ys.length≤i∧ag H1 H,⟨n,by simp,aac _,[],aa,h0,aa4 _,ab hD _⟩,?_⟩;rintro i m H ⟨rfl,hi,ys,hys,hP,hl,hS⟩;by_cases hlt:i < n
 ·refine .inr ⟨hgo i H hlt hS,λτ x H' hτ hy=>?_⟩;obtain ⟨e1,e2⟩:=hyld i H x H' hlt hS hy;subst e1 e2;obtain ⟨a,rfl⟩:∃a,τ=[a]:=List.length_eq_one_iff.mp hτ;refine ⟨⟨[some (item i)],rfl,rfl⟩,step i ys H' (λH3=>∃m',m' < n - i∧m'=n - (i+1)∧i+1≤n∧∃ys,H3 D=some (.lst ys)∧P (i+1) ys∧ys.length≤i+1∧ag H1 H3)
   (λy H4=>∃zs,H4 D=some (.lst zs)∧zs.length < sizeLine∧∃m',m' < n - i∧m'=n - (i+1)∧i+1≤n∧∃ys,upd H4 D (.lst (zs++[y])) D=some (.lst ys)∧P (i+1) ys∧ys.length≤i+1∧ag H1 (upd H4 D (.lst (zs++[y])))) hlt hP hl hS (λH3 q1 q2=>?_) (λy H4 q1 q2=>?_)⟩
  ·exact ⟨n - (i+1),by omega,rfl,hlt,ys,q1 _ _ hys,q2,ack hl,hS.trans q1⟩
  ·refine ⟨ys,q1 _ _ hys,by omega,n - (i+1),by omega,rfl,hlt,ys++[y],aa,q2,?_,(hS.trans q1).upd hD _⟩;rw[aa5,aat];omega
 ·have e:i=n:=by omega
  subst e;exact .inl ⟨hstop H hS,done ys H hP hl hS hys⟩
theorem wb {K:PySem.W.Frag} {a:Addr} {xs:List V} {fr:St} {tc:TT} {te:TE} {D:Addr} {H1:Hp} {Q:Hp→Prop} (P:Nat→List V→Prop) (hS:SqL K H1 a xs) (hn:xs.length < sizeLine) (hD:H1 D=none) (h0:P 0 [])
  (step:∀i x ys H (G:Hp→Prop) (K':V→Hp→Prop),xs[i]?=some x→P i ys→ys.length≤i→ag H1 H→(∀H3,ag H H3→P (i+1) ys→G H3)→(∀y H4,ag H H4→P (i+1) (ys++[y])→K' y H4)→tc ([some x]++fr) H λb H3=>if b=true then te ([some x]++fr) H3 K' else G H3)
  (done:∀ys H,P xs.length ys→ys.length≤xs.length→ag H1 H→H D=some (.lst ys)→Q H):LC 1 fr (cm 0) tc te (Itl K a) D H1 Q:=by
 have at':∀i,i < xs.length→xs[i]?=some (xs.getD i .non):=λi hi=>by
  rw[aaf,aa2 hi];rfl
 exact Bc xs.length (λi=>xs.getD i .non) P hn hD (λi H hi hs=>⟨xs,_,hs.seq hS,at' i hi⟩)
  (λi H x H' hi hs hy=>⟨hy.1,aa6 ((hy.2 xs (hs.seq hS)).symm.trans (at' i hi))⟩) (λH hs=>⟨xs,hs.seq hS,aa4 _⟩) h0
  (λi ys H G K' hi hp hl hs hG hK=>step i _ ys H G K' (at' i hi) hp hl hs hG hK) done
theorem lc_tup {K:PySem.W.Frag} {a:Addr} {xs:List V} {fr:St} {tc:TT} {te:TE} {D:Addr} {H1:Hp} {Q:Hp→Prop} (P:Nat→List V→Prop) (hS:SqT K H1 a xs) (hn:xs.length < sizeLine) (hD:H1 D=none) (h0:P 0 [])
  (step:∀i x ys H (G:Hp→Prop) (K':V→Hp→Prop),xs[i]?=some x→P i ys→ys.length≤i→ag H1 H→(∀H3,ag H H3→P (i+1) ys→G H3)→(∀y H4,ag H H4→P (i+1) (ys++[y])→K' y H4)→tc ([some x]++fr) H λb H3=>if b=true then te ([some x]++fr) H3 K' else G H3)
  (done:∀ys H,P xs.length ys→ys.length≤xs.length→ag H1 H→H D=some (.lst ys)→Q H):LC 1 fr (cm 0) tc te (Itt K a) D H1 Q:=by
 have at':∀i,i < xs.length→xs[i]?=some (xs.getD i .non):=λi hi=>by
  rw[aaf,aa2 hi];rfl
 exact Bc xs.length (λi=>xs.getD i .non) P hn hD (λi H hi hs=>⟨xs,_,hs.tup hS,at' i hi⟩)
  (λi H x H' hi hs hy=>⟨hy.1,aa6 ((hy.2 xs (hs.tup hS)).symm.trans (at' i hi))⟩) (λH hs=>⟨xs,hs.tup hS,aa4 _⟩) h0
  (λi ys H G K' hi hp hl hs hG hK=>step i _ ys H G K' (at' i hi) hp hl hs hG hK) done
theorem Kr {lo:Int} {n:Nat} {fr:St} {tc:TT} {te:TE} {D:Addr} {H1:Hp} {Q:Hp→Prop} (P:Nat→List V→Prop) (hn:n < sizeLine) (hD:H1 D=none) (h0:P 0 [])
  (step:∀(i:Nat) ys H (G:Hp→Prop) (K':V→Hp→Prop),i < n→P i ys→ys.length≤i→ag H1 H→(∀H3,ag H H3→P (i+1) ys→G H3)→(∀y H4,ag H H4→P (i+1) (ys++[y])→K' y H4)→tc ([some (.int (lo+i))]++fr) H λb H3=>if b=true then te ([some (.int (lo+i))]++fr) H3 K' else G H3)
  (done:∀ys H,P n ys→ys.length≤n→ag H1 H→H D=some (.lst ys)→Q H):LC 1 fr (cm 0) tc te (Itr lo n) D H1 Q:=
 Bc n (λi=>.int (lo+i)) P hn hD (λi H hi _=>hi) (λi H x H' hi hs hy=>hy) (λH hs=>aa4 _) h0 step done
section
variable {X:Cx} {x:Str} {pos:Pos}
theorem Ej {a:Addr} (hm:X.mg x=some (.ref a)) (hg:Gl X x:=by rfl) (hd:(x==("__debug__":Str))=false:=by decide+kernel):PE X (.Name x pos) (tC (.ref a)):=Lr hg hm rfl hd
theorem pe_gty {T:String} (hm:X.mg x=none) (hv:bootBuiltins x=some (.type T)) (hg:Gl X x:=by rfl) (hn:x≠"__name__":=by decide+kernel) (hd:(x==("__debug__":Str))=false:=by decide+kernel):PE X (.Name x pos) (tC (.ty T)):=L6 hg hm hv rfl hn hd
end
theorem d8:bootBuiltins "len"=some (.builtin "len"):=by decide+kernel
theorem Ju:bootBuiltins "all"=some (.builtin "all"):=by decide+kernel
theorem b_sum:bootBuiltins "sum"=some (.builtin "sum"):=by decide+kernel
theorem aq:bootBuiltins "isinstance"=some (.builtin "isinstance"):=by decide+kernel
theorem Kg:bootBuiltins "bool"=some (.type "bool"):=by decide+kernel
theorem yv:bootBuiltins "int"=some (.type "int"):=by decide+kernel
theorem lx:bootBuiltins "str"=some (.type "str"):=by decide+kernel
theorem cu:bootBuiltins "tuple"=some (.type "tuple"):=by decide+kernel
theorem xx:bootBuiltins "sorted"=some (.builtin "sorted"):=by decide+kernel
theorem str_eq {a b:Str}:a=b↔a.cps.toList=b.cps.toList:=by
 constructor
 ·intro e;rw[e]
 ·intro e;cases a;cases b
  exact congrArg Str.mk (Array.toList_inj.mp e)
theorem len_list (z:Str):z.length=z.cps.toList.length:=by
 show z.cps.size=_
 rw[ab9]
theorem El {z:Str} {lo hi:Option Int} {c:Nat} (h:c∈(dg z lo hi).cps.toList):c∈z.cps.toList:=by
 unfold dg at h;exact abd (abj (by simpa using h))
theorem cxOf_K {CX:CXT} {P:Program} {w:World} {K:PySem.W.Frag} {mg:Str→Option Value} {base:Heap} {N:List Str} {qual:Str} {scope:Scope} {f:Addr} {cd:Value} {A:Around} {outer:List Env} {s:Shared} {H:Hp} {E:XK}:(ow CX P w K mg base N qual scope f cd A outer s H E).K=K:=rfl
theorem nox_K {X:Cx}:X.nox.K=X.K:=rfl
theorem slen (z:Str):z.length=z.cps.toList.length:=len_list z
inductive jd:List Expr→List V→Prop where
 | nil:jd [] []
 | str {x:Str} {j:Nat} {pos:Pos} {es:List Expr} {vs:List V} (h:jd es vs):jd (.Constant (.str x) j pos::es) (.str x::vs)
 | int {i:Int} {j:Nat} {pos:Pos} {es:List Expr} {vs:List V} (h:jd es vs):jd (.Constant (.int i) j pos::es) (.int i::vs)
def tVals (vs:List V):TA:=λ_ H Q=>Q vs H
theorem Jy {X:Cx} {es:List Expr} {vs:List V} (h:jd es vs):PA X es (tVals vs):=by
 induction h with
 | nil=>exact Jk
 | str _ ih=>exact wj Hj ih
 | int _ ih=>exact wj Kn ih
def vy (g:TG) (tb:TS) (D:Ends) (J:It) (σ:St) (H1:Hp):Prop:=∃W:Nat→Nat→St→Hp→Prop,(∃m,W 0 m σ H1)∧∀i m σ H,W i m σ H→
 (J.stop i H∧D.nx σ H)∨(J.go i H∧∃N:St→Hp→Prop,(∀σ' H',N σ' H'→∃m',m' < m∧W (i+1) m' σ' H')∧∀x H',J.yld i H x H'→g x σ H' λσ2 H2=>tb { D with nx:=N,ct:=N,bk:=D.nx } σ2 H2)
theorem Lw (wi:TI) (g:TG) (tb:TS) (D:Ends) (σ:St) (H:Hp):tFor wi g tb D σ H=wi σ H λJ H1=>vy g tb D J σ H1:=rfl
section
variable {K:PySem.W.Frag} {a:Addr} {xs:List V} {g:TG} {tb:TS} {D:Ends} {σ:St} {H:Hp}
theorem vv (Pv:Nat→St→Hp→Prop) (h0:Pv 0 σ H) (hl:∀i σ H,i≤xs.length→Pv i σ H→SqL K H a xs)
  (hs:∀i x σ H,xs[i]?=some x→Pv i σ H→g x σ H λσ2 H2=>tb { D with nx:=Pv (i+1),ct:=Pv (i+1),bk:=D.nx } σ2 H2) (hd:∀σ H,Pv xs.length σ H→D.nx σ H):vy g tb D (Itl K a) σ H:=Gw Pv h0 hl hs hd
theorem dm (Pv:Nat→St→Hp→Prop) (h0:Pv 0 σ H) (hl:∀i σ H,i≤xs.length→Pv i σ H→SqT K H a xs)
  (hs:∀i x σ H,xs[i]?=some x→Pv i σ H→g x σ H λσ2 H2=>tb { D with nx:=Pv (i+1),ct:=Pv (i+1),bk:=D.nx } σ2 H2) (hd:∀σ H,Pv xs.length σ H→D.nx σ H):vy g tb D (Itt K a) σ H:=Lh Pv h0 hl hs hd
theorem e7 {lo:Int} {n:Nat} (Pv:Nat→St→Hp→Prop) (h0:Pv 0 σ H)
  (hs:∀i σ H,i < n→Pv i σ H→g (.int (lo+i)) σ H λσ2 H2=>tb { D with nx:=Pv (i+1),ct:=Pv (i+1),bk:=D.nx } σ2 H2) (hd:∀σ H,Pv n σ H→D.nx σ H):vy g tb D (Itr lo n) σ H:=Fn Pv h0 hs hd
end
end L2
namespace L2
open PySem PySem.Spec PyProof.Rows Builtin Builtin.Str
def ModD (w:World) (K:PySem.W.Frag) (a:Addr) (kvs:List (Key×V)):Prop:=
 (a==sysModules)=false∧∀(P:Program) (h:Heap),K.In h→∃vs,KV kvs vs∧h.DictOf (ar P w) a vs
abbrev Ck:=Int×Str×Tok×Int×Tok
noncomputable def siE (e:Ck):DictEntry:=⟨e.1,.str e.2.1 e.2.2.1,.int e.2.2.2.1 e.2.2.2.2⟩
theorem yy (P:Program) (w:World):∀es:List Ck,Pairs (ar P w) (es.map siE) (es.map λe=>((Sum.inr e.2.1:Key),Value.int e.2.2.2.1 e.2.2.2.2))
 | []=>.nil
 | e::r=>.cons (ir P w e.2.1 e.2.2.1) rfl (yy P w r)
theorem si_kv:∀es:List Ck,KV (es.map λe=>((Sum.inr e.2.1:Key),V.int e.2.2.2.1)) (es.map λe=>((Sum.inr e.2.1:Key),Value.int e.2.2.2.1 e.2.2.2.2))
 | []=>.nil
 | e::r=>.cons ⟨rfl,⟨_,rfl⟩⟩ (si_kv r)
theorem Mn {w:World} {K:PySem.W.Frag} {a:Addr} {ep:Nat} (es:List Ck) (hl:K.lookup a=some ⟨.type "dict",none,.dict (es.map siE).toArray ep,#[]⟩) (ha:(a==sysModules)=false)
  (hh:∀e∈es,e.1=hashStr w e.2.1) (nd:(es.map λe=>(Sum.inr e.2.1:Key)).Nodup):ModD w K a (es.map λe=>(Sum.inr e.2.1,V.int e.2.2.2.1)):=by
 refine ⟨ha,λP h hk=>⟨_,si_kv es,_,_,ep,hk a _ hl,⟨rfl,rfl,rfl⟩,rfl,λe he=>?_,by simpa using yy P w es,?_⟩⟩
 ·have he':e∈es.map siE:=List.mem_toArray.mp he;obtain ⟨r,hr,rfl⟩:=List.mem_map.mp he';exact ⟨Sum.inr r.2.1,ir P w r.2.1 r.2.2.1,hh r hr⟩
 ·rw[abp];exact nd
section
variable {X:Cx} {a:Addr} {kvs:List (Key×V)}
theorem uf (hc:X.calm=true):fq X (.builtin "sum") (λxs H Q=>∃p ns,xs=[.ref p]∧SqL X.K H p (adh V.int ns)∧Q (.int ns.sum) H):=by
 intro pins s σ H xs us Q I r h;obtain ⟨p,ns,rfl,hq,q⟩:=h;obtain ⟨u,rfl,rx⟩:=vals1 r;cases rx
 obtain ⟨its,rv,pl,hz⟩:=I.list hq;have hi:IntsAre its ns:=L2.intsAre_of rv;obtain ⟨ys,hy⟩:=hi.allInts.items;refine sum_intListG (I.ok.hd hc) (by rw[←hy];exact pl.isList) λh' tk t' hk=>⟨.int ns.sum,H,I.kept hk,⟨t',?_⟩,q⟩;have e:ys.toList.map (·.1)=ns:=by
  rw[←nums_intItems,←hy];exact hi.numsOf
 rw[preSum_eq,adq (by simp),e]
noncomputable def uk:V→Str
 | .str z=>z
 | .int i=>(toString i:String)
 | _=>Str.empty
def wordV:V→Prop
 | .str _=>True
 | .int i=>i.natAbs.log2 < 1920
 | _=>False
theorem wk:fq X (.type "str") (λxs H Q=>∃x,xs=[x]∧wordV x∧Q (.str (uk x)) H):=by
 intro pins s σ H xs us Q I r h;obtain ⟨x,rfl,hw,q⟩:=h;obtain ⟨u,rfl,rx⟩:=vals1 r;cases x with
 | str z=>obtain ⟨t,rfl⟩:=rx;exact PySem.P.str_of_str ⟨.str z,H,I,⟨t,rfl⟩,q⟩
 | int i=>obtain ⟨t,rfl⟩:=rx;exact PySem.P.str_of_int hw ⟨.str _,H,I.tok _,⟨_,rfl⟩,q⟩
 | _=>exact hw.elim
end
end L2
namespace L2
open PySem PySem.Spec PyProof.Rows
section
variable {X:Cx} (K:PySem.W.Frag) (hK:X.K=K)
include hK
theorem pf:IxR X (rIxT K):=by subst hK;exact fg
end
def tMid (t u:TS):TS:=λD σ H=>∃M:St→Hp→Prop,t { D with nx:=M } σ H∧∀σ' H',M σ' H'→u D σ' H'
theorem ji {t u:TS} {D:Ends} {σ:St} {H:Hp} (M:St→Hp→Prop) (h1:t { D with nx:=M } σ H) (h2:∀σ' H',M σ' H'→u D σ' H'):tMid t u D σ H:=⟨M,h1,h2⟩
section
variable {X:Cx} {st:Stmt} {rest:List Stmt} {t u:TS}
theorem Li (h1:PS X st t) (h2:PSs X rest u):PSs X (st::rest) (tMid t u):=by
 intro pins s σ H D I h;obtain ⟨M,h,hM⟩:=h;refine wpAny_execs_cons (thn (h1 pins s σ H { D with nx:=M } I h) λf s1 q=>?_);cases f with
 | next=>
  obtain ⟨σ',H',I',q⟩:=q;exact h2 pins s1 σ' H' D I' (hM σ' H' q)
 | ret v=>exact q
 | brk=>exact q
 | cont=>exact q
end
theorem Mk {K:PySem.W.Frag} {z:Str} {H:Hp}:tyV K "str" (.str z) H=True:=eq_true rfl
theorem bq {K:PySem.W.Frag} {a:Addr} {xs:List V} {H:Hp} (h:H a=some (.lst xs)):tyV K "list" (.ref a) H:=.inl ⟨rfl,xs,SqL.of h⟩
theorem J3 {K:PySem.W.Frag} {a:Addr} {kvs:List (Key×V)} {H:Hp} (h:H a=some (.dK kvs)):tyV K "dict" (.ref a) H:=.inr (.inr (.inl ⟨rfl,.inl ⟨kvs,h⟩⟩))
theorem de {K:PySem.W.Frag} {H:Hp} {t:Addr} {xs:List V} {i:Int} {v:V} {Q:VK} (h:H t=some (.tup xs)) (hv:atI xs i=some v) (q:Q v H):rIxT K (.ref t) (.int i) H Q:=⟨t,xs,i,v,rfl,rfl,SqT.of h,hv,q⟩
theorem aw {K:PySem.W.Frag} {H:Hp} {t:Addr} {xs:List V} {i:Int} {v:V} {Q:VK} (h:H t=some (.lst xs)) (hv:atI xs i=some v) (q:Q v H):rIxL K (.ref t) (.int i) H Q:=⟨t,xs,i,v,rfl,rfl,SqL.of h,hv,q⟩
theorem xp {H:Hp} {a b:Addr} {xs ys:List V} {Q:VK} (h1:H a=some (.lst xs)) (h2:H b=some (.lst ys)) (hz:xs.length+ys.length≤sizeLine) (q:∀p,H p=none→Q (.ref p) (upd H p (.lst (xs++ys)))):rCat (.ref a) (.ref b) H Q:=⟨a,b,xs,ys,rfl,rfl,h1,h2,hz,q⟩
theorem bh {K:PySem.W.Frag} {H:Hp} {l:Addr} {xs:List V} {y:V} {Q:VK} (h:H l=some (.lst xs)) (hz:xs.length < sizeLine) (q:Q .non (upd H l (.lst (xs++[y])))):tyV K "list" (.ref l) H∧m4 (.ref l) [y] H Q:=
 ⟨bq h,l,xs,y,rfl,rfl,h,hz,q⟩
end L2
namespace HT
open PySem PySem.Spec PyProof.Rows L2
section
variable {prog:Program} {w:World} {A:Around} {E:Value→Shared→Prop} {s:Shared}
theorem Jx {t b:Addr} {vs ws:List Value} {Q:Value→Shared→Prop} (ht:IsTup s.heap t vs.toArray) (hb:IsTup s.heap b ws.toArray) (hv:vs=[]) (h1:Q (.ref b) s):wpAny (model prog w) A (binaryOp .Add (.ref t) (.ref b)) Q E s:=by
 obtain ⟨⟨cls,dd,data,sl⟩,ho,hc,n,hd⟩:=id ht;obtain ⟨⟨cls2,dd2,data2,sl2⟩,ho2,hc2,n2,hd2⟩:=id hb;simp only at hc hd hc2 hd2;subst hc hd hc2 hd2;exact concat_meets ⟨_,ho,rfl⟩ ⟨_,ho2,rfl⟩ noFill_tuple_add seq_tuple_add PySem.F.slot_tuple_add PySem.F.entry_tuple_add (PySem.F.args_tuple_add_2 _ _)
  (tuple_addW0 t b vs.toArray ws.toArray n n2 dd dd2 sl sl2 (by simp[hv])) ⟨ho,ho2,h1⟩
theorem jt {t sl:Addr} {items:Array Value} {vl vu:Value} {lo hi:Option Int} {Q:Value→Shared→Prop} (ht:IsTup s.heap t items) (hs:s.heap.IsSliceOf sl vl vu .none) (pl:IsPart vl lo) (pu:IsPart vu hi)
  (hw:sIx items.size 0 lo=0∧sIx items.size items.size hi=items.size) (h:Q (.ref t) s) (hsz:items.size≤sizeLine):wpAny (model prog w) A (getItem (.ref t) (.ref sl)) Q E s:=by
 obtain ⟨os,hos,hcs,hds⟩:=id hs;have hTs:s.TypeIs (.ref sl) "slice":=⟨os,hos,hcs⟩;unfold getItem;try with_reducible refine wpAny_holding ?_
 first | refine wpAny_bind (wpAny_pure ?_) | skip
 refine wpAny_bind (wpAny_sequenceKey ht.typeIs (by decide) ?_);refine wpAny_bind (wpAny_callSpecial?_slot (name:=Str.ofString "__getitem__") ht.typeIs PyProof.Rows.slot_tuple_getitem
  (wpAny_call_entry PyProof.Rows.slot_tuple_getitem ht.typeIs entry_tuple_getitem ?_ (args_tuple_getitem _ _)))
 show wpAny _ _ (Builtin.Tuple.tupleItemsOf (.ref t) >>=_) _ _ s
 refine wpAny_bind (tupleItemsOf_ ht ?_);refine wpAny_bind (wpAny_typeOf hTs ?_);rw[if_pos (by decide)];refine wpAny_bind (gd hs pl pu ?_);have hyes:((((sIx items.size 0 lo:Nat):Int)==0&&(1:Int)==1&&(sIx items.size items.size hi - sIx items.size 0 lo)==items.size)=true):=by
  rw[hw.1,hw.2];simp
 show wpAny _ _ (if (((sIx items.size 0 lo:Nat):Int)==0&&(1:Int)==1&&(sIx items.size items.size hi - sIx items.size 0 lo)==items.size)=true then _ else _) _ _ s
 rw[if_pos hyes];refine wpAny_bind ?_;show wpAny _ _ (typeOf (.ref t) >>=λv=>pure (v==.type "tuple")) _ _ s
 refine wpAny_bind (wpAny_typeOf ht.typeIs (wpAny_pure ?_));rw[if_pos (by decide)];refine wpAny_bind (wpAny_rule ?_);first
  | exact wpAny_bind (wpAny_pure (wpAny_pure ⟨_,rfl,wpAny_pure h⟩))
  | exact wpAny_pure ⟨_,rfl,wpAny_pure h⟩
  | exact wpAny_bind (wpAny_pure ⟨_,rfl,wpAny_pure h⟩)
end
end HT
namespace L2
open PySem PySem.Spec PyProof.Rows
section
variable {X:Cx}
def C9:R2:=λx y H Q=>∃a b xs ys,x=.ref a∧y=.ref b∧H a=some (.tup xs)∧H b=some (.tup ys)∧xs.length+ys.length≤sizeLine∧∀p H',ag H H'→H' p=some (.tup (xs++ys))→Q (.ref p) H'
theorem jq:OpR X (binaryOp .Add) C9:=by
 intro pins s σ H x y v u Q I rx ry h;obtain ⟨a,b,xs,ys,rfl,rfl,ha,hb,hz,q⟩:=h;by_cases hx:xs=[]
 ·subst hx;cases rx
  cases ry
  obtain ⟨its,r1,p1,_⟩:=I.tuple (SqT.of ha);obtain ⟨its2,r2,p2,_⟩:=I.tuple (SqT.of hb);exact HT.Jx p1 p2 (r1.pj.mpr rfl) ⟨.ref b,H,I,rfl,q b H (ag.refl H) hb⟩
 ·refine Lg pins s σ H _ _ v u Q I rx ry ⟨a,b,xs,ys,rfl,rfl,SqT.of ha,SqT.of hb,hx,hz,λe=>?_,λ_ p hp=>q p _ (λc o h=>by rw[af (ah h hp)];exact h) aa⟩;subst e;exact q a H (ag.refl H) (by rw[aaz];exact ha)
theorem m7 {H:Hp} {a b:Addr} {xs ys:List V} {Q:VK} (ha:H a=some (.tup xs)) (hb:H b=some (.tup ys)) (hz:xs.length+ys.length≤sizeLine) (q:∀p H',ag H H'→H' p=some (.tup (xs++ys))→Q (.ref p) H'):C9 (.ref a) (.ref b) H Q:=⟨a,b,xs,ys,rfl,rfl,ha,hb,hz,q⟩
def rSlU:V→Option Int→Option Int→Hp→VK→Prop:=λx lo hi H Q=>∃a xs,x=.ref a∧H a=some (.tup xs)∧∀p H',ag H H'→H' p=some (.tup (js xs lo hi))→Q (.ref p) H'
theorem Hc {xs:List V} {lo hi:Option Int} (h:HT.sIx xs.length 0 lo=0∧HT.sIx xs.length xs.length hi=xs.length):js xs lo hi=xs:=by
 unfold js;rw[h.1,h.2,acg,adi,aau]
theorem Lp:SlR X rSlU:=by
 intro pins s σ H x v vl vu lo hi sl Q I rx hs pl pu h;obtain ⟨a,xs,rfl,ha,q⟩:=h;by_cases hw:HT.sIx xs.length 0 lo=0∧HT.sIx xs.length xs.length hi=xs.length
 ·cases rx
  obtain ⟨its,r,ht,hz⟩:=I.tuple (SqT.of ha);have hlen:its.toArray.size=xs.length:=by rw[aa9];exact r.length.symm
  exact ⟨"tuple",_,PyProof.Rows.slot_tuple_getitem.lookup,ht.typeIs,HT.jt ht hs pl pu (by rw[hlen];exact hw) ⟨.ref a,H,I,rfl,q a H (ag.refl H) (by rw[Hc hw];exact ha)⟩ (by rw[hlen];exact hz)⟩
 ·exact sl_tup pins s σ H _ v vl vu lo hi sl Q I rx hs pl pu ⟨a,xs,rfl,SqT.of ha,hw,λp hp=>q p _ (λc o h=>by rw[af (ah h hp)];exact h) aa⟩
theorem Ky {H:Hp} {a:Addr} {xs:List V} {lo hi:Option Int} {Q:VK} (ha:H a=some (.tup xs)) (q:∀p H',ag H H'→H' p=some (.tup (js xs lo hi))→Q (.ref p) H'):rSlU (.ref a) lo hi H Q:=⟨a,xs,rfl,ha,q⟩
theorem Dd (k:Key):gi (kV k)=true:=by cases k <;> rfl
theorem eqV_kV (a b:Key):eqV (kV a) (kV b)=decide (a=b):=by
 cases a <;> cases b <;> simp[eqV,kV] <;> exact adw _ _
theorem vd {A:Around} {s:Shared} {as bs:List Key} {us ws:List Value} (r1:Vals (as.map kV) us) (r2:Vals (bs.map kV) ws) (j:Nat) (h1:j < us.toArray.size) (h2:j < ws.toArray.size):
  SeqAt.EqAt A s us.toArray[j] ws.toArray[j] (decide (as[j]?=bs[j]?)):=by
 have l1:=r1.length;have l2:=r2.length;rw[aa3] at l1 l2;have j1:j < as.length:=by rw[l1];simpa using h1
 have j2:j < bs.length:=by rw[l2];simpa using h2
 obtain ⟨u,hu,ru⟩:=r1.get (i:=j) (x:=kV as[j]) (by rw[aae,aa2 j1];rfl);obtain ⟨w,hw,rw'⟩:=r2.get (i:=j) (x:=kV bs[j]) (by rw[aae,aa2 j2];rfl);have e1:us.toArray[j]=u:=by
  have:us[j]'(by simpa using h1)=u:=by rw[aa2 (by simpa using h1)] at hu;exact aa6 hu
  simpa using this
 have e2:ws.toArray[j]=w:=by
  have:ws[j]'(by simpa using h2)=w:=by rw[aa2 (by simpa using h2)] at hw;exact aa6 hw
  simpa using this
 rw[e1,e2,aa2 j1,aa2 j2];have e3:decide (some as[j]=some bs[j])=eqV (kV as[j]) (kV bs[j]):=by
  rw[eqV_kV];apply decide_eq_decide.mpr
  exact ⟨λh=>aa6 h,λh=>by rw[h]⟩
 rw[e3];exact Kk ru rw' (Dd _) (Dd _)
end
section
variable {X:Cx} {k:Nat} {ps:List Str} {sp:Sp} {x:Str} {p pos:Pos} {e:Expr} {es:List Expr} {t:TA}
def FnV (P:Program) (w:World) (K:PySem.W.Frag) (mg:Str→Option Value) (base:Heap) (k:Nat) (ps:List Str) (sp:Sp) (v:V):Prop:=
 ∃(f:Addr) (fd:FuncData),v=.ref f∧mi P w K mg base CX0 k f fd ps sp∧Binds K fd ps []∧PySem.W.keepIn K (.ref f)=true
theorem Has.val {P:Program} {w:World} {K:PySem.W.Frag} {mg:Str→Option Value} {base:Heap} (h:Has P w K mg base k x ps sp):∃a,mg x=some (.ref a)∧FnV P w K mg base k ps sp (.ref a):=by
 obtain ⟨f,fd,F,b,kp,m⟩:=h;exact ⟨f,m,f,fd,rfl,F,b,kp⟩
def Hz (P:Program) (w:World) (K:PySem.W.Frag) (mg:Str→Option Value) (base:Heap) (k:Nat) (ps:List Str) (i:Nat) (t:TA):TE:=λσ H Q=>∃v sp,σ[i]?=some (some v)∧FnV P w K mg base k ps sp v∧t σ H λvs H1=>sp vs H1 Q E0
theorem Ko (i:Nat) (ps:List Str) (hN:X.N[i]?=some x) (hv:Vis X.env.scope x) (hr:fi k X.A) (ha:PA X (e::es) t) (hd:(x==("__debug__":Str))=false:=by decide+kernel) (hcd:(x==("__classdict__":Str))=false:=by decide+kernel)
  (he:starEach (e::es) X.env=(false,eval e X.env)::starEach es X.env:=by rfl) (hpl:(backTo pos (starEach es X.env)).any (·.1)=false:=by rfl):
  PE X (.Call (.Name x p) (e::es) [] pos) (Hz X.prog X.w X.K X.mg X.base k ps i t):=by
 intro pins s σ H Q I h;obtain ⟨v,sp,hσ,⟨f,fd,rfl,F,hb,hk⟩,h⟩:=h;refine wpAny_Call_Name_kw (thn (Kh (pos:=p) hN hv hd hcd pins s σ H (λy H1=>y=.ref f∧H1=H) I ⟨_,hσ,rfl,rfl⟩) λu s1 ⟨y,H1,I1,ry,ey,eH⟩=>?_);subst ey eH;cases (show u=Value.ref f from ry)
 refine PySem.W.callWith_K (h₀:=X.base) I1.ok.mod.kin hk (thn (ha pos pins s1 σ H1 _ I1 h) λus s2 ⟨vs,H2,I2,r,q⟩=>⟨I2.kIn,?_⟩) he hpl;exact Kp F hr hb .nil pass0 I2 r (by rw[aaz];exact q)
end
noncomputable def Itv (K:PySem.W.Frag) (a:Addr) (n:Nat):It:=
 ⟨λi H=>i < n∧∃xs,SqL K H a xs∧xs.length=n,λi H x H'=>H'=H∧∀xs,SqL K H a xs→xs[n - 1 - i]?=some x,λi H=>i=n⟩
theorem Jc {P:Program} {w:World} {K:PySem.W.Frag} {tg:Expr} (a it:Addr) (n:Nat):Turn P w K tg (Itv K a n) [it] it (λi h=>i≤n∧h.IsRevIter it a ((n:Int) - 1 - (i:Int))) where
 mem:=by simp
 obj:=λi h st b hb=>by
  have e:b=it:=by simpa using hb
  subst e;obtain ⟨_,o,e,c,d⟩:=st;exact ⟨o,e,λv z=>by rw[d] at z;cases z⟩
 keep:=λi h h' st k=>⟨st.1,st.2.at λo e=>k it (by simp) o e⟩
 item:=by
  intro X hP hw hK hc i pins s σ H E I hf st hg;subst hP hw hK;obtain ⟨hi,xs,hq,hn⟩:=hg;have hx:xs[n - 1 - i]?=some (xs[n - 1 - i]'(by omega)):=aa2 (by omega);obtain ⟨its,rv,p,hz⟩:=I.list hq;obtain ⟨u,hu,ru⟩:=rv.get hx;obtain ⟨f0,f1,f2,f3,f4,f5⟩:=hf it (by simp);have e:(n:Int) - 1 - (i:Int)=((n - 1 - i:Nat):Int):=by omega
  have st2:=st.2;rw[e] at st2;refine wpAny_pyNext_rev_item st2 p.isList (x:=u) (by simpa using hu) λh' st' sb=>?_;have e2:((n - 1 - i:Nat):Int) - 1=(n:Int) - 1 - ((i+1:Nat):Int):=by omega
  rw[e2] at st';have I1:Inv X pins σ H { s with heap:=h' }:=I.turned (t':=s.toks) (λb o hb e=>(sb.2 b hb).trans e) f0 f1 f3 f4 f5;obtain ⟨o,e,c,d⟩:=id st';exact ⟨u,rfl,zi (s:={ s with heap:=h' }) e c d (by decide) ⟨_,H,I1,ru,⟨rfl,λys hy=>by rw[I.ng hy hq];exact hx⟩,⟨hi,st'⟩,λb hb=>(hf b hb).1⟩⟩
 done:=by
  intro X hP hw hK hc i pins s σ H E I hf st hg;subst hP hw hK;obtain ⟨f0,f1,f2,f3,f4,f5⟩:=hf it (by simp);have hg:i=n:=hg;subst hg;have e:(i:Int) - 1 - (i:Int)=-1:=by omega
  have st2:=st.2;rw[e] at st2;exact wpAny_pyNext_rev_end (I.ok.hd hc) st2 λh' eb=>⟨rfl,I.turned (t':=s.toks) (λb o hb e=>eb b o hb e) f0 f1 f3 f4 f5⟩
 self:=λ_ _ _ _ _ st h=>wpAny_pyIter_revIter st.2 h
def iRev (K:PySem.W.Frag) (ta:TA):TI:=λσ H R=>ta σ H λvs H1=>∃a xs,vs=[.ref a]∧SqL K H1 a xs∧R (Itv K a xs.length) H1
theorem Ce:bootBuiltins "reversed"=some (.type "reversed"):=by decide+kernel
section
variable {X:Cx} {tg:Expr}
theorem pi_rev {a:Expr} {ta:TA} {p pos:Pos} (hg:Gl X "reversed") (hm:X.mg "reversed"=none) (ha:PA X [a] ta) (hs:starEach [a] X.env=[(false,eval a X.env)]:=by rfl):PI X tg (.Call (.Name "reversed" p) [a] [] pos) (iRev X.K ta):=by
 intro pins s σ H R I h;refine Call_ (il I hg hm Ce (PyProof.Rows.callWith_type1 (thn (ha pos pins s σ H _ I h) λus s1 ⟨vs,H1,I1,r1,q1⟩=>?_) hs rfl));obtain ⟨l,xs,e,hq,q⟩:=q1;subst e;cases r1 with
 | cons r rr=>
  cases rr
  cases (show _=Value.ref l from r)
  obtain ⟨its,rv,pl,hz⟩:=I1.list hq;refine call_reversed_list pl.isList ?_;have hlen:((its.toArray.size:Nat):Int) - 1=(xs.length:Int) - 1 - ((0:Nat):Int):=by
   rw[aa9,←rv.length];omega
  have st:Heap.IsRevIter (s1.heap.push (revObj l ((its.toArray.size:Int) - 1))) s1.heap.objs.size l ((xs.length:Int) - 1 - ((0:Nat):Int)):=by
   rw[←hlen];exact ⟨_,Heap.get?_push_size _ rfl,rfl,rfl⟩
  refine wpAny_pyIter_revIter st ?_;refine ⟨s1.heap.objs.size,[s1.heap.objs.size],_,_,H1,rfl,I1.kept (t':=s1.toks) λb o e=>Heap.get?_push_of_some _ e,Jc l _ xs.length,⟨aac _,st⟩,λb hb=>?_,q⟩;have e:b=s1.heap.objs.size:=by simpa using hb
  subst e;exact I1.kg (aa4 _) (I1.hok.fresh (aa4 _))
end
theorem zh {K:PySem.W.Frag} {a:Addr} {xs:List V} {g:TG} {tb:TS} {D:Ends} {σ:St} {H:Hp} (Pv:Nat→St→Hp→Prop) (h0:Pv 0 σ H) (hl:∀i σ H,i≤xs.length→Pv i σ H→SqL K H a xs)
  (hs:∀i x σ H,i < xs.length→xs[xs.length - 1 - i]?=some x→Pv i σ H→g x σ H λσ2 H2=>tb { D with nx:=Pv (i+1),ct:=Pv (i+1),bk:=D.nx } σ2 H2) (hd:∀σ H,Pv xs.length σ H→D.nx σ H):vy g tb D (Itv K a xs.length) σ H:=by
 refine ⟨λi m σ H=>m=xs.length - i∧i≤xs.length∧Pv i σ H,⟨xs.length,by simp,aac _,h0⟩,?_⟩;rintro i m σ H ⟨rfl,hi,p⟩;have q:=hl i σ H hi p;by_cases hlt:i < xs.length
 ·refine .inr ⟨⟨hlt,xs,q,rfl⟩,Pv (i+1),λσ' H' p'=>⟨xs.length - (i+1),by omega,rfl,hlt,p'⟩,λx H' y=>?_⟩;obtain ⟨e,y⟩:=y;subst e;exact hs i x σ _ hlt (y xs q) p
 ·have e:i=xs.length:=by omega
  subst e;exact .inl ⟨rfl,hd σ H p⟩
section
variable {CX:CXT} {P:Program} {w:World} {K:PySem.W.Frag} {mg:Str→Option Value} {base:Heap} {N:List Str} {qual:Str} {scope:Scope} {f:Addr} {cd:Value} {A:Around} {outer:List Env} {s:Shared} {H:Hp} {E:XK}
theorem cxOf_P:(ow CX P w K mg base N qual scope f cd A outer s H E).prog=P:=rfl
theorem cxOf_w:(ow CX P w K mg base N qual scope f cd A outer s H E).w=w:=rfl
theorem Me:(ow CX P w K mg base N qual scope f cd A outer s H E).mg=mg:=rfl
theorem cxOf_b:(ow CX P w K mg base N qual scope f cd A outer s H E).base=base:=rfl
end
theorem xi {K:PySem.W.Frag} {H:Hp} {l:Addr} {xs:List V} {y:V} {Q:VK} (h:H l=some (.lst (xs++[y]))) (q:Q y (upd H l (.lst xs))):tyV K "list" (.ref l) H∧rPop (.ref l) [] H Q:=
 ⟨bq h,l,xs++[y],y,rfl,rfl,h,by rw[aa5,aat,ae5,aar (aa4 _),abq];rfl,by rw[List.dropLast_concat];exact q⟩
end L2
namespace L2.Srt
open PySem PySem.W PyProof.Rows
section
variable {cmp:Nat→Nat→(Bool→Shared→Prop)→Shared→Prop} {N:Nat} {r:Nat→Int} {s:Shared}
def Cmp (cmp:Nat→Nat→(Bool→Shared→Prop)→Shared→Prop) (N:Nat) (r:Nat→Int) (s:Shared):Prop:=∀i j C,i < N→j < N→C (decide (r i < r j)) s→cmp i j C s
def b5 (N:Nat) (p:Array Nat):Prop:=p.toList.Perm (aak N)
theorem b5.size {p:Array Nat} (h:b5 N p):p.size=N:=by
 have:=h.length_eq;rw[ab9,aba] at this;exact this
theorem b5.lt {p:Array Nat} (h:b5 N p) {k:Nat} (hk:k < N):p.getD k 0 < N:=by
 have hs:=h.size;have e:p.getD k 0=p[k]'(by omega):=by simp[Array.getD,hs,hk]
 rw[e];have:p[k]'(by omega)∈p.toList:=by simp
 exact List.mem_range.mp (h.mem_iff.mp this)
theorem b5.of {p q:Array Nat} (h:b5 N p) (e:q.Perm p):b5 N q:=(Array.perm_iff_toList_perm.mp e).trans h
noncomputable def R (r:Nat→Int) (p:Array Nat) (i:Nat):Int:=r (p.getD i 0)
theorem ko {p q:Array Nat} {i j:Nat} (h:p[i]?=q[j]?):R r p i=R r q j:=by
 unfold R;rw[abm,abm,h]
def Inc (r:Nat→Int) (p:Array Nat) (k:Nat):Prop:=∀i j,i≤j→j < k→R r p i≤R r p j
theorem dy {p:Array Nat} {i j:Nat} (hj:j≤p.size) (k:Nat):R r (kas_rev p i j) k=if i≤k∧k < j then R r p (i+j - 1 - k) else R r p k:=by
 have e:=getElem?_mirror_all (i:=i) hj k;by_cases h1:i≤k∧k < j
 ·rw[if_pos h1] at e ⊢;exact ko e
 ·rw[if_neg h1] at e ⊢;exact ko e
theorem iw {p:Array Nat} {i j:Nat} (h:b5 N p):b5 N (kas_rev p i j):=h.of (mirror_perm _ _ _ _)
theorem Ag {p:Array Nat} {src d:Nat} (hs:src < p.size) (hd:d≤src) (k:Nat):
  R r (bubble p src d) k=if k=src - d then R r p src else if src - d < k∧k≤src then R r p (k - 1) else R r p k:=by
 have e:=getElem?_bubble hs d hd k;by_cases h1:k=src - d
 ·rw[if_pos h1] at e ⊢;exact ko e
 ·rw[if_neg h1] at e ⊢;by_cases h2:src - d < k∧k≤src
  ·rw[if_pos h2] at e ⊢;exact ko e
  ·rw[if_neg h2] at e ⊢;exact ko e
theorem sy (hc:Cmp cmp N r s) {p:Array Nat} (hp:b5 N p) {k:Nat} (hk:k < N) (hi:Inc r p k) {Q:Nat→Shared→Prop}:∀(f l u:Nat),l≤u→u≤k→u - l≤f→(∀i,i < l→R r p i≤R r p k)→(∀i,u≤i→i < k→R r p k < R r p i)→
  (∀m,m≤k→(∀i,i < m→R r p i≤R r p k)→(∀i,m≤i→i < k→R r p k < R r p i)→Q m s)→(kas_place p k f l u).kasWp cmp Q s
 | 0,l,u,hlu,huk,hf,a,b,q=>q l (by omega) a λi h1 h2=>b i (by omega) h2
 | f+1,l,u,hlu,huk,hf,a,b,q=>by
  show KasT.kasWp cmp (if l≥u then _ else _) Q s
  by_cases c:l≥u
  ·rw[if_pos c];exact q l (by omega) a λi h1 h2=>b i (by omega) h2
  ·rw[if_neg c];show cmp _ _ _ s
   refine hc _ _ _ (hp.lt hk) (hp.lt (by omega)) ?_;have e0:R r p k=r (p.getD k 0):=rfl;have e1:R r p ((l+u) / 2)=r (p.getD ((l+u) / 2) 0):=rfl;by_cases d:r (p.getD k 0) < r (p.getD ((l+u) / 2) 0)
   ·rw[decide_eq_true d];show KasT.kasWp cmp (if true=true then _ else _) Q s
    rw[if_pos rfl];refine sy hc hp hk hi f l ((l+u) / 2) (by omega) (by omega) (by omega) a (λi h1 h2=>?_) q;have:=hi ((l+u) / 2) i h1 h2;omega
   ·rw[decide_eq_false d];show KasT.kasWp cmp (if false=true then _ else _) Q s
    rw[if_neg (by decide)];refine sy hc hp hk hi f ((l+u) / 2+1) u (by omega) huk (by omega) (λi h1=>?_) b q;have:=hi i ((l+u) / 2) (by omega) (by omega);omega
end
noncomputable def Ix (p:Array Nat) (i:Nat):Int:=R (λx=>(x:Int)) p i
def LS (r:Nat→Int) (p:Array Nat) (i j:Nat):Prop:=R r p i < R r p j∨(R r p i=R r p j∧Ix p i < Ix p j)
def ny (r:Nat→Int) (p:Array Nat) (k:Nat):Prop:=∀i j,i < j→j < k→LS r p i j
def Bw (r:Nat→Int) (p:Array Nat) (k:Nat):Prop:=∀i j,i < j→j < k→LS r p j i
def Fr (p:Array Nat) (n N:Nat):Prop:=(∀i,i < n→Ix p i < n)∧∀i,n≤i→i < N→Ix p i=i
section
variable {cmp:Nat→Nat→(Bool→Shared→Prop)→Shared→Prop} {N:Nat} {r:Nat→Int} {s:Shared}
theorem LS.trans {p:Array Nat} {i j k:Nat} (a:LS r p i j) (b:LS r p j k):LS r p i k:=by
 unfold LS at*;omega
theorem LS.le {p:Array Nat} {i j:Nat} (a:LS r p i j):R r p i≤R r p j:=by
 unfold LS at a;omega
theorem LS.to {p q:Array Nat} {i j i' j':Nat} (a:LS r p i j) (e1:R r q i'=R r p i) (e2:R r q j'=R r p j) (e3:Ix q i'=Ix p i) (e4:Ix q j'=Ix p j):LS r q i' j':=by
 unfold LS at*;rw[e1,e2,e3,e4];exact a
theorem ny.inc {p:Array Nat} {k:Nat} (h:ny r p k):Inc r p k:=λi j hij hj=>by
 by_cases e:i=j
 ·rw[e];exact ads _
 ·exact (h i j (by omega) hj).le
theorem ny.more {p:Array Nat} {k:Nat} (h:ny r p k) (e:1≤k→LS r p (k - 1) k):ny r p (k+1):=λi j hij hj=>by
 by_cases c:j < k
 ·exact h i j hij c
 ·obtain rfl:j=k:=by omega
  by_cases c2:i=j - 1
  ·rw[c2];exact e (by omega)
  ·exact (h i (j - 1) (by omega) (by omega)).trans (e (by omega))
theorem Fr.more {p:Array Nat} {n:Nat} (h:Fr p n N) (hn:n < N):Fr p (n+1) N:=by
 refine ⟨λi hi=>?_,λi h1 h2=>h.2 i (by omega) h2⟩;by_cases c:i < n
 ·have:=h.1 i c;omega
 ·rw[h.2 i (by omega) (by omega)];omega
theorem Fr.rev {p:Array Nat} {i n:Nat} (h:Fr p n N) (hp:b5 N p) (hn:n≤N):Fr (kas_rev p i n) n N:=by
 have hs:=hp.size;have e:=dy (r:=λx=>(x:Int)) (p:=p) (i:=i) (j:=n) (by omega);refine ⟨λk hk=>?_,λk h1 h2=>?_⟩
 ·show R _ _ k < _
  rw[e k];split
  ·exact h.1 _ (by omega)
  ·exact h.1 k hk
 ·show R _ _ k=_
  rw[e k,if_neg (by omega)];exact h.2 k h1 h2
theorem xg (hc:Cmp cmp N r s) {p:Array Nat} (hp:b5 N p) {Q:Nat→Shared→Prop}:∀(f n:Nat),1≤n→n+f≤N→ny r p n→Fr p n N→(∀m,n≤m→m≤n+f→ny r p m→Fr p m N→(m=n+f∨R r p m < R r p (m - 1))→Q m s)→(kas_asc p f n).kasWp cmp Q s
 | 0,n,_,_,hi,hf,q=>q n (aa4 _) (aa4 _) hi hf (.inl rfl)
 | f+1,n,h1,hn,hi,hf,q=>by
  show cmp _ _ _ s
  refine hc _ _ _ (hp.lt (by omega)) (hp.lt (by omega)) ?_;have e1:R r p n=r (p.getD n 0):=rfl;have e2:R r p (n - 1)=r (p.getD (n - 1) 0):=rfl;by_cases c:r (p.getD n 0) < r (p.getD (n - 1) 0)
  ·rw[decide_eq_true c];show KasT.kasWp cmp (if true=true then _ else _) Q s
   rw[if_pos rfl];exact q n (aa4 _) (by omega) hi hf (.inr c)
  ·rw[decide_eq_false c];show KasT.kasWp cmp (if false=true then _ else _) Q s
   rw[if_neg (by decide)];refine xg hc hp f (n+1) (by omega) (by omega) (hi.more λ_=>?_) (hf.more (by omega)) λm a b c d e=>q m (by omega) (by omega) c d (e.elim (λe=>.inl (by omega)) .inr);have a1:=hf.1 (n - 1) (by omega);have a2:=hf.2 n (aa4 _) (by omega);unfold LS;omega
structure DS (r:Nat→Int) (p:Array Nat) (n k:Nat):Prop where
 far:∀i j,i < j→j < n - (k+1)→LS r p j i
 lo:∀i j,i < n - (k+1)→n - (k+1)≤j→j < n→R r p j < R r p i
 run:∀i j,n - (k+1)≤i→i < j→j < n→R r p i=R r p j∧Ix p i < Ix p j
theorem DS.dec0 {p:Array Nat} {n:Nat} (h:DS r p n 0):Bw r p n:=λi j hij hj=>by
 by_cases c:j < n - 1
 ·exact h.far i j hij c
 ·exact .inl (h.lo i j (by omega) (by omega) hj)
theorem DS.turn {p:Array Nat} {n k:Nat} (h:DS r p n k) (hp:b5 N p) (hn:n≤N):Bw r (kas_rev p (n - (k+1)) n) n:=λi j hij hj=>by
 have hs:=hp.size;have e:=dy (r:=r) (p:=p) (i:=n - (k+1)) (j:=n) (by omega);have g:=dy (r:=λx=>(x:Int)) (p:=p) (i:=n - (k+1)) (j:=n) (by omega);by_cases ci:n - (k+1)≤i
 ·have:=h.run (n - (k+1)+n - 1 - j) (n - (k+1)+n - 1 - i) (by omega) (by omega) (by omega);exact LS.to (p:=p) (i:=n - (k+1)+n - 1 - j) (j:=n - (k+1)+n - 1 - i) (.inr this) (by rw[e,if_pos (by omega)]) (by rw[e,if_pos (by omega)]) (by unfold Ix;rw[g,if_pos (by omega)]) (by unfold Ix;rw[g,if_pos (by omega)])
 ·by_cases cj:n - (k+1)≤j
  ·refine .inl ?_;rw[e,e,if_pos (by omega),if_neg (by omega)];exact h.lo i _ (by omega) (by omega) (by omega)
  ·exact LS.to (p:=p) (i:=j) (j:=i) (h.far i j hij (by omega)) (by rw[e,if_neg (by omega)]) (by rw[e,if_neg (by omega)]) (by unfold Ix;rw[g,if_neg (by omega)]) (by unfold Ix;rw[g,if_neg (by omega)])
theorem Bw.next {p:Array Nat} {n:Nat} (h:Bw r p n) (hn:∀i,i < n→R r p n < R r p i):DS r p (n+1) 0:=
 ⟨λi j hij hj=>h i j hij (by omega),λi j hi h1 h2=>by rw[show j=n by omega];exact hn i (by omega),λi j h1 h2 h3=>absurd h2 (by omega)⟩
theorem me (hc:Cmp cmp N r s) {Q:Array Nat×Nat×Nat→Shared→Prop}:∀(f:Nat) (p:Array Nat) (n k:Nat),b5 N p→1≤n→n+f≤N→k+1≤n→DS r p n k→Fr p n N→
  (∀p' n' k',b5 N p'→n≤n'→n'≤N→k'+1≤n'→DS r p' n' k'→Fr p' n' N→Q (p',n',k') s)→(kas_desc f p n k).kasWp cmp Q s
 | 0,p,n,k,hp,_,hn,hk,hd,hf,q=>q p n k hp (aa4 _) (by omega) hk hd hf
 | f+1,p,n,k,hp,h1,hn,hk,hd,hf,q=>by
  show cmp _ _ _ s
  refine hc _ _ _ (hp.lt (by omega)) (hp.lt (by omega)) ?_;have hsz:=hp.size;have e1:R r p n=r (p.getD n 0):=rfl;have e2:R r p (n - 1)=r (p.getD (n - 1) 0):=rfl;have same:∀i,n - (k+1)≤i→i < n→R r p i=R r p (n - 1):=λi a b=>by
   by_cases c:i=n - 1
   ·rw[c]
   ·exact (hd.run i (n - 1) a (by omega) (by omega)).1
  by_cases c:r (p.getD n 0) < r (p.getD (n - 1) 0)
  ·rw[decide_eq_true c];show KasT.kasWp cmp (if true=true then _ else _) Q s
   rw[if_pos rfl];have low:∀i,i < n→R r p n < R r p i:=λi hi=>by
    by_cases ci:n - (k+1)≤i
    ·have:=same i ci hi;omega
    ·have:=hd.lo i (n - 1) (by omega) (by omega) (by omega);omega
   by_cases hk0:k > 0
   ·rw[if_pos hk0];have e:=dy (r:=r) (p:=p) (i:=n - (k+1)) (j:=n) (by omega);refine me hc f _ (n+1) 0 (iw hp) (by omega) (by omega) (by omega) ((hd.turn hp (by omega)).next λi hi=>?_) ((hf.rev hp (by omega)).more (by omega)) λp' n' k' a b c d e g=>q p' n' k' a (by omega) c d e g;rw[e,e,if_neg (by omega)];split
    ·exact low _ (by omega)
    ·exact low i hi
   ·rw[if_neg hk0];obtain rfl:k=0:=by omega
    exact me hc f p (n+1) 0 hp (by omega) (by omega) (by omega) (hd.dec0.next low) (hf.more (by omega)) λp' n' k' a b c d e g=>q p' n' k' a (by omega) c d e g
  ·rw[decide_eq_false c];show KasT.kasWp cmp (if false=true then _ else _) Q s
   rw[if_neg (by decide)];show cmp _ _ _ s
   refine hc _ _ _ (hp.lt (by omega)) (hp.lt (by omega)) ?_;by_cases c2:r (p.getD (n - 1) 0) < r (p.getD n 0)
   ·rw[decide_eq_true c2];show KasT.kasWp cmp (if true=true then _ else _) Q s
    rw[if_pos rfl];exact q p n k hp (aa4 _) (by omega) hk hd hf
   ·rw[decide_eq_false c2];show KasT.kasWp cmp (if false=true then _ else _) Q s
    rw[if_neg (by decide)];have eq:R r p n=R r p (n - 1):=by omega
    refine me hc f p (n+1) (k+1) hp (by omega) (by omega) (by omega) ⟨λi j hij hj=>hd.far i j hij (by omega),λi j hi h2 h3=>?_,λi j h2 h3 h4=>?_⟩ (hf.more (by omega)) λp' n' k' a b c d e g=>q p' n' k' a (by omega) c d e g
    ·by_cases cj:j=n
     ·rw[cj,eq];exact hd.lo i (n - 1) (by omega) (by omega) (by omega)
     ·exact hd.lo i j (by omega) (by omega) (by omega)
    ·by_cases cj:j=n
     ·have a1:=hf.1 i (by omega);have a2:=hf.2 n (aa4 _) (by omega);rw[cj,eq,same i (by omega) (by omega)];exact ⟨rfl,by omega⟩
     ·exact hd.run i j (by omega) h3 (by omega)
theorem vf (hc:Cmp cmp N r s) {p:Array Nat} (hp:b5 N p) {n:Nat} (h1:1≤n) (hn:n≤N) (hd:Bw r p n) (hf:Fr p n N) {Q:Nat×Array Nat→Shared→Prop} (q:∀m p',b5 N p'→1≤m→m≤N→ny r p' m→Fr p' m N→Q (m,p') s):(kas_tail3 n N p).kasWp cmp Q s:=by
 unfold kas_tail3;rw[KasT.kasWp_bind];have hsz:=hp.size;have e:=dy (r:=r) (p:=p) (i:=0) (j:=n) (by omega);have g:=dy (r:=λx=>(x:Int)) (p:=p) (i:=0) (j:=n) (by omega);refine xg hc (iw hp) (N - n) n h1 (by omega) (λi j hij hj=>?_) (hf.rev hp hn) λm a b c d e=>q m _ (iw hp) (by omega) (by omega) c d;exact LS.to (p:=p) (i:=0+n - 1 - i) (j:=0+n - 1 - j) (hd _ _ (by omega) (by omega)) (by rw[e,if_pos (by omega)]) (by rw[e,if_pos (by omega)]) (by unfold Ix;rw[g,if_pos (by omega)]) (by unfold Ix;rw[g,if_pos (by omega)])
theorem mw (hc:Cmp cmp N r s) {p:Array Nat} (hp:b5 N p) {n:Nat} (h1:1≤n) (hn:n+1≤N) (hd:DS r p (n+1) 0) (hf:Fr p (n+1) N) {Q:Nat×Array Nat→Shared→Prop} (q:∀m p',b5 N p'→1≤m→m≤N→ny r p' m→Fr p' m N→Q (m,p') s):(kas_descPart n N p).kasWp cmp Q s:=by
 unfold kas_descPart;rw[KasT.kasWp_bind];refine me hc (N - (n+1)) p (n+1) 0 hp (by omega) (by omega) (by omega) hd hf λp' n' k' hp' a b hk hd' hf'=>?_;by_cases hk0:k' > 0
 ·show KasT.kasWp cmp (if k' > 0 then _ else _) Q s
  rw[if_pos hk0];exact vf hc (iw hp') (by omega) b (hd'.turn hp' b) (hf'.rev hp' b) q
 ·show KasT.kasWp cmp (if k' > 0 then _ else _) Q s
  rw[if_neg hk0];obtain rfl:k'=0:=by omega
  exact vf hc hp' (by omega) b hd'.dec0 hf' q
theorem Fr.start:Fr (abn (aak N)) 1 N:=by
 have e:∀i,i < N→Ix (abn (aak N)) i=i:=λi hi=>by
  unfold Ix R;rw[abm];simp[hi]
 refine ⟨λi hi=>?_,λi _ h=>e i h⟩;by_cases c:i < N
 ·rw[e i c];omega
 ·unfold Ix R;rw[abm];simp[c]
theorem Gh (hc:Cmp cmp N r s) (h2:2≤N) {Q:Nat×Array Nat→Shared→Prop} (q:∀m p',b5 N p'→1≤m→m≤N→ny r p' m→Fr p' m N→Q (m,p') s):(kas_count N (abn (aak N))).kasWp cmp Q s:=by
 have hp:b5 N (abn (aak N)):=by unfold b5;exact ac7 _
 have hf0:Fr (abn (aak N)) 1 N:=Fr.start;generalize abn (aak N)=p at hp hf0 ⊢;unfold kas_count;rw[KasT.kasWp_bind];have hsz:=hp.size;refine xg hc hp (N - 1) 1 (aa4 _) (by omega) (λi j a b=>absurd a (by omega)) hf0 λm a b hi hf hm=>?_;show KasT.kasWp cmp (if (m==N)=true then _ else _) Q s
 by_cases e:m=N
 ·rw[if_pos (by simp[e])];exact q m p hp a (by omega) hi hf
 ·rw[if_neg (by simp[e])];have lt:R r p m < R r p (m - 1):=hm.resolve_left (by omega);by_cases h1:m > 1
  ·rw[if_pos h1];show cmp _ _ _ s
   refine hc _ _ _ (hp.lt (by omega)) (hp.lt (by omega)) ?_;by_cases c:r (p.getD 0 0) < r (p.getD (m - 1) 0)
   ·rw[decide_eq_true c];show KasT.kasWp cmp (if true=true then _ else _) Q s
    rw[if_pos rfl];exact q m p hp a (by omega) hi hf
   ·rw[decide_eq_false c];show KasT.kasWp cmp (if false=true then _ else _) Q s
    rw[if_neg (by decide)];have e0:R r p 0=r (p.getD 0 0):=rfl;have e1:R r p (m - 1)=r (p.getD (m - 1) 0):=rfl;have all:∀k,k < m→R r p k=R r p (m - 1):=λk hk=>by
     have a1:=hi.inc 0 k (aac _) hk;have a2:=hi.inc k (m - 1) (by omega) (by omega);omega
    have e:=dy (r:=r) (p:=p) (i:=0) (j:=m) (by omega);have g:=dy (r:=λx=>(x:Int)) (p:=p) (i:=0) (j:=m) (by omega);refine mw hc (iw hp) a (by omega) (Bw.next (λi j hij hj=>?_) λi hj=>?_) ((hf.rev hp (by omega)).more (by omega)) q
    ·exact LS.to (p:=p) (i:=0+m - 1 - j) (j:=0+m - 1 - i) (hi _ _ (by omega) (by omega)) (by rw[e,if_pos (by omega)]) (by rw[e,if_pos (by omega)]) (by unfold Ix;rw[g,if_pos (by omega)]) (by unfold Ix;rw[g,if_pos (by omega)])
    ·rw[e m,e i,if_neg (by omega),if_pos (by omega),all (0+m - 1 - i) (by omega)];exact lt
  ·rw[if_neg h1];obtain rfl:m=1:=by omega
   refine mw hc hp (aa4 _) (by omega) (Bw.next (λi j hij hj=>absurd hij (by omega)) λi hi=>?_) (hf.more (by omega)) q;rw[show i=1 - 1 by omega];exact lt
theorem Dz (hc:Cmp cmp N r s) {Q:Array Nat→Shared→Prop}:∀(f:Nat) (p:Array Nat) (k:Nat),b5 N p→ny r p k→Fr p k N→k+f=N→(∀p',b5 N p'→ny r p' N→Q p' s)→(kas_bin f p k).kasWp cmp Q s
 | 0,p,k,hp,hi,hf,hk,q=>q p hp (by rw[←hk];exact hi)
 | f+1,p,k,hp,hi,hf,hk,q=>by
  unfold kas_bin;rw[KasT.kasWp_bind];refine sy hc hp (by omega) hi.inc k 0 k (aac _) (aa4 _) (by omega) (λi h=>absurd h (by omega)) (λi h1 h2=>absurd h2 (by omega)) λm hm a b=>?_;have hsz:=hp.size;have e:=Ag (r:=r) (p:=p) (src:=k) (d:=k - m) (by omega) (by omega);have g:=Ag (r:=λx=>(x:Int)) (p:=p) (src:=k) (d:=k - m) (by omega) (by omega);rw[show k - (k - m)=m by omega] at e g;have fk:=hf.2 k (aa4 _) (by omega);have key:∀j,j < k+1→∃j',j'≤k∧R r (bubble p k (k - m)) j=R r p j'∧Ix (bubble p k (k - m)) j=Ix p j'∧((j=m∧j'=k)∨(m < j∧j'+1=j)∨(j < m∧j'=j)):=λj hj=>by
   rcases Nat.lt_trichotomy j m with c | c | c
   ·exact ⟨j,by omega,by rw[e,if_neg (by omega),if_neg (by omega)],by unfold Ix;rw[g,if_neg (by omega),if_neg (by omega)],.inr (.inr ⟨c,rfl⟩)⟩
   ·exact ⟨k,by omega,by rw[e,if_pos c],by unfold Ix;rw[g,if_pos c],.inl ⟨c,rfl⟩⟩
   ·exact ⟨j - 1,by omega,by rw[e,if_neg (by omega),if_pos (by omega)],by unfold Ix;rw[g,if_neg (by omega),if_pos (by omega)],.inr (.inl ⟨c,by omega⟩)⟩
  refine Dz hc f _ (k+1) (hp.of (bubble_perm _ _ _)) (λi j hij hj=>?_) ⟨λi hi'=>?_,λi h1 h2=>?_⟩ (by omega) q
  ·obtain ⟨i',hi1,e1,g1,c1⟩:=key i (by omega);obtain ⟨j',hj1,e2,g2,c2⟩:=key j hj;refine LS.to (p:=p) (i:=i') (j:=j') ?_ e1 e2 g1 g2;rcases c1 with ⟨c1,d1⟩ | ⟨c1,d1⟩ | ⟨c1,d1⟩ <;> rcases c2 with ⟨c2,d2⟩ | ⟨c2,d2⟩ | ⟨c2,d2⟩
   ·omega
   ·exact .inl (by rw[d1];exact b j' (by omega) (by omega))
   ·omega
   ·omega
   ·exact hi i' j' (by omega) (by omega)
   ·omega
   ·have x1:=a i' (by omega);have x2:=hf.1 i' (by omega);unfold LS;rw[d2];omega
   ·exact hi i' j' (by omega) (by omega)
   ·exact hi i' j' (by omega) (by omega)
  ·obtain ⟨i',hi1,_,g1,_⟩:=key i hi';rw[g1];by_cases c:i' < k
   ·have:=hf.1 i' c;omega
   ·rw[show i'=k by omega,fk];omega
  ·unfold Ix;rw[g,if_neg (by omega),if_neg (by omega)];exact hf.2 i (by omega) h2
theorem Js (hc:Cmp cmp N r s) (h2:2≤N) {Q:Array Nat→Shared→Prop} (q:∀p,b5 N p→ny r p N→Q p s):(kas_sort N).kasWp cmp Q s:=by
 unfold kas_sort;rw[KasT.kasWp_bind];refine Gh hc h2 λm p hp h1 hm hi hf=>?_;show KasT.kasWp cmp (if m < N then _ else _) Q s
 by_cases c:m < N
 ·rw[if_pos c,show max m 1=m by omega];exact Dz hc (N - m) p m hp hi hf (by omega) q
 ·rw[if_neg c];exact q p hp (by rw[show N=m by omega];exact hi)
end
noncomputable def ck (h:Heap) (a:Addr) (vs:List Value):Heap:=((h.update a (Obj.mapSeq λ_=>#[])).push (seqObj "tuple" vs.toArray 0)).push (seqObj "list" #[] 0)
section
variable {prog:Program} {w:World} {A:Around} {E:Value→Shared→Prop} {s:Shared} {r:Nat→Int}
theorem Ao {a:Addr} {vs:List Value} {n:Nat} {P:PySem.Fin→Shared→Prop} (ho:s.heap.get? a=some (seqObj "list" vs.toArray n)) (h64:vs.length < 64)
  (ask:2≤vs.length→wpAny (model prog w) A (keyKind' vs.toArray) (λκ s'=>s'={ s with heap:=ck s.heap a vs }∧Cmp (kas_ask prog w A κ vs) vs.length r { s with heap:=ck s.heap a vs }) (λ_ _=>False) { s with heap:=ck s.heap a vs })
  (h:∀p,b5 vs.length p→Inc r p vs.length→P (.done (.ret .none)) { s with heap:=sortedHeap s.heap a vs (abn (p.toList.map λi=>vs.getD i Value.none)) }):
  wpAny (model prog w) A (Builtin.«list.sort» ⟨[.ref a],[]⟩) P E s:=by
 rw[list_sort_plain];have ha:a < s.heap.objs.size:=Heap.lt_size ho;refine wpAny_bind (listItems_at ho rfl ?_);refine wpAny_bind (listUpdate_at ho rfl ?_ (by rw[aa9,sizeLine_eq];omega) (aac _));obtain ⟨e1,ho1⟩:∃e1,(s.heap.update a (Obj.mapSeq λ_=>#[])).get? a=some (seqObj "list" #[] e1):=⟨_,get?_update_seq ho (λ_=>#[])⟩;refine wpAny_bind (seqEpoch_at ho1 rfl ?_);refine wpAny_bind (wpAny_newTuple ?_ (by show vs.length≤_;rw[sizeLine_eq];omega));refine wpAny_bind (wpAny_newList ?_ (aac _));refine wpAny_holding ?_;have ho6:(ck s.heap a vs).get? a=some (seqObj "list" #[] e1):=by
  unfold ck;rw[Heap.get?_push_ne _ _ _ (by rw[size_push',Heap.size_update];exact aap (aed ha)),Heap.get?_push_ne _ _ _ (by rw[Heap.size_update];exact aap ha)];exact ho1
 show wpAny (model prog w) A _ P E { s with heap:=ck s.heap a vs }
 dsimp only;have hsz:vs.toArray.size=vs.length:=by simp
 have fin:∀(p:Array Nat) (st':SortSt),arrOf st'=p.map (kas_item (vs.toArray.zip vs.toArray))→b5 vs.length p→Inc r p vs.length→P (.done (.ret .none)) { s with heap:=sortedHeap s.heap a vs ((arrOf st').map (·.2)) }:=λp st' e hp hi=>by
  rw[kat_snds rfl e];exact h p hp hi
 have big:∀(p:Array Nat) (st':SortSt),arrOf st'=p.map (kas_item (vs.toArray.zip vs.toArray))→b5 vs.length p→((arrOf st').map (·.2)).size≤sizeLine:=λp st' e hp=>by
  rw[Array.size_map,e,Array.size_map,hp.size,sizeLine_eq];omega
 by_cases h2:vs.toArray.size < 2
 ·rw[if_pos h2,if_pos h2];refine wpAny_bind (wpAny_pure ?_);rw[StateT.run_pure];refine wpAny_bind (wpAny_pure ?_);dsimp only;have e0:arrOf (SortSt.mk' general' (vs.toArray.zip vs.toArray) #[] 7 none)=(abn (aak vs.length)).map (kas_item (vs.toArray.zip vs.toArray)):=by
   have e:=kas_range (vs.toArray.zip vs.toArray);rw[show (vs.toArray.zip vs.toArray).size=vs.length by simp] at e;exact e.symm
  have pr:b5 vs.length (abn (aak vs.length)):=ac7 _;refine wpAny_bind (seqEpoch_at ho6 rfl ?_);refine wpAny_bind (listUpdate_at ho6 rfl ?_ (aac _) (aal (big _ _ e0 pr) (by omega)));simp only[bne_self_eq_false,ab7,if_false];refine wpAny_pure (fin _ _ e0 pr λi j hij hj=>?_);have:i=j:=by omega
  subst this;exact ads _
 ·rw[if_neg h2,if_neg h2];refine wpAny_bind (wpAny_mono (ask (by omega)) (λκ s0 hk=>?_) λ_ _ x=>x.elim);obtain ⟨rfl,hc⟩:=hk;refine wpAny_bind (wpAny_mono (kat_run (Q:=λst' s'=>s'={ s with heap:=ck s.heap a vs }∧∃p:Array Nat,b5 vs.length p∧Inc r p vs.length∧arrOf st'=p.map (kas_item (vs.toArray.zip vs.toArray))∧failedOf st'=none)
   (G:=λp s'=>s'={ s with heap:=ck s.heap a vs }∧b5 vs.length p∧Inc r p vs.length) rfl (by omega) h64 (λp st' s' a1 a2 a3 a4=>⟨a4.1,p,a4.2.1,a4.2.2,a2,a3⟩) (Js hc (by omega) λp hp hi=>⟨rfl,hp,hi.inc⟩)) ?_ λ_ _ e=>e)
  rintro ⟨⟨⟩,st'⟩ s' ⟨rfl,p,hp,hi,har,hf⟩;dsimp only;refine wpAny_bind (seqEpoch_at ho6 rfl ?_);refine wpAny_bind (listUpdate_at ho6 rfl ?_ (aac _) (aal (big _ _ har hp) (by omega)));rw[hf];simp only[bne_self_eq_false,ab7,if_false];exact wpAny_pure (fin p st' har hp hi)
theorem xy {l:Addr} {vs:List Value} {Q:List Value→Shared→Prop} (hl:s.heap.IsTuple l vs.toArray)
  (h:Q vs { s with heap:=(s.heap.push (seqObj "list" #[] 0)).update s.heap.objs.size (Obj.mapSeq (·++vs.toArray)) }) (hsz:vs.length≤sizeLine):
  wpAny (model prog w) A (collect (.ref l)) Q E s:=by
 obtain ⟨o,ho,hc,n,hd⟩:=id hl;unfold collect;refine wpAny_bind (wpAny_runValue (codeAny_builtin entry_proto_collect' ?_));show wpAny _ _ (do again (.builtin "list.__iadd__" ⟨[←newList [],.ref l],[]⟩)) _ _ s
 refine wpAny_bind (wpAny_newList (wpAny_pure ⟨Code.quiet_builtin _ (by decide+kernel),codeAny_builtin entry_list_iadd' ?_⟩));show wpAny _ _ (Builtin.List.listExtendWith (.ref s.heap.objs.size) (.ref l) (.ref s.heap.objs.size)) _ _ { s with heap:=s.heap.push (seqObj "list" #[] 0) }
 unfold Builtin.List.listExtendWith;have ho':(s.heap.push (seqObj "list" #[] 0)).get? l=some o:=Heap.get?_push_of_some _ ho;refine wpAny_bind (wpAny_typeOf (T:="tuple") ⟨o,ho',hc⟩ ?_);have ht:(Value.type "tuple"==Value.type "tuple")=true:=by rfl
 rw[if_pos (by rw[ht];simp)];refine wpAny_bind (listItems_at ho' hd ?_);refine wpAny_bind (listItems_at (xs:=#[]) (n:=0) (Heap.get?_push_size _ rfl) rfl ?_);rw[if_neg (by simp)];refine wpAny_bind (listUpdate_at (xs:=#[]) (n:=0) (Heap.get?_push_size _ rfl) rfl ?_ (aac _) (by show (#[]++vs.toArray).size≤sizeLine+1;simp only[ade,aa9,ac1];omega));refine wpAny_pure ?_;show wpAny (model prog w) A (do
   let o ←load s.heap.objs.size
   match o.data with
   | .seq xs _=>pure xs.toList
   | _=>unsupported "internal:collect") Q E { s with heap:=(s.heap.push (seqObj "list" #[] 0)).update s.heap.objs.size (Obj.mapSeq (·++vs.toArray)) }
 refine wpAny_bind (wpAny_load (get?_update_seq (Heap.get?_push_size _ rfl) _) ?_);show wpAny _ _ (pure ((#[]:Array Value)++vs.toArray).toList) Q E _
 rw[show ((#[]:Array Value)++vs.toArray).toList=vs by simp];exact wpAny_pure h
noncomputable def dc (h:Heap) (vs:List Value):Heap:=((h.push (seqObj "list" #[] 0)).update h.objs.size (Obj.mapSeq (·++vs.toArray))).push (seqObj "list" vs.toArray 0)
theorem Na {l:Addr} {vs:List Value} {Q:Value→Shared→Prop} (hl:s.heap.IsList l vs.toArray∨s.heap.IsTuple l vs.toArray) (h64:vs.length < 64)
  (ask:2≤vs.length→wpAny (model prog w) A.in1.in1 (keyKind' vs.toArray) (λκ s'=>s'={ s with heap:=ck (dc s.heap vs) (s.heap.objs.size+1) vs }∧Cmp (kas_ask prog w A.in1.in1 κ vs) vs.length r { s with heap:=ck (dc s.heap vs) (s.heap.objs.size+1) vs }) (λ_ _=>False) { s with heap:=ck (dc s.heap vs) (s.heap.objs.size+1) vs })
  (h:∀p,b5 vs.length p→Inc r p vs.length→Q (.ref (s.heap.objs.size+1)) { s with heap:=sortedAll s.heap vs (abn (p.toList.map λi=>vs.getD i Value.none)) }):
  wpAny (model prog w) A (call (.builtin "sorted") [.ref l]) Q E s:=by
 have sz:vs.length≤sizeLine:=by rw[sizeLine_eq];omega
 refine Calls.call_function_entry kind_sorted plain_sorted entry_sorted (args_sorted1 _) ?_;unfold Builtin.«sorted»;refine wpAny_bind (m:=checkCount "sorted" 1 1 _) (wpAny_pure ?_);have go:∀{Q':List Value→Shared→Prop},Q' vs { s with heap:=(s.heap.push (seqObj "list" #[] 0)).update s.heap.objs.size (Obj.mapSeq (·++vs.toArray)) }→wpAny (model prog w) A.in1 (collect (.ref l)) Q' E s:=λ{Q'} q=>by
  rcases hl with hl | hl
  ·exact collect_list hl q sz
  ·exact xy hl q sz
 refine wpAny_bind (go ?_);refine wpAny_bind (wpAny_newList ?_ sz);have hsz:((s.heap.push (seqObj "list" #[] 0)).update s.heap.objs.size (Obj.mapSeq (·++vs.toArray))).objs.size=s.heap.objs.size+1:=by
  rw[Heap.size_update,size_push']
 have hoL:(dc s.heap vs).get? (s.heap.objs.size+1)=some (seqObj "list" vs.toArray 0):=by
  unfold dc;rw[←hsz];exact Heap.get?_push_size _ rfl
 show wpAny _ _ _ _ _ { s with heap:=dc s.heap vs }
 rw[hsz];refine wpAny_bind (wpAny_holding (wpAny_call_entry slot_list_sort ⟨_,hoL,rfl⟩ entry_list_sort (Ao (s:={ s with heap:=dc s.heap vs }) hoL h64 ask λp hp hi=>⟨_,rfl,?_⟩) (args_list_sort _)));exact wpAny_pure ⟨_,rfl,h p hp hi⟩
end
end L2.Srt
namespace L2
open PySem PySem.Spec PyProof.Rows Srt
def Ords (P:Program) (w:World) (A:Around) (H:Hp) (ys:List V) (rk:Nat→Int):Prop:=
 ∀(s:Shared) (vs:List Value),HOk P w H s.heap→Vals ys vs→2≤vs.length→wpAny (model P w) A (keyKind' vs.toArray) (λκ s'=>s'=s∧Cmp (PySem.W.kas_ask P w A κ vs) vs.length rk s) (λ_ _=>False) s
theorem K0 {h:Heap} {vs:List Value} {b:Addr} {o:Obj} (hb:h.get? b=some o):(ck (dc h vs) (h.objs.size+1) vs).get? b=some o:=by
 have hlt:b < h.objs.size:=Heap.lt_size hb;have hsz:(dc h vs).objs.size=h.objs.size+2:=by unfold dc;rw[size_push',Heap.size_update,size_push']
 unfold ck;rw[Heap.get?_push_ne _ _ _ (by rw[size_push',Heap.size_update,hsz];exact aap (aah hlt (by omega))),Heap.get?_push_ne _ _ _ (by rw[Heap.size_update,hsz];exact aap (aah hlt (by omega))),Heap.get?_update_ne _ _ _ _ (aap (aah hlt (by omega)))];unfold dc;rw[Heap.get?_push_ne _ _ _ (by rw[Heap.size_update,size_push'];exact aap (aah hlt (by omega))),Heap.get?_update_ne _ _ _ _ (aap hlt),Heap.get?_push_ne _ _ _ (aap hlt)];exact hb
theorem um {ys:List V} {vs:List Value} (r:Vals ys vs):∀(is:List Nat),(∀i∈is,i < ys.length)→Vals (is.map λi=>ys.getD i .non) (is.map λi=>vs.getD i Value.none)
 | [],_=>.nil
 | i::is,h=>by
  have hi:=h i aa8;obtain ⟨u,hu,ru⟩:=r.get (aa2 hi);refine .cons ?_ (um r is λj hj=>h j (aa7 _ hj));have e1:ys.getD i .non=ys[i]:=by rw[aaf,aa2 hi];rfl
  have e2:vs.getD i Value.none=u:=by rw[aaf,hu];rfl
  show RelV (ys.getD i .non) (vs.getD i Value.none)
  rw[e1,e2];exact ru
section
variable {X:Cx}
theorem km:fq X (.builtin "sorted") (λxs H Q=>∃p ys rk,xs=[.ref p]∧(SqL X.K H p ys∨SqT X.K H p ys)∧ys.length < 64∧Ords X.prog X.w X.A.in1.in1 H ys rk∧
  ∀(l:Addr) (is:List Nat),is.Perm (aak ys.length)→(∀i j,i≤j→j < ys.length→rk (is.getD i 0)≤rk (is.getD j 0))→H l=none→Q (.ref l) (upd H l (.lst (is.map λi=>ys.getD i .non)))):=by
 intro pins s σ H xs us Q I r h;obtain ⟨p,ys,rk,rfl,hq,h64,ho,q⟩:=h;obtain ⟨u,rfl,rx⟩:=vals1 r;cases rx
 obtain ⟨its,r',hl⟩:∃its,Vals ys its∧(s.heap.IsList p its.toArray∨s.heap.IsTuple p its.toArray):=by
  rcases hq with hq | hq
  ·obtain ⟨its,r',pl,_⟩:=I.list hq;exact ⟨its,r',.inl pl.isList⟩
  ·obtain ⟨its,r',pl,_⟩:=I.tuple hq;exact ⟨its,r',.inr pl⟩
 have hlen:=r'.length;refine Na (r:=rk) hl (by omega) (λh2=>?_) λpm hp hi=>?_
 ·exact ho { s with heap:=ck (dc s.heap its) (s.heap.objs.size+1) its } its (I.hok.kept λb o e=>K0 e) r' h2
 ·obtain ⟨e,he⟩:=sortedAll_at s.heap its (abn (pm.toList.map λi=>its.getD i Value.none));have hp':pm.toList.Perm (aak ys.length):=by rw[hlen];exact hp
  have hin:∀i∈pm.toList,i < ys.length:=λi hi=>List.mem_range.mp (hp'.mem_iff.mp hi);have hz:(pm.toList.map λi=>ys.getD i V.non).length≤sizeLine:=by
   have sz:=sizeLine_eq;rw[aa3,hp'.length_eq,aba];omega
  refine ⟨.ref (s.heap.objs.size+1),_,I.laid (t':=s.toks) (λb o e=>sortedAll_old e) (ad6 _) (show br X.prog X.w _ _ _ (.lst (pm.toList.map λi=>ys.getD i V.non)) from ⟨hz,_,e,um r' _ hin,he⟩),rfl,q _ _ hp' (λi j hij hj=>?_) (I.hok.fresh (ad6 _))⟩;have:=hi i j hij (by omega);have g:∀k,pm.toList.getD k 0=pm.getD k 0:=λk=>by
   rw[abm,aaf,acq]
  rw[g,g];exact this
end
end L2
namespace PySem.SeqAt
open PySem PySem.Spec PySem.Calls
def wg (A:Around) (s:Shared) (x y:Value) (b:Bool):Prop:=∀(prog:Program) (w:World) (E:Value→Shared→Prop) (Q:Value→Shared→Prop),Q (.bool b) s→wpAny (model prog w) A (richCompare .Lt x y) Q E s
noncomputable def qz (e c:Nat→Bool) (d:Bool):List Nat→Bool
 | []=>d
 | j::r=>if e j then qz e c d r else c j
theorem Bt (l b:Addr) (items items2:Array Value) (n n2:Nat) (dd dd2:Option Addr) (sl sl2:Array (Option Value)) (e c:Nat→Bool):
  Meets (Builtin.«tuple.__lt__» ⟨[.ref l,.ref b],[]⟩)
   (λA R s=>s.heap.get? l=some { cls:=.type "tuple",dict:=dd,data:=.seq items n,slots:=sl }∧s.heap.get? b=some { cls:=.type "tuple",dict:=dd2,data:=.seq items2 n2,slots:=sl2 }∧
    (∀j (h1:j < items.size) (h2:j < items2.size),EqAt A.in1 s items[j] items2[j] (e j))∧
    (∀j (h1:j < items.size) (h2:j < items2.size),e j=false→wg A.in1 s items[j] items2[j] (c j))∧
    R (.ok (.ret (.bool (qz e c (decide (items.size < items2.size)) (aak (min items.size items2.size)))))) s):=
 .of_wp λprog w A R s h=>by
  obtain ⟨hp,g,d,tk,os⟩:=s;obtain ⟨hl,hb,he,hc,h⟩:=h;have f2:=AutoSeq1.sub_tuple_tuple;have hZ:(items.toList.zip items2.toList).length=min items.size items2.size:=by simp
  wp_walk using wpAny_loadPart' hl,wpAny_loadPart' hb,wpAny_forIn_list _ (λrest b s'=>b.1=none∧s'=⟨hp,g,d,tk,os⟩∧∃i,rest=(items.toList.zip items2.toList).drop i∧
   R (.ok (.ret (.bool (qz e c (decide (items.size < items2.size)) ((aak (min items.size items2.size)).drop i))))) ⟨hp,g,d,tk,os⟩) _
  case turn=>
   rintro ⟨y,x⟩ rest b s' ⟨hb',rfl,i,hz,hR⟩;have hlt:i < (items.toList.zip items2.toList).length:=by
    rcases abx i (items.toList.zip items2.toList).length with h' | h'
    ·exact h'
    ·rw[adt h'] at hz;cases hz
   have hm:i < min items.size items2.size:=hZ ▸ hlt;have h1:i < items.size:=aah hm (Nat.min_le_left _ _);have h2:i < items2.size:=aah hm (aej _ _);rw[aay hlt] at hz;injection hz with hyx hrest
   have hy:y=items[i]:=by have:=congrArg Prod.fst hyx;simpa using this
   have hx:x=items2[i]:=by have:=congrArg Prod.snd hyx;simpa using this
   subst hy hx;have hd:(aak (min items.size items2.size)).drop i=i::(aak (min items.size items2.size)).drop (i+1):=by simp[aay,hm]
   rw[hd] at hR;unfold qz at hR;refine wpAny_bind (he i h1 h2 prog w _ _ ?_);cases hy:e i with
   | true=>
    rw[hy] at hR;wp_walk
    exact ⟨rfl,rfl,i+1,hrest,by simpa using hR⟩
   | false=>
    rw[hy] at hR;rw[if_pos (show (!false)=true from rfl)];dsimp only;refine wpAny_bind (wpAny_rule ?_);refine wpAny_bind (hc i h1 h2 hy prog w _ _ ?_);wp_walk
    exact ⟨_,rfl,by simpa using hR⟩
  case fin=>
   rintro ⟨b1,b2⟩ s' ⟨hb',rfl,i,hz,hR⟩;simp only at hb';subst hb';have hge:min items.size items2.size≤i:=by
    rcases abx i (items.toList.zip items2.toList).length with h' | h'
    ·rw[aay h'] at hz;cases hz
    ·exact hZ ▸ h'
   rw[adt (by simpa using hge)] at hR;wp_walk
   exact ⟨_,rfl,by simpa [Builtin.Tuple.tupleCompareSizes,qz] using hR⟩
  case h=>
   exact ⟨rfl,rfl,0,rfl,by simpa using h⟩
section
variable {A:Around} {s:Shared}
theorem wg.tuples {l b:Addr} {items items2:Array Value} {e c:Nat→Bool} (hl:s.heap.IsTuple l items) (hb:s.heap.IsTuple b items2) (hu:A.units < cLine)
  (he:∀j (h1:j < items.size) (h2:j < items2.size),EqAt A.in1 s items[j] items2[j] (e j)) (hc:∀j (h1:j < items.size) (h2:j < items2.size),e j=false→wg A.in1 s items[j] items2[j] (c j)):
  wg A s (.ref l) (.ref b) (qz e c (decide (items.size < items2.size)) (aak (min items.size items2.size))):=λprog w E Q h=>by
 obtain ⟨⟨cls,dd,data,sl⟩,ho,hc1,n,hd⟩:=id hl;obtain ⟨⟨cls2,dd2,data2,sl2⟩,ho2,hc2,n2,hd2⟩:=id hb;simp only at hc1 hd hc2 hd2;subst hc1 hd hc2 hd2;exact richCompare_meets_room (op:=.Lt) ⟨_,ho,rfl⟩ ⟨_,ho2,rfl⟩ F.slot_tuple_lt F.entry_tuple_lt (F.args_tuple_lt_2 _ _) (Bt l b items items2 n n2 dd dd2 sl sl2 e c)
  ⟨ho,ho2,he,hc,show Value.bool _≠Value.notImplemented∧Q (.bool _) s from ⟨(λx=>nomatch x),h⟩⟩ hu
theorem wg.str {x y:Str} {t u:Tok}:wg A s (.str x t) (.str y u) (decide (x.cps.toList < y.cps.toList)):=λprog w E Q h=>by
 refine wpAny_richCompare_same (T:="str") (id:="str.__lt__") (op:=.Lt) (typeIs_str s x t) (typeIs_str s y u) PyProof.Rows.slot_str_lt (PyProof.Rows.call_str_lt ?_);exact ⟨(λx=>nomatch x),h⟩
end
end PySem.SeqAt
namespace L2
open PySem PySem.Spec PyProof.Rows Srt
theorem uo {α:Type} {p q:α→Bool}:∀{l:List α},(∀x∈l,p x=true→q x=true)→(∃x∈l,q x=true∧p x=false)→l.countP p < l.countP q
 | [],_,h=>by obtain ⟨x,hx,_⟩:=h;cases hx
 | a::t,hm,h=>by
  rw[aem,aem];have mono:=adx (l:=t) (λx hx=>hm x (aa7 _ hx));have ha:=hm a aa8;by_cases hw:q a=true∧p a=false
  ·rw[hw.1,hw.2];simp;omega
  ·have:∃x∈t,q x=true∧p x=false:=by
    obtain ⟨x,hx,hq⟩:=h;rcases List.mem_cons.mp hx with rfl | hx
    ·exact absurd hq hw
    ·exact ⟨x,hx,hq⟩
   have ih:=uo (λx hx=>hm x (aa7 _ hx)) this;cases hp:p a with
   | true=>rw[ha hp];simp;omega
   | false=>cases q a <;> simp <;> omega
noncomputable def rank (n:Nat) (lt:Nat→Nat→Bool) (i:Nat):Int:=(((aak n).countP λk=>lt k i:Nat):Int)
structure Ord (n:Nat) (lt:Nat→Nat→Bool):Prop where
 irr:∀i,i < n→lt i i=false
 tr:∀i j k,i < n→j < n→k < n→lt i j=true→lt j k=true→lt i k=true
 neg:∀i j k,i < n→j < n→k < n→lt i k=true→lt i j=true∨lt j k=true
theorem Ord.rank {n:Nat} {lt:Nat→Nat→Bool} (o:Ord n lt) {i j:Nat} (hi:i < n) (hj:j < n):decide (rank n lt i < rank n lt j)=lt i j:=by
 cases h:lt i j with
 | true=>
  apply decide_eq_true
  have:(aak n).countP (λk=>lt k i) < (aak n).countP λk=>lt k j:=uo (λk hk e=>o.tr k i j (List.mem_range.mp hk) hi hj e h) ⟨i,List.mem_range.mpr hi,h,o.irr i hi⟩;unfold L2.rank;omega
 | false=>
  apply decide_eq_false
  have:(aak n).countP (λk=>lt k j)≤(aak n).countP λk=>lt k i:=adx λk hk e=>by
   rcases o.neg k i j (List.mem_range.mp hk) hi hj e with e | e
   ·exact e
   ·rw[h] at e;cases e
  unfold L2.rank;omega
noncomputable def ltS (x y:Str):Bool:=decide (x.cps.toList < y.cps.toList)
theorem o8 (x:Str):ltS x x=false:=decide_eq_false (List.lt_irrefl _)
theorem qg {x y z:Str} (h1:ltS x y=true) (h2:ltS y z=true):ltS x z=true:=decide_eq_true (List.lt_trans (of_decide_eq_true h1) (of_decide_eq_true h2))
theorem xa (x y:Str):ltS x y=true∨x=y∨ltS y x=true:=by
 by_cases h1:x.cps.toList < y.cps.toList
 ·exact .inl (decide_eq_true h1)
 by_cases h2:y.cps.toList < x.cps.toList
 ·exact .inr (.inr (decide_eq_true h2))
 exact .inr (.inl (str_eq.mpr (List.le_antisymm (List.not_lt.mp h2) (List.not_lt.mp h1))))
theorem Dn {x z:Str} (y:Str) (h:ltS x z=true):ltS x y=true∨ltS y z=true:=by
 rcases xa x y with e | e | e
 ·exact .inl e
 ·subst e;exact .inr h
 ·exact .inr (qg e h)
noncomputable def cg:List Str→List Str→Bool
 | [],[]=>false
 | [],_::_=>true
 | _::_,[]=>false
 | a::r,b::t=>if a=b then cg r t else ltS a b
theorem iu:∀x:List Str,cg x x=false
 | []=>rfl
 | a::r=>by
  show (if a=a then cg r r else ltS a a)=false
  rw[if_pos rfl,iu r]
theorem ql:∀x y:List Str,cg x y=true∨x=y∨cg y x=true
 | [],[]=>.inr (.inl rfl)
 | [],_::_=>.inl rfl
 | _::_,[]=>.inr (.inr rfl)
 | a::r,b::t=>by
  by_cases e:a=b
  ·subst e;have e1:cg (a::r) (a::t)=cg r t:=if_pos rfl;have e2:cg (a::t) (a::r)=cg t r:=if_pos rfl;rw[e1,e2];rcases ql r t with h | h | h
   ·exact .inl h
   ·exact .inr (.inl (by rw[h]))
   ·exact .inr (.inr h)
  ·have e1:cg (a::r) (b::t)=ltS a b:=if_neg e;have e2:cg (b::t) (a::r)=ltS b a:=if_neg λz=>e z.symm;rw[e1,e2];rcases xa a b with h | h | h
   ·exact .inl h
   ·exact absurd h e
   ·exact .inr (.inr h)
theorem my:∀{x y z:List Str},cg x y=true→cg y z=true→cg x z=true
 | [],[],_,h,_=>by cases h
 | [],_::_,[],_,h=>by cases h
 | [],_::_,_::_,_,_=>rfl
 | _::_,[],_,h,_=>by cases h
 | _::_,_::_,[],_,h=>by cases h
 | a::r,b::t,c::u,h1,h2=>by
  have h1:(if a=b then cg r t else ltS a b)=true:=h1;have h2:(if b=c then cg t u else ltS b c)=true:=h2;show (if a=c then cg r u else ltS a c)=true
  by_cases e1:a=b
  ·subst e1;rw[if_pos rfl] at h1;by_cases e2:a=c
   ·rw[if_pos e2] at h2 ⊢;exact my h1 h2
   ·rw[if_neg e2] at h2 ⊢;exact h2
  ·rw[if_neg e1] at h1;by_cases e2:b=c
   ·subst e2;rw[if_neg e1];exact h1
   ·rw[if_neg e2] at h2;have h3:=qg h1 h2;rw[if_neg (λz=>by subst z;rw[o8] at h3;cases h3)];exact h3
theorem zk {x z:List Str} (y:List Str) (h:cg x z=true):cg x y=true∨cg y z=true:=by
 rcases ql x y with e | e | e
 ·exact .inl e
 ·subst e;exact .inr h
 ·exact .inr (my e h)
theorem Af {e c:Nat→Bool} {d:Bool}:∀l:List Nat,SeqAt.qz e c d (l.map (·+1))=SeqAt.qz (λj=>e (j+1)) (λj=>c (j+1)) d l
 | []=>rfl
 | j::r=>by
  show (if e (j+1) then SeqAt.qz e c d (r.map (·+1)) else c (j+1))=_
  rw[Af r];rfl
theorem Du:∀x y:List Str,SeqAt.qz (λj=>decide (x[j]?=y[j]?)) (λj=>ltS (x.getD j "") (y.getD j "")) (decide (x.length < y.length)) (aak (min x.length y.length))=cg x y
 | [],[]=>rfl
 | [],b::t=>rfl
 | a::r,[]=>rfl
 | a::r,b::t=>by
  have e:min (a::r).length (b::t).length=min r.length t.length+1:=by rw[aaa,aaa];omega
  rw[e,List.range_succ_eq_map];show (if decide (some a=some b) then SeqAt.qz _ _ _ ((aak (min r.length t.length)).map (·+1)) else ltS a b)=if a=b then cg r t else ltS a b
  rw[Af];by_cases h:a=b
  ·rw[if_pos h,if_pos (by rw[h];exact decide_eq_true rfl),←Du r t];congr 1
   apply decide_eq_decide.mpr
   rw[aaa,aaa];omega
  ·rw[if_neg h,if_neg (by intro z;exact h (aa6 (of_decide_eq_true z)))]
section
variable {P:Program} {w:World} {A:Around} {H:Hp}
theorem G4 {zs:List Str}:Ords P w A H (zs.map V.str) (rank zs.length λi j=>ltS (zs.getD i "") (zs.getD j "")):=by
 intro s vs hok r h2;have hlen:=r.length;rw[aa3] at hlen;have at':∀i,i < zs.length→∃t,vs.getD i Value.none=.str (zs.getD i "") t:=λi hi=>by
  obtain ⟨u,hu,t,rfl⟩:=r.get (i:=i) (x:=.str (zs.getD i "")) (by rw[aae,aa2 hi,aaf,aa2 hi];rfl);exact ⟨t,by rw[aaf,hu];rfl⟩
 have o:Ord zs.length λi j=>ltS (zs.getD i "") (zs.getD j ""):=⟨λ_ _=>o8 _,λ_ _ _ _ _ _ a b=>qg a b,λ_ j _ _ _ _ a=>Dn _ a⟩;have sa:StrsAre vs (vs.map strOf):=strsAre_map vs λv hv=>by
  obtain ⟨i,hi,e⟩:=List.mem_iff_getElem.mp hv;obtain ⟨t,et⟩:=at' i (by omega);rw[aaf,aa2 hi] at et;exact ⟨_,t,by rw[←e];exact et⟩
 obtain ⟨v₁,v₂,rest,rfl⟩:∃v₁ v₂ rest,vs=v₁::v₂::rest:=by
  match vs,h2 with
  | v₁::v₂::rest,_=>exact ⟨v₁,v₂,rest,rfl⟩
 rw[keyKind_strs sa];refine wpAny_pure ⟨rfl,λi j C hi hj hC=>?_⟩;obtain ⟨t,e1⟩:=at' i (by omega);obtain ⟨u,e2⟩:=at' j (by omega);show wpAny (model P w) A (keyLt' oneType' _ _) C _ s
 rw[e1,e2];refine PySem.W.kas_lt_str ?_;rw[o.rank (by omega) (by omega)] at hC;exact hC
end
end L2
namespace L2.Srt
open PySem PySem.W PyProof.Rows
theorem qd {M:Model} {h:Heap}:∀(vs:List Value),(∀v∈vs,∃a o xs n f,v=Value.ref a∧h.get? a=some o∧o.cls=.type "tuple"∧o.data=.seq xs n∧xs[0]?=some f∧Looks M h (typeOf f) (.type "tuple"))→
  ∃fs,KatTups h vs fs∧fs.length=vs.length∧∀f∈fs,Looks M h (typeOf f) (.type "tuple")
 | [],_=>⟨[],trivial,rfl,λ_ h=>nomatch h⟩
 | v::vs,hv=>by
  obtain ⟨fs,k,e,l⟩:=qd vs λu hu=>hv u (aa7 _ hu);obtain ⟨a,o,xs,n,f,ev,ho,hc,hd,hf,hl⟩:=hv v aa8;refine ⟨f::fs,⟨⟨a,o,xs,n,ev,ho,hc,hd,hf⟩,k⟩,by rw[aaa,aaa,e],λg hg=>?_⟩;rcases List.mem_cons.mp hg with rfl | hg
  ·exact hl
  ·exact l g hg
end L2.Srt
namespace L2
open PySem PySem.Spec PyProof.Rows Srt
def He (H:Hp) (ys:List V) (ns:List (List Str)) (fs:List Int):Prop:=ys.length=ns.length∧fs.length=ns.length∧∀i,i < ns.length→∃t m,ys[i]?=some (.ref t)∧H t=some (.tup [.ref m,.int (fs.getD i 0)])∧H m=some (.tup ((ns.getD i []).map V.str))
section
variable {P:Program} {w:World} {A:Around} {H:Hp}
theorem qr {A:Around} {s:Shared} {x y:List Str} {us ws:List Value} (r1:Vals (x.map V.str) us) (r2:Vals (y.map V.str) ws) (j:Nat) (h1:j < us.toArray.size) (h2:j < ws.toArray.size):
  SeqAt.EqAt A s us.toArray[j] ws.toArray[j] (decide (x[j]?=y[j]?))∧SeqAt.wg A s us.toArray[j] ws.toArray[j] (ltS (x.getD j "") (y.getD j "")):=by
 have l1:=r1.length;have l2:=r2.length;rw[aa3] at l1 l2;have j1:j < x.length:=by rw[l1];simpa using h1
 have j2:j < y.length:=by rw[l2];simpa using h2
 obtain ⟨u,hu,ru⟩:=r1.get (i:=j) (x:=.str x[j]) (by rw[aae,aa2 j1];rfl);obtain ⟨v,hv,rv⟩:=r2.get (i:=j) (x:=.str y[j]) (by rw[aae,aa2 j2];rfl);have e1:us.toArray[j]=u:=by
  have:us[j]'(by simpa using h1)=u:=by rw[aa2 (by simpa using h1)] at hu;exact aa6 hu
  simpa using this
 have e2:ws.toArray[j]=v:=by
  have:ws[j]'(by simpa using h2)=v:=by rw[aa2 (by simpa using h2)] at hv;exact aa6 hv
  simpa using this
 rw[e1,e2,aa2 j1,aa2 j2,aaf,aaf,aa2 j1,aa2 j2];obtain ⟨t,rfl⟩:=ru;obtain ⟨t',rfl⟩:=rv;refine ⟨?_,SeqAt.wg.str⟩;have e3:decide (some x[j]=some y[j])=(x[j]==y[j]):=by
  rw[adw];apply decide_eq_decide.mpr
  exact ⟨λh=>aa6 h,λh=>by rw[h]⟩
 rw[e3];exact SeqAt.EqAt.str_str _ _ _ _
theorem Fd {ys:List V} {ns:List (List Str)} {fs:List Int} (hR:He H ys ns fs) (nd:ns.Nodup) (hu:A.units < cLine) (hu1:A.in1.units < cLine):Ords P w A H ys (rank ns.length λi j=>cg (ns.getD i []) (ns.getD j [])):=by
 intro s vs hok r h2;obtain ⟨hl1,hl2,hR⟩:=hR;have hlen:=r.length;have o:Ord ns.length λi j=>cg (ns.getD i []) (ns.getD j []):=⟨λ_ _=>iu _,λ_ _ _ _ _ _ a b=>my a b,λ_ j _ _ _ _ a=>zk _ a⟩;have row:∀i,i < ns.length→∃(t m:Addr) (tk:Nat) (us:List Value),vs.getD i Value.none=.ref t∧s.heap.IsTuple t [Value.ref m,Value.int (fs.getD i 0) tk].toArray∧s.heap.IsTuple m us.toArray∧Vals ((ns.getD i []).map V.str) us:=λi hi=>by
  obtain ⟨t,m,h1,h2,h3⟩:=hR i hi;obtain ⟨u,hu,ru⟩:=r.get h1;cases (show u=Value.ref t from ru)
  obtain ⟨_,its,ri,pi⟩:=dq hok h2;obtain ⟨_,us,rm,pm⟩:=dq hok h3;cases ri with
  | cons r1 rr=>
   cases rr with
   | cons r2 rr=>
    cases rr
    cases (show _=Value.ref m from r1)
    obtain ⟨tk,rfl⟩:=r2;exact ⟨t,m,tk,us,by rw[aaf,hu];rfl,pi,pm,rm⟩
 obtain ⟨firsts,kt,kl,kT⟩:=qd (M:=model P w) (h:=s.heap) vs λv hv=>by
  obtain ⟨i,hi,e⟩:=List.mem_iff_getElem.mp hv;obtain ⟨t,m,tk,us,et,⟨ob,ho,hc,n,hd⟩,⟨ob2,ho2,hc2,n2,hd2⟩,_⟩:=row i (by omega);rw[aaf,aa2 hi] at et;refine ⟨t,ob,_,n,.ref m,by rw[←e];exact et,ho,hc,hd,rfl,?_⟩;rw[←hc2];exact (PySem.W.Looks.ld ho2).andThen .now
 refine PySem.W.kat_kind kt (by omega) kT (by rfl) ⟨rfl,λi j C hi hj hC=>?_⟩;rw[o.rank (by omega) (by omega)] at hC;obtain ⟨t,m,tk,us,et,pt,pm,rm⟩:=row i (by omega);obtain ⟨t',m',tk',us',et',pt',pm',rm'⟩:=row j (by omega);obtain ⟨ob,ho,hc,n,hd⟩:=id pt;obtain ⟨ob',ho',hc',n',hd'⟩:=id pt';show wpAny (model P w) A (keyLt' _ _ _) C _ s
 rw[et,et'];refine PySem.W.kat_lt (b:=false) ho hd ho' hd' ?_;show PySem.W.KatLex P w A false (decide (2 < 2)) C [(.ref m,.ref m'),(.int (fs.getD i 0) tk,.int (fs.getD j 0) tk')] 0 s
 have l1:=rm.length;have l2:=rm'.length;rw[aa3] at l1 l2;by_cases hij:ns.getD i []=ns.getD j []
 ·have hij':i=j:=by
   have e:ns[i]'(by omega)=ns[j]'(by omega):=by
    rw[aaf,aaf,aa2 (by omega),aa2 (by omega)] at hij;exact hij
   exact (aei nd).mp e
  subst hij';have et2:=et.symm.trans et';have em:m=m':=by
   cases et2
   obtain ⟨o1,g1,_,n1,d1⟩:=pt;obtain ⟨o2,g2,_,n2,d2⟩:=pt';rw[g1] at g2;cases g2
   rw[d1] at d2;injection d2 with d2 _
   have:=congrArg (λa=>a.toList) d2;simp at this;exact this.1
  subst em;refine PySem.W.kat_cons (SeqAt.EqAt.same _ _ _ _ _ (PySem.W.kat_yes (PySem.W.kat_cons (SeqAt.EqAt.int_int _ _ _ _ _ _ _ _ ?_))));rw[show (fs.getD i 0==fs.getD i 0)=true from beq_self_eq_true _];refine PySem.W.kat_yes (PySem.W.kat_nil ?_);rw[iu] at hC;exact hC
 ·have hmm:m≠m':=λe=>by
   subst e;obtain ⟨o1,g1,_,n1,d1⟩:=pm;obtain ⟨o2,g2,_,n2,d2⟩:=pm';rw[g1] at g2;cases g2
   rw[d1] at d2;injection d2 with d2 _
   have e2:us=us':=by simpa using congrArg (λa=>a.toList) d2
   subst e2;have:=Vals.inj rm rm';exact hij (List.map_inj_right (λa b h=>V.str.inj h) |>.mp this)
  have eqf:((aak (min us.toArray.size us'.toArray.size)).all (λk=>decide ((ns.getD i [])[k]?=(ns.getD j [])[k]?))&&us.toArray.size==us'.toArray.size)=false:=by
   rw[Bool.eq_false_iff];intro h;rw[abf] at h;have hl:(ns.getD i []).length=(ns.getD j []).length:=by
    have:=h.2;simp only[aa9,beq_iff_eq] at this;omega
   apply hij
   apply acm
   intro k;by_cases hk:k < (ns.getD i []).length
   ·have:=List.all_eq_true.mp h.1 k (List.mem_range.mpr (by simp only[aa9];omega));exact of_decide_eq_true this
   ·rw[List.getElem?_eq_none_iff.mpr (by omega),List.getElem?_eq_none_iff.mpr (by omega)]
  refine PySem.W.kat_cons (SeqAt.EqAt.of_refs hmm (SeqAt.RcAt.tuples (e:=λk=>decide ((ns.getD i [])[k]?=(ns.getD j [])[k]?)) pm pm' hu λk h1 h2=>(qr rm rm' k h1 h2).1) _ _ _ _ ?_);rw[eqf];refine PySem.W.kat_no (PySem.W.kat_one _ _ ?_);refine SeqAt.wg.tuples (e:=λk=>decide ((ns.getD i [])[k]?=(ns.getD j [])[k]?)) (c:=λk=>ltS ((ns.getD i []).getD k "") ((ns.getD j []).getD k "")) pm pm' hu (λk h1 h2=>(qr rm rm' k h1 h2).1) (λk h1 h2 _=>(qr rm rm' k h1 h2).2) _ _ _ _ ?_;show C _ s
  have:=Du (ns.getD i []) (ns.getD j []);rw[l1,l2] at this;simp only[aa9];rw[this];exact hC
end
end L2
namespace L2
open PySem PySem.Spec PyProof.Rows
def Av:V→List V→Hp→VK→Prop:=λx xs H Q=>∃a y z o,x=.ref a∧xs=[y,z]∧fj H a y o∧Q (o.getD z) H
section
variable {X:Cx}
theorem zo (hu:X.A.units+1 < cLine):MtR X "dict.get" Av:=by
 intro pins s σ H x xs v us Q I rx r h;obtain ⟨a,y,z,o,rfl,rfl,g,q⟩:=h;cases (show v=Value.ref a from rx)
 cases r with
 | cons ry rr=>
  cases rr with
  | cons rz rr=>
   cases rr
   rename_i u1 u2
   rcases g with ⟨kvs,k,e,ey,l⟩ | ⟨kvs,k,b,e,ey,eb,l⟩
   ·subst ey;obtain ⟨_,hd,vs,rel,dd⟩:=u0 I.hok e;refine call_meetsIn PySem.F.slot_dict_get dd.typeIs PySem.F.entry_dict_get (PySem.F.args_dict_get_3 _ _ _) (meets_dict_get_default (ar X.prog X.w) a (jw ry) hd u2) ⟨_,dd.mapOf,⟨_,H,I.tok _,?_,q⟩⟩;rw[l];exact kh.getD (rel.val k) rz
   ·subst ey;cases (show u1=Value.ref b from ry)
    obtain ⟨_,hd,xs,rel,dd⟩:=vt I.hok e;have rv:=rel.val k;rw[←l] at rv;refine wpAny_call_entry PySem.F.slot_dict_get dd.typeIs PySem.F.entry_dict_get ?_ (PySem.F.args_dict_get_3 _ _ _);show wpAny _ _ (dictGet a (.ref b) >>=_) _ _ s
    refine wpAny_bind (wpAny_dictGet_heap (tupleKind_room_in1 hu) (nr I.hok eb) dd ?_);have g:=kh.getD rv rz;cases hf:atKey xs k with
    | some p=>
     rw[hf] at g;exact wpAny_pure ⟨p.2,rfl,⟨_,H,I.tok _,g,q⟩⟩
    | none=>
     rw[hf] at g;show wpAny _ _ (Builtin.Dict.missed a (.ref b) >>=_) _ _ _
     exact wpAny_bind (wpAny_missed_other hd (wpAny_pure ⟨u2,rfl,⟨_,H,I.tok _,g,q⟩⟩))
theorem vc {K:PySem.W.Frag} {a:Addr} {kvs:List (List Key×V)} {H:Hp} (h:H a=some (.dT kvs)):tyV K "dict" (.ref a) H:=.inr (.inr (.inl ⟨rfl,.inr ⟨kvs,h⟩⟩))
end
theorem Inv.pb {X:Cx} {pins:List (Addr×Obj)} {σ:St} {H:Hp} {s:Shared} {h':Heap} {t':Nat} {fp:List Addr} (I:Inv X pins σ H s) (k:∀b o,b∉fp→s.heap.get? b=some o→h'.get? b=some o) (hf:∀b∈fp,mv X pins H b):Inv X pins σ H { s with heap:=h',toks:=t' }:=by
 have nfp:∀b u,H b=some u→b∉fp:=λb u e z=>by rw[(hf b z).1] at e;cases e
 refine I.step (g':=s.gens) (d':=s.drawn) (ch:=fp) (λb hb=>?_) (λb o _ _ hc e _=>k b o hc e) (λb o _ _ hc e _=>⟨o.slots,k b o hc e⟩) (λ_ _ _ _ n=>n)
  (λb o hc e=>⟨o,k b o hc e⟩) (λ_ _ e=>e) (λ_ _ _ e=>e) (λb ps e=>⟨#[],by rw[e];simp⟩) (λm hm=>?_) (λb u e=>?_) I.bare
 ·obtain ⟨f0,f1,f2,f3,f4,f5⟩:=hf b hb;exact ⟨f3,f1,f4,f5⟩
 ·exact hm.at λo e=>k _ o (λz=>(hf _ z).2.1 rfl) e
 ·exact (I.hok b u e).vw (λc v hc q=>k c v (by
   rcases hc with rfl | hc
   ·exact nfp _ u e
   ·exact nfp _ _ hc) q) (λ_ q=>q) λ_ _ q=>q
noncomputable def Ite (K:PySem.W.Frag) (a:Addr):It:=
 ⟨λi H=>∃xs x,SqL K H a xs∧xs[i]?=some x,λi H x H'=>∃p y,(∀xs,SqL K H a xs→xs[i]?=some y)∧H p=none∧x=.ref p∧H'=upd H p (.tup [.int (i:Nat),y]),λi H=>∃xs,SqL K H a xs∧xs.length≤i⟩
theorem E4 {P:Program} {w:World} {K:PySem.W.Frag} {elts:List Expr} {x1} {tpos:Pos} (a it e:Addr) (hne:e≠it):Turn P w K (.Tuple elts x1 tpos) (Ite K a) [e,it] e (λi h=>(∃old,IsEnum h e it ((i:Nat):Int) old)∧h.IsListIter it a i) where
 mem:=by simp
 obj:=λi h st b hb=>by
  obtain ⟨⟨old,he⟩,o',e',c',d'⟩:=st;rcases List.mem_cons.mp hb with z | z
  ·subst z;exact ⟨_,he,λv z=>by cases z⟩
  ·have z:=List.mem_singleton.mp z;subst z;exact ⟨o',e',λv z=>by rw[d'] at z;cases z⟩
 keep:=λi h h' st k=>⟨by
  obtain ⟨old,he⟩:=st.1;exact ⟨old,k e (by simp) _ he⟩,st.2.at λo' e'=>k it (by simp) o' e'⟩
 item:=by
  intro X hP hw hK hc i pins s σ H E I hf st hg;subst hP hw hK;obtain ⟨xs,x,hq,hx⟩:=hg;obtain ⟨⟨old,he⟩,st2⟩:=st;obtain ⟨its,rv,p,hz⟩:=I.list hq;obtain ⟨u,hu,ru⟩:=rv.get hx;have le:e < s.heap.objs.size:=Heap.lt_size he;have li:it < s.heap.objs.size:=by
   obtain ⟨o',e',_⟩:=st2;exact Heap.lt_size e'
  refine wpAny_pyNext_enum_item he st2 p.isList (x:=u) (by simpa using hu) hne λh1 heo hit1 ht1 hz1 hk1=>⟨_,rfl,?_⟩;refine wpAny_letOwnedTupleGo_enum heo λh2 he2 sb=>?_;have sb:Heap.SameBut e h1 h2:=sb;have hfr:H s.heap.objs.size=none:=I.hok.fresh (aa4 _);have I1:Inv X pins σ (upd H s.heap.objs.size (.tup [.int (i:Nat),x])) { s with heap:=s.heap.push { cls:=.type "tuple",data:=.seq #[.int i s.toks,u] },toks:=s.toks+1 }:=
   I.laid (λb o' e'=>Heap.get?_push_of_some _ e') (aa4 _) (show br X.prog X.w _ _ _ (.tup [.int (i:Nat),x]) from ⟨by show (2:Nat)≤sizeLine;decide,[.int i s.toks,u],.cons ⟨_,rfl⟩ (.cons ru .nil),⟨_,Heap.get?_push_size _ rfl,rfl,_,rfl,rfl⟩⟩)
  have nup:∀b,b < s.heap.objs.size→(upd H s.heap.objs.size (.tup [.int (i:Nat),x])) b=H b:=λb hb=>af (aap hb);have fpl:∀b∈[e,it],b < s.heap.objs.size:=λb hb=>by
   rcases List.mem_cons.mp hb with z | z
   ·rw[z];exact le
   ·rw[List.mem_singleton.mp z];exact li
  have I2:=Inv.pb (h':=h2) (t':=s.toks+1) (fp:=[e,it]) I1 (λb o' hb e'=>by
   have be:b≠e:=λz=>hb (by simp[z]);have bi:b≠it:=λz=>hb (by simp[z]);have e':(s.heap.push { cls:=.type "tuple",data:=.seq #[.int i s.toks,u] }).get? b=some o':=e';by_cases hbs:b=s.heap.objs.size
   ·subst hbs;rw[Heap.get?_push_size _ rfl] at e';cases e'
    exact (sb.2 _ be).trans ht1
   ·rw[Heap.get?_push_ne _ _ _ hbs] at e';exact (sb.2 _ be).trans (hk1 b o' be bi e')) λb hb=>by
   obtain ⟨f0,f⟩:=hf b hb;exact ⟨by rw[nup b (fpl b hb)];exact f0,f⟩
  have ei:(((i+1:Nat):Int))=(i:Int)+1:=by omega
  refine ⟨.ref s.heap.objs.size,_,I2,rfl,⟨_,x,λys hy=>by rw[I.ng hy hq];exact hx,hfr,rfl,rfl⟩,⟨⟨u,?_⟩,hit1.at λo' e'=>(sb.2 _ hne.symm).trans e'⟩,λb hb=>by rw[nup b (fpl b hb)];exact (hf b hb).1⟩;rw[ei];exact he2
 done:=by
  intro X hP hw hK hc i pins s σ H E I hf st hg;subst hP hw hK;obtain ⟨xs,hq,hx⟩:=hg;obtain ⟨⟨old,he⟩,st2⟩:=st;obtain ⟨its,rv,p,hz⟩:=I.list hq;have hl:=rv.length;obtain ⟨f0,f1,f2,f3,f4,f5⟩:=hf it (by simp);exact wpAny_pyNext_enum_end (I.ok.hd hc) he st2 p.isList (by simp;omega) λh' eb=>⟨rfl,I.turned (t':=s.toks) (λb o' hb e'=>eb b o' hb e') f0 f1 f3 f4 f5⟩
 self:=λ_ _ _ _ _ st h=>by
  obtain ⟨⟨old,he⟩,_⟩:=st;exact wpAny_pyIter_enum he h
def iEnum (K:PySem.W.Frag) (ta:TA):TI:=λσ H R=>ta σ H λvs H1=>∃a xs,vs=[.ref a]∧SqL K H1 a xs∧R (Ite K a) H1
theorem yf:bootBuiltins "enumerate"=some (.type "enumerate"):=by decide+kernel
section
variable {X:Cx}
theorem Lf {a:Expr} {ta:TA} {p pos tpos:Pos} {elts:List Expr} {x1} (hg:Gl X "enumerate") (hm:X.mg "enumerate"=none) (ha:PA X [a] ta) (hs:starEach [a] X.env=[(false,eval a X.env)]:=by rfl):PI X (.Tuple elts x1 tpos) (.Call (.Name "enumerate" p) [a] [] pos) (iEnum X.K ta):=by
 intro pins s σ H R I h;refine Call_ (il I hg hm yf (PyProof.Rows.callWith_type1 (thn (ha pos pins s σ H _ I h) λus s1 ⟨vs,H1,I1,r1,q1⟩=>?_) hs rfl));obtain ⟨l,xs,e,hq,q⟩:=q1;subst e;cases r1 with
 | cons r rr=>
  cases rr
  cases (show _=Value.ref l from r)
  obtain ⟨its,rv,pl,hz⟩:=I1.list hq;refine call_enumerate_list pl.isList λh' he hit hsz hk=>?_;refine wpAny_pyIter_enum he ?_;have I2:Inv X pins σ H1 { s1 with heap:=h' }:=I1.kept (t':=s1.toks) hk;refine ⟨s1.heap.objs.size+1,[s1.heap.objs.size+1,s1.heap.objs.size],_,_,H1,rfl,I2,E4 l _ _ (Nat.succ_ne_self _),⟨⟨_,he⟩,hit⟩,λb hb=>?_,q⟩;rcases List.mem_cons.mp hb with z | z
  ·subst z;exact I1.kg (ad6 _) (I1.hok.fresh (ad6 _))
  ·rw[List.mem_singleton.mp z];exact I1.kg (aa4 _) (I1.hok.fresh (aa4 _))
end
theorem Fh {K:PySem.W.Frag} {a:Addr} {xs:List V} {g:TG} {tb:TS} {D:Ends} {σ:St} {H:Hp} (Pv:Nat→St→Hp→Prop) (h0:Pv 0 σ H) (hl:∀i σ H,i≤xs.length→Pv i σ H→SqL K H a xs)
  (hs:∀i x σ H p,xs[i]?=some x→Pv i σ H→H p=none→g (.ref p) σ (upd H p (.tup [.int (i:Nat),x])) λσ2 H2=>tb { D with nx:=Pv (i+1),ct:=Pv (i+1),bk:=D.nx } σ2 H2) (hd:∀σ H,Pv xs.length σ H→D.nx σ H):vy g tb D (Ite K a) σ H:=by
 refine ⟨λi m σ H=>m=xs.length - i∧i≤xs.length∧Pv i σ H,⟨xs.length,by simp,aac _,h0⟩,?_⟩;rintro i m σ H ⟨rfl,hi,p⟩;have q:=hl i σ H hi p;by_cases hlt:i < xs.length
 ·refine .inr ⟨⟨xs,_,q,aa2 hlt⟩,Pv (i+1),λσ' H' p'=>⟨xs.length - (i+1),by omega,rfl,hlt,p'⟩,λx H' y=>?_⟩;obtain ⟨t,v,hv,hn,rfl,rfl⟩:=y;exact hs i v σ H t (hv xs q) p hn
 ·have e:i=xs.length:=by omega
  subst e;exact .inl ⟨⟨xs,q,aa4 _⟩,hd σ H p⟩
end L2
namespace Pc
open PySem PySem.Spec L2 PyProof.Rows
noncomputable abbrev uc:Str:="abcdefghijklmnopqrstuvwxyz"
noncomputable def ft:List V:=[.str "add",.str "sub",.str "mul",.str "neg",.str "any",.str "var",.str "put",.str "load",.str "out"]
noncomputable def madeB (z y:Str):Bool:=z.cps.toList.all λc=>decide (c∈y.cps.toList)
noncomputable def fw (z:Str):Bool:=decide (1≤z.length)&&(decide (z.length≤8)&&(madeB z uc&&!inV (.str z) ft))
theorem iz {α:Type} (l:List α) (k:Int) (h0:0≤k) (h1:k < (l.length:Int)):∃c,atI l k=some c∧c∈l:=by
 have hk:k.toNat < l.length:=by omega
 have e:k=((k.toNat:Nat):Int):=by omega
 have q:atI l ((k.toNat:Nat):Int)=some l[k.toNat]:=cb (aa2 hk);rw[←e] at q;exact ⟨_,q,abg hk⟩
theorem join_le (sep:Str) (ys:List Str):(Txt.join sep ys).length≤(ys.map (·.length)).sum+ys.length*sep.length:=by
 show (Builtin.Str.glued sep ys).length≤_
 rw[StrLaws.glued_eq_join];exact StrLaws.join_length_le sep ys
theorem zj:∀(ys:List Str),(∀z∈ys,z.length=1)→(ys.map (·.length)).sum=ys.length
 | [],_=>rfl
 | y::r,h=>by
  rw[aaj,ab6,h y aa8,zj r λz hz=>h z (aa7 _ hz),aaa];omega
theorem Lx (z:Str) (a:Int):(dg z none (some a)).length+(dg z (some a) none).length≤z.length:=by
 show ((z.cps.toList.drop 0).take (HT.sIx z.length z.length (some a) - 0)).toArray.size+((z.cps.toList.drop (HT.sIx z.length 0 (some a))).take (z.length - HT.sIx z.length 0 (some a))).toArray.size≤z.length
 have e:HT.sIx z.length z.length (some a)=HT.sIx z.length 0 (some a):=rfl;rw[e];generalize HT.sIx z.length 0 (some a)=k;have hl:=slen z;simp only[aa9,aad,aao];omega
theorem De (x:Nat):(⟨#[x]⟩:Str).length=1:=rfl
end Pc
namespace Pc
noncomputable def pend:Nat→List Nat→Option Nat
 | l,[]=>some l
 | 0,_::_=>none
 | l+1,a::r=>pend (l+a) r
theorem kn:∀(xs ys:List Nat) (l:Nat),pend l (xs++ys)=(pend l xs).bind λm=>pend m ys
 | [],ys,l=>by cases l <;> rfl
 | a::r,ys,0=>rfl
 | a::r,ys,l+1=>by
  show pend (l+a) (r++ys)=(pend (l+a) r).bind _
  exact kn r ys (l+a)
theorem Ia (l a:Nat) (h:0 < l):pend l [a]=some (l - 1+a):=by
 cases l with
 | zero=>omega
 | succ l=>show some (l+a)=some (l+1 - 1+a);rw[ae5]
theorem vo (xs:List Nat) (a l d:Nat) (h:pend l xs=some d) (hd:0 < d):pend l (xs++[a])=some (d - 1+a):=by
 rw[kn,h];exact Ia d a hd
theorem jj (r:List Nat) (l:Nat) (h:pend l r=some 0) (p:Nat):∃m,pend m (r.drop p)=some 0:=by
 have e:r=r.take p++r.drop p:=(ab3 p r).symm;rw[e,kn] at h;cases q:pend l (r.take p) with
 | none=>rw[q] at h;cases h
 | some m=>rw[q] at h;exact ⟨m,h⟩
end Pc
namespace Pc
open PySem PySem.Spec L2 PyProof.Rows
noncomputable abbrev parts:List (Key×V):=[(Sum.inr "add",.int 2),(Sum.inr "sub",.int 2),(Sum.inr "mul",.int 2),(Sum.inr "neg",.int 1)]
noncomputable def arS (z:Str):Nat:=if z="add" then 2 else if z="sub" then 2 else if z="mul" then 2 else if z="neg" then 1 else 0
noncomputable def arV:V→Nat
 | .str z=>arS z
 | _=>0
def isW (v:V):Prop:=∃k:Key,v=kV k
theorem isW.str (z:Str):isW (.str z):=⟨Sum.inr z,rfl⟩
theorem isW.int (i:Int):isW (.int i):=⟨Sum.inl i,rfl⟩
theorem Ey (k:Key):(cp parts k).getD (.int 0)=.int (arV (kV k)):=by
 cases k with
 | inl i=>rfl
 | inr z=>
  show (cp parts (Sum.inr z)).getD (.int 0)=.int (arS z)
  unfold arS;by_cases h1:z="add"
  ·subst h1;rw[bw rfl,if_pos rfl];rfl
  rw[ax (λe=>h1 (Sum.inr.inj e).symm),if_neg h1];by_cases h2:z="sub"
  ·subst h2;rw[bw rfl,if_pos rfl];rfl
  rw[ax (λe=>h2 (Sum.inr.inj e).symm),if_neg h2];by_cases h3:z="mul"
  ·subst h3;rw[bw rfl,if_pos rfl];rfl
  rw[ax (λe=>h3 (Sum.inr.inj e).symm),if_neg h3];by_cases h4:z="neg"
  ·subst h4;rw[bw rfl,if_pos rfl];rfl
  rw[ax (λe=>h4 (Sum.inr.inj e).symm),if_neg h4];rfl
theorem arS_le (z:Str):arS z≤2:=by
 unfold arS;repeat' split
 all_goals decide
theorem Jl (v:V):arV v≤2:=by cases v <;> first | exact arS_le _ | exact aac _
theorem cq {z:Str} (h:0 < arS z):z="add"∨z="sub"∨z="mul"∨z="neg":=by
 unfold arS at h;by_cases h1:z="add"
 ·exact .inl h1
 by_cases h2:z="sub"
 ·exact .inr (.inl h2)
 by_cases h3:z="mul"
 ·exact .inr (.inr (.inl h3))
 by_cases h4:z="neg"
 ·exact .inr (.inr (.inr h4))
 rw[if_neg h1,if_neg h2,if_neg h3,if_neg h4] at h;exact absurd h (by decide)
theorem Dq (c:Nat):c∈uc.cps.toList↔(97≤c∧c≤122):=by
 have e:uc.cps.toList=List.range' 97 26:=by decide+kernel
 rw[e,List.mem_range'];constructor
 ·rintro ⟨i,h1,h2⟩;omega
 ·intro h;exact ⟨c - 97,by omega,by omega⟩
def isTerm (ws:List V):Prop:=pend 1 (ws.map arV)=some 0
def Eb (K:PySem.W.Frag):Sp:=λvs H Q _=>∃t ws,vs=[.ref t]∧SqT K H t ws∧(∀v∈ws,isW v)∧ws.length≤1000∧Q (.bl (decide (pend 1 (ws.map arV)=some 0))) H
def av (d:Addr) (H H':Hp):Prop:=∀b o,b≠d→H b=some o→H' b=some o
theorem av.refl (d:Addr) (H:Hp):av d H H:=λ_ _ _ h=>h
theorem av.trans {d:Addr} {H H1 H2:Hp} (a:av d H H1) (b:av d H1 H2):av d H H2:=λc o n h=>b c o n (a c o n h)
theorem av.of {d:Addr} {H H':Hp} (a:ag H H'):av d H H':=λb o _ h=>a b o h
theorem av.upd {d p:Addr} {H H':Hp} (a:av d H H') (hp:H p=none) (o:HO):av d H (L2.upd H' p o):=λb u n h=>by rw[af (ah h hp)];exact a b u n h
noncomputable def qp (H:Hp) (p:Addr):Nat:=match H p with | some (.lst ws)=>ws.length | _=>0
theorem zq {H:Hp} {p:Addr} {ws:List V} (h:H p=some (.lst ws)):qp H p=ws.length:=by unfold qp;rw[h]
theorem pz {z:Str}:∀{xs:List V},inV (.str z) xs=true→.str z∈xs:=by
 intro xs h;unfold inV at h;obtain ⟨y,hy,e⟩:=List.any_eq_true.mp h;cases y with
 | str x=>
  have e':x=z:=by simpa [eqV] using e
  exact e' ▸ hy
 | _=>simp[eqV] at e
theorem Hg {z:Str} (h1:1≤z.length) (h8:z.length≤8) (hc:∀c∈z.cps.toList,97≤c∧c≤122) (hk:inV (.str z) ft=false):fw z=true:=by
 unfold fw madeB;rw[decide_eq_true h1,decide_eq_true h8,hk];have:(z.cps.toList.all λc=>decide (c∈uc.cps.toList))=true:=List.all_eq_true.mpr λc h=>decide_eq_true ((Dq c).mpr (hc c h));rw[this];rfl
theorem let_at (k:Int):∃c:Nat,atI uc.cps.toList (k % 26)=some (97+c)∧c < 26:=by
 obtain ⟨c,h1,h2⟩:=iz uc.cps.toList (k % 26) (abt _ (by decide)) (by rw[show uc.cps.toList.length=26 by decide+kernel];omega);have h:=(Dq c).mp h2;exact ⟨c - 97,by rw[show 97+(c - 97)=c by omega];exact h1,by omega⟩
noncomputable def keptS:List Str:=["add","sub","mul","neg","any","var","put","load","out"]
theorem ia {z:Str} (h:fw z=true):arS z=0:=by
 cases e:arS z with
 | zero=>rfl
 | succ n=>
  have hk:inV (.str z) ft=true:=by
   rcases cq (z:=z) (by omega) with rfl | rfl | rfl | rfl <;> decide+kernel
  unfold fw at h;rw[hk] at h;simp at h
theorem qq:arS "neg"=1:=by decide+kernel
theorem av.free {d t:Addr} {H H':Hp} {o:HO} (s:av d H H') (hd:H' d=some o) (ht:H' t=none):H t=none:=by
 cases e:H t with
 | none=>rfl
 | some u=>
  by_cases h:t=d
  ·subst h;rw[hd] at ht;cases ht
  ·rw[s t u h e] at ht;cases ht
theorem Hq (ns:List Int) (lo hi:Option Int):∃ms:List Int,js (ns.map V.int) lo hi=ms.map V.int∧ms.length≤ns.length:=by
 refine ⟨_,by unfold js;rw[←acp,←List.map_take],?_⟩;rw[aad,aao];omega
noncomputable def opN (z:Str) (a b:Int):Int:=if z="add" then a+b else if z="sub" then a - b else if z="mul" then a*b else -a
def numW:V→Prop
 | .int _=>True
 | .str z=>0 < arS z
 | _=>False
noncomputable def Ek (w:V) (st:List Int):List Int:=match w with
 | .int i=>i::st
 | .str z=>opN z (st.getD 0 0) (st.getD 1 0)::st.drop (arS z)
 | _=>0::st
noncomputable def runN (ws:List V):List Int:=ws.foldr Ek []
theorem nv (w:V) (r:List V):runN (w::r)=Ek w (runN r):=rfl
theorem lq:∀(ws:List V) (l:Nat),(∀v∈ws,numW v)→pend l (ws.map arV)=some 0→(runN ws).length=l
 | [],l,_,h=>by
  have:l=0:=aa6 h;rw[this];rfl
 | w::r,0,_,h=>by cases h
 | w::r,l+1,hw,h=>by
  have ih:=lq r (l+arV w) (λv hv=>hw v (aa7 _ hv)) h;rw[nv];have hn:=hw w aa8;cases w with
  | int i=>
   show (i::runN r).length=l+1
   rw[aaa,ih];rfl
  | str z=>
   show (_::(runN r).drop (arS z)).length=l+1
   rw[aaa,aao,ih];show l+arS z - arS z+1=l+1
   omega
  | _=>exact hn.elim
noncomputable def mag (x:Int):Nat:=max x.natAbs 2
noncomputable def jx (st:List Int):Nat:=st.foldr (λx p=>mag x*p) 1
theorem mag2 (x:Int):2≤mag x:=Nat.le_max_right _ _
theorem uz:∀st:List Int,1≤jx st
 | []=>aa4 _
 | x::r=>by
  show 1≤mag x*jx r
  have:=mag2 x;have h:=uz r;exact aal (by omega) (aci (mag x) h)
theorem Ah (x:Int) (r:List Int):jx (x::r)=mag x*jx r:=rfl
theorem mag_le:∀(st:List Int) (x:Int),x∈st→mag x≤jx st
 | y::r,x,h=>by
  rw[Ah];rcases List.mem_cons.mp h with rfl | h
  ·exact aci _ (uz r)
  ·exact aal (mag_le r x h) (adu _ (by have:=mag2 y;omega))
theorem Bz {u v:Nat} (hu:2≤u) (hv:2≤v):u+v≤u*v:=by
 obtain ⟨a,rfl⟩:∃a,u=a+2:=⟨u - 2,by omega⟩;obtain ⟨b,rfl⟩:∃b,v=b+2:=⟨v - 2,by omega⟩;have:(a+2)*(b+2)=a*b+2*a+2*b+4:=by
  rw[aeh,Nat.mul_add,Nat.mul_add];omega
 omega
theorem Jv (z:Str) (a b:Int):mag (opN z a b)≤mag a*mag b∧(z="neg"→mag (opN z a b)=mag a):=by
 have ha:=mag2 a;have hb:=mag2 b;have hs:=Bz ha hb;have la:a.natAbs≤mag a:=ado _ _;have lb:b.natAbs≤mag b:=ado _ _;have le:∀n:Nat,n≤mag a*mag b→max n 2≤mag a*mag b:=λn h=>Nat.max_le.mpr ⟨h,by omega⟩;constructor
 ·unfold opN;split
  ·exact le _ (by have:=Int.natAbs_add_le a b;omega)
  split
  ·exact le _ (by have:=Int.natAbs_sub_le a b;omega)
  split
  ·refine le _ ?_;rw[Int.natAbs_mul];exact ac8 la lb
  ·refine le _ ?_;rw[ad4];have:mag a≤mag a*mag b:=aci _ (by omega);omega
 ·intro e;have n1:¬("neg":Str)="add":=by decide+kernel
  have n2:¬("neg":Str)="sub":=by decide+kernel
  have n3:¬("neg":Str)="mul":=by decide+kernel
  subst e;unfold opN;rw[if_neg n1,if_neg n2,if_neg n3];show max (-a).natAbs 2=max a.natAbs 2
  rw[ad4]
def xt:V→Prop
 | .int i=>mag i≤2 ^ 200
 | _=>True
theorem runN_size:∀(ws:List V) (l:Nat),(∀v∈ws,numW v∧xt v)→pend l (ws.map arV)=some 0→jx (runN ws)≤2 ^ (200*ws.length)
 | [],_,_,_=>aa4 _
 | w::r,0,_,h=>by cases h
 | w::r,l+1,hw,h=>by
  have hr:∀v∈r,numW v∧xt v:=λv hv=>hw v (aa7 _ hv);have ih:=runN_size r (l+arV w) hr h;have hlen:=lq r (l+arV w) (λv hv=>(hr v hv).1) h;have hn:=hw w aa8;have e:200*(w::r).length=200+200*r.length:=by rw[aaa];omega
  rw[nv,e,adv];have hp:1≤2 ^ 200:=ae6;cases w with
  | int i=>
   show mag i*jx (runN r)≤_
   exact ac8 hn.2 ih
  | str z=>
   have ha:0 < arS z:=hn.1;have hz:(runN r).length=l+arS z:=hlen;show mag (opN z ((runN r).getD 0 0) ((runN r).getD 1 0))*jx ((runN r).drop (arS z))≤_
   refine aal ?_ (aal ih (adu _ hp));by_cases hneg:z="neg"
   ·have h1:arS z=1:=by rw[hneg];exact qq
    rw[h1] at hz ⊢;obtain ⟨a,t,et⟩:∃a t,runN r=a::t:=abv (by intro q;rw[q] at hz;simp at hz);rw[et,(Jv z _ _).2 hneg];exact aa4 _
   ·have h2:arS z=2:=by
     rcases cq ha with rfl | rfl | rfl | rfl
     ·decide+kernel
     ·decide+kernel
     ·decide+kernel
     ·exact absurd rfl hneg
    rw[h2] at hz ⊢;obtain ⟨a,t,et⟩:∃a t,runN r=a::t:=abv (by intro q;rw[q] at hz;simp at hz);rw[et] at hz ⊢;obtain ⟨b,t',et'⟩:∃b t',t=b::t':=abv (by intro q;rw[q] at hz;simp at hz);rw[et'];show mag (opN z a b)*jx t'≤mag a*(mag b*jx t')
    rw[←Nat.mul_assoc];exact adz _ (Jv z a b).1
  | _=>exact hn.1.elim
end Pc
namespace L2
open PySem PySem.Spec PyProof.Rows
def kc (i:Int):Prop:=∃n,n≤1000000∧i.natAbs < 2 ^ n
theorem kc.le {i:Int} (h:kc i):Builtin.Int.intBits i≤2 ^ 20:=by
 obtain ⟨n,hn,hi⟩:=h;unfold Builtin.Int.intBits;split
 ·exact aac _
 ·rename_i h0
  have hne:i.natAbs≠0:=by
   intro e;exact h0 (by rw[Int.natAbs_eq_zero.mp e];rfl)
  have:=(Nat.log2_lt hne).mpr hi;have e:(2:Nat) ^ 20=1048576:=rfl;omega
def CBits (i j:Int):Prop:=kc i∧kc j
theorem C4 {X:Cx}:OpR X (binaryOp .Mult) (rI CBits λi j=>.int (i*j)):=opI λ_ _ _ _ _ _ _ hc q=>mul_int q (IntMulOk.of_bits hc.1.le hc.2.le)
theorem FnV.up {P:Program} {w:World} {K:PySem.W.Frag} {mg:Str→Option Value} {base:Heap} {j k:Nat} {ps:List Str} {sp:Sp} {v:V} (h:FnV P w K mg base j ps sp v) (l:j≤k):FnV P w K mg base k ps sp v:=by
 obtain ⟨f,fd,e,F,r⟩:=h;exact ⟨f,fd,e,F.mono l,r⟩
end L2
namespace Pc
open PySem PySem.Spec L2 PyProof.Rows
theorem yz {ws:List V} {l:Nat} (hw:∀v∈ws,numW v∧xt v) (h:pend l (ws.map arV)=some 0) (hl:ws.length≤1000) {x:Int} (hx:x∈runN ws):kc x:=by
 refine ⟨200*ws.length+1,by omega,?_⟩;have h1:=mag_le _ _ hx;have h2:=runN_size ws l hw h;have h3:x.natAbs≤mag x:=ado _ _;rw[Nat.pow_succ];have h4:1≤2 ^ (200*ws.length):=ae6;omega
def C6:Sp:=λvs H Q _=>∃(z:Str) (pl:Addr) (xs:List Int),vs=[.str z,.ref pl]∧0 < arS z∧H pl=some (.lst (adh V.int xs))∧xs.length=arS z∧(∀x∈xs,kc x)∧Q (.int (opN z (xs.getD 0 0) (xs.getD 1 0))) H
def Dy (P:Program) (w:World) (K:PySem.W.Frag) (mg:Str→Option Value) (base:Heap):Sp:=λvs H Q _=>∃(l:Addr) (fv:V) (ws:List V),vs=[.ref l,fv]∧FnV P w K mg base 1 ["word","parts"] C6 fv∧SqL K H l ws∧(∀v∈ws,numW v∧xt v)∧isTerm ws∧ws.length≤1000∧∀H',ag H H'→Q (.int ((runN ws).getD 0 0)) H'
theorem wx:∀(r:List Nat) (l:Nat),pend l r=some 0→l≤r.length
 | [],l,h=>by
  have:l=0:=aa6 h;omega
 | a::r,0,h=>by cases h
 | a::r,l+1,h=>by
  have:=wx r (l+a) h;rw[aaa];omega
theorem M1 (a b b':Int):opN "neg" a b=opN "neg" a b':=by
 have n1:¬("neg":Str)="add":=by decide+kernel
 have n2:¬("neg":Str)="sub":=by decide+kernel
 have n3:¬("neg":Str)="mul":=by decide+kernel
 unfold opN;rw[if_neg n1,if_neg n2,if_neg n3,if_neg n1,if_neg n2,if_neg n3]
theorem Mx {z:Str} (hz:0 < arS z) (st:List Int):opN z ((st.take (arS z)).getD 0 0) ((st.take (arS z)).getD 1 0)=opN z (st.getD 0 0) (st.getD 1 0):=by
 have g:∀i,i < arS z→(st.take (arS z)).getD i 0=st.getD i 0:=λi hi=>by
  rw[aaf,aaf,adf hi]
 rw[g 0 hz];by_cases h2:arS z=2
 ·rw[g 1 (by omega)]
 ·have hneg:z="neg":=by
   rcases cq hz with rfl | rfl | rfl | rfl
   ·exact absurd (by decide+kernel) h2
   ·exact absurd (by decide+kernel) h2
   ·exact absurd (by decide+kernel) h2
   ·rfl
  subst hneg;exact M1 _ _ _
theorem Ab (ws:List V) (p:Nat) (h:p≤ws.length):js ws none (some (p:Int))=ws.take p:=by
 unfold js;rw[HT.L1,HT.Kj,aeq h];rfl
end Pc
namespace L2
open PySem
theorem E8 {H H2:Hp} {a:Addr} {o:PySem.Obj} {u:HO} (ha:H a=some u) (hS:ag (upd H a (.frz o u)) H2):ag H (upd H2 a u):=λb v hb=>by
 by_cases e:b=a
 ·subst e;rw[ha] at hb;rw[aa];exact hb
 ·rw[af e];exact hS b v (by rw[af e];exact hb)
end L2
namespace Pc
open PySem L2
end Pc
namespace L2
open PySem PySem.Spec PyProof.Rows
def HV (P:Program) (w:World) (h:Heap):Nat→Value→Prop
 | 0,u=>∃k,(ar P w).is k u=true
 | n+1,u=>(∃k,(ar P w).is k u=true)∨∃a its,u=.ref a∧IsTup h a its∧∀v∈its.toList,HV P w h n v
def NstV (H:Hp):Nat→V→Prop
 | 0,v=>∃k,v=kV k
 | n+1,v=>(∃k,v=kV k)∨∃a xs,v=.ref a∧H a=some (.tup xs)∧∀x∈xs,NstV H n x
section
variable {P:Program} {w:World}
theorem zv:∀{xs:List V} {us:List Value},Vals xs us→∀u∈us,∃x∈xs,RelV x u
 | _,_,.nil,_,h=>nomatch h
 | x::xs,u::us,.cons r t,y,h=>by
  rcases List.mem_cons.mp h with e | e
  ·subst e;exact ⟨x,aa8,r⟩
  ·obtain ⟨z,hz,rz⟩:=zv t y e;exact ⟨z,aa7 _ hz,rz⟩
theorem hv_of {H:Hp} {h:Heap} (ok:HOk P w H h):∀(n:Nat) {v:V} {u:Value},NstV H n v→RelV v u→HV P w h n u
 | 0,_,_,⟨k,e⟩,r=>by subst e;exact ⟨k,jw r⟩
 | n+1,_,_,.inl ⟨k,e⟩,r=>by subst e;exact .inl ⟨k,jw r⟩
 | n+1,_,u,.inr ⟨a,xs,e,ha,hx⟩,r=>by
  subst e;cases (show u=Value.ref a from r)
  obtain ⟨_,its,rv,p⟩:=(dq ok ha);refine .inr ⟨a,its.toArray,rfl,p,λv hv=>?_⟩;obtain ⟨x,mx,rx⟩:=zv rv v (by simpa using hv);exact hv_of ok n (hx x mx) rx
theorem zx {A:Around} {E:Value→Shared→Prop} {s:Shared} {k:Key} {u:Value} {Q:Int→Shared→Prop} (hk:(ar P w).is k u=true) (q:∀i tk,Q i { s with toks:=tk }):wpAny (model P w) A (pyHash u) Q E s:=(ar P w).pyHash hk (q _ _)
theorem yu:∀(n:Nat) {u:Value} {A:Around} {E:Value→Shared→Prop} {s:Shared} {Q:Int→Shared→Prop},HV P w s.heap n u→A.units+n < cLine→(∀i tk,Q i { s with toks:=tk })→wpAny (model P w) A (pyHash u) Q E s
 | 0,_,_,_,_,_,⟨k,hk⟩,_,q=>zx hk q
 | n+1,_,_,_,_,_,.inl ⟨k,hk⟩,_,q=>zx hk q
 | n+1,u,A,E,s,Q,.inr ⟨a,its,e,ht,hi⟩,hu,q=>by
  subst e;have hT:s.TypeIs (.ref a) "tuple":=ht.typeIs;obtain ⟨o,ho,hc,m,hd⟩:=id ht;have hu0:A.units < cLine:=by omega
  unfold pyHash pyHashByItsType;refine wpAny_bind (wpAny_cRoomFor_or (.inr hu0) (wpAny_bind (wpAny_specialOf hT F.slot_tuple_hash.lookup ?_)));have nb:¬(some (Value.builtin "tuple.__hash__")==some Value.none)=true:=by rw[beq_builtin_none];exact aai
  dsimp only;rw[if_neg nb];refine wpAny_bind (wpAny_specialOf hT F.slot_tuple_hash.lookup ?_);show wpAny _ A (callSpecialIfBoundUnlessNone? (Value.ref a) "__hash__" _ >>=_) Q E s
  refine wpAny_bind (wpAny_callSpecialIfBoundUnlessNone?_slot hT F.slot_tuple_hash (wpAny_call_entry F.slot_tuple_hash hT F.entry_tuple_hash (?_:wpAny _ _ (Builtin.Tuple.tupleItemsOf (.ref a) >>=_) _ _ s) (F.args_tuple_hash_1 _)));refine wpAny_bind (wpAny_tupleItemsOf ho hd (wpAny_bind ?_));rw[←acd];refine wpAny_forIn_list _ (λrest (b:Array Int) s'=>(∃tk,s'={ s with toks:=tk })∧∀v∈rest,HV P w s.heap n v) _ ?_ ?_ _ _ ⟨⟨s.toks,rfl⟩,hi⟩
  ·rintro x rest b s' ⟨⟨tk,rfl⟩,hr⟩;have hu1:A.in1.units+n < cLine:=by
    show A.units+1+n < cLine
    omega
   refine wpAny_bind (yu n (hr x aa8) hu1 λi tk'=>?_);exact wpAny_pure ⟨⟨tk',rfl⟩,λv hv=>hr v (aa7 _ hv)⟩
  ·rintro b s' ⟨⟨tk,rfl⟩,_⟩;refine (show wpAny _ _ (retInt (Builtin.Tuple.tupleHashOf b.toList)) _ _ _ from wpAny_ret_mkInt ?_);generalize Builtin.Tuple.tupleHashOf b.toList=j;show wpAny _ A (pyHashByItsType.reduced j) Q E _
   unfold pyHashByItsType.reduced;refine wpAny_ite_split (λ_=>wpAny_pure (q _ _)) λ_=>wpAny_bind (wpAny_rule (wpAny_pure (q _ _)))
theorem u5:∀(n m:Nat) {u:Value} {A:Around} {E:Value→Shared→Prop} {s:Shared} {Q:Bool→Shared→Prop},n≤m→HV P w s.heap n u→Q true s→wpAny (model P w) A (eqIsQuiet m u) Q E s
 | 0,m,_,_,_,_,_,_,⟨k,hk⟩,q=>by
  rw[eqIsQuiet_byValue m ((ar P w).byValue k _ hk)];exact wpAny_pure q
 | n+1,m,_,_,_,_,_,_,.inl ⟨k,hk⟩,q=>by
  rw[eqIsQuiet_byValue m ((ar P w).byValue k _ hk)];exact wpAny_pure q
 | n+1,0,_,_,_,_,_,hl,.inr _,_=>by omega
 | n+1,m+1,u,A,E,s,Q,hl,.inr ⟨a,its,e,ht,hi⟩,q=>by
  subst e;have hT:s.TypeIs (.ref a) "tuple":=ht.typeIs;obtain ⟨o,ho,hc,k,hd⟩:=id ht;unfold eqIsQuiet;refine wpAny_bind (wpAny_specialOf hT F.slot_tuple_eq.lookup (?_:wpAny _ _ (isInstance (.ref a) (.type "tuple") >>=_) _ _ s));refine wpAny_bind (wpAny_isInstance hT isSubtype_tuple_tuple ?_);simp only[ad9,ab7,if_false];refine wpAny_bind (wpAny_seqItems ho hd (wpAny_bind (?_:wpAny _ _ (forIn its _ _) _ _ s)));rw[←acd];refine wpAny_forIn_list _ (λrest r s'=>r.1=none∧s'=s∧∀v∈rest,HV P w s.heap n v) _ ?_ ?_ _ _ ⟨rfl,rfl,hi⟩
  ·rintro v rest r s' ⟨hr,rfl,hall⟩;refine wpAny_bind (u5 n m (by omega) (hall v aa8) ?_);simp only[ad9,ab7,if_false];exact wpAny_pure ⟨rfl,rfl,λx hx=>hall x (aa7 _ hx)⟩
  ·rintro ⟨r1,r2⟩ s' ⟨hr,rfl,_⟩;simp only at hr;subst hr;exact wpAny_pure q
theorem eq_key {A:Around} {E:Value→Shared→Prop} {s:Shared} {k:Key} {u:Value} {b:Addr} {its:Array Value} {Q:Bool→Shared→Prop} (hk:(ar P w).is k u=true) (hb:IsTup s.heap b its) (hu:A.units < cLine) (q:Q false s):wpAny (model P w) A (eqBool u (.ref b)) Q E s:=by
 rcases b7 hk with ⟨i,t,rfl,rfl⟩ | ⟨x,t,rfl,rfl⟩
 ·exact SeqAt.EqAt.int_tuple i t (show s.heap.IsTuple b its from hb) hu P w E Q q
 ·exact SeqAt.EqAt.str_tuple x t (show s.heap.IsTuple b its from hb) hu P w E Q q
theorem Bj {d b:Addr} {n:Nat} {j:Int} {vs:List (Key×Value)} {its:Array Value} {A:Around} {E:Value→Shared→Prop} {s:Shared} {Q:Option Nat→Shared→Prop} (hd:s.heap.DictOf (ar P w) d vs) (hb:IsTup s.heap b its) (hn:n≤8) (hv:HV P w s.heap n (.ref b)) (hu:A.units < cLine) (q:Q none s):
  wpAny (model P w) A (dictFind d (.ref b) j) Q E s:=by
 obtain ⟨o,es,ep,ho,hc,hdat,hk,hp,hnd⟩:=hd;have hval:∀(i:Nat) (e:DictEntry),es[i]?=some e→∃k,(ar P w).is k e.key=true:=λi e he=>by
  obtain ⟨k,h1,_⟩:=hk e (Array.mem_of_getElem? he);exact ⟨k,h1⟩
 have nref:∀{k:Key} {u:Value},(ar P w).is k u=true→¬u=Value.ref b:=λ{k u} h e=>by
  have:=(ar P w).byValue k u h;rw[e] at this;cases this
 have hany:¬(es.any λe=>e.key==Value.ref b&&e.hash !=j)=true:=by
  rw[←Array.any_toList,List.any_eq_true];rintro ⟨e,he,hc⟩;obtain ⟨k,h1,_⟩:=hk e (Array.mem_toList_iff.mp he);rw[abf] at hc;exact nref h1 (eq_of_beq hc.1)
 generalize hpl:placesWithHash es.size (λi=>es[i]?.map (·.hash)) j=places;have hst:∀v∈places.filterMap (λi=>es[i]?.map (·.key)),∃k,(ar P w).is k v=true:=λv hv=>by
  obtain ⟨i,_,hi⟩:=List.mem_filterMap.mp hv;obtain ⟨e,he,rfl⟩:=Option.map_eq_some_iff.mp hi;exact hval i e he
 unfold dictFind;try with_reducible refine wpAny_holding ?_
 refine wpAny_bind (wpAny_dictEntries ho hdat ?_);dsimp only;rw[hpl];generalize places.filterMap (λi=>es[i]?.map (·.key))=stored at hst;have c1:¬(Value.ref b::stored).all carriedByValue=true:=by simp[carriedByValue]
 have c3:¬(stored==[Value.ref b])=true:=λe=>by
  obtain ⟨k,hk⟩:=hst (.ref b) (by rw[eq_of_beq e];exact List.mem_singleton.mpr rfl);exact nref hk rfl
 have may:∀Q':Bool→Shared→Prop,Q' false s→wpAny (model P w) A (tableMayTell (.ref b) stored) Q' E s:=λQ' q'=>by
  unfold tableMayTell;split
  ·exact wpAny_pure q'
  ·refine wpAny_bind (u5 n 8 hn hv ?_);simp only[ad9,ab7,if_false];refine wpAny_bind (wpAny_forIn_list _ (λrest r s'=>s'=s∧r=(none,())∧∀v∈rest,∃k,(ar P w).is k v=true) _ ?_ ?_ _ _ ⟨rfl,rfl,hst⟩)
   ·rintro x rest r s' ⟨rfl,rfl,hr⟩;obtain ⟨k,hk⟩:=hr x aa8;rw[eqIsQuiet_byValue 8 ((ar P w).byValue k _ hk)];refine wpAny_bind (wpAny_pure ?_);simp only[ad9,ab7,if_false];exact wpAny_pure ⟨rfl,rfl,λv hv=>hr v (aa7 _ hv)⟩
   ·rintro r s' ⟨rfl,rfl,_⟩;exact wpAny_pure q'
 rw[if_neg c1,if_neg hany,if_neg c3];refine wpAny_bind (may _ ?_);rw[if_neg (by simp)];refine wpAny_bind (wpAny_forIn_list _ (λrest r s'=>s'=s∧r=(none,none)) _ ?_ ?_ _ _ ⟨rfl,rfl⟩)
 ·rintro x rest r s' ⟨rfl,rfl⟩;cases hx:es[x]? with
  | none=>exact wpAny_pure ⟨rfl,rfl⟩
  | some e=>
   obtain ⟨k,hk⟩:=hval x e hx;dsimp only;refine wpAny_ite_split (λ_=>?_) λ_=>wpAny_pure ⟨rfl,rfl⟩;refine wpAny_bind (wpAny_dictEpoch ho hdat (wpAny_bind (eq_key hk hb hu (wpAny_bind (wpAny_dictEpoch ho hdat ?_)))));rw[if_neg (show ¬(ep !=ep)=true by simp)];simp only[ab7,if_false,ad3];exact wpAny_bind (wpAny_rule (wpAny_pure ⟨rfl,rfl⟩))
 ·rintro r s' ⟨rfl,rfl⟩;exact wpAny_pure q
end
def Jq (kvs:List (Key×V)) (ty tx:TE):TE:=λσ H Q=>ty σ H λy H2=>tx σ H2 λz H3=>(∃k,y=kV k∧Q ((cp kvs k).getD z) H3)∨∃a xs,y=.ref a∧H3 a=some (.tup xs)∧(∀x∈xs,NstV H3 3 x)∧Q z H3
section
variable {X:Cx} {a:Addr} {kvs:List (Key×V)}
theorem G5 {o e f:Expr} {apos cpos:Pos} {ty tx:TE} (hu:X.A.units+8 < cLine) (ho:PE X o (tC (.ref a))) (md:ModD X.w X.K a kvs) (he:PE X e ty) (hf:PE X f tx) (m:M2 X o "get" apos e f cpos):PE X (.Call (.Attribute o "get" apos) [e,f] [] cpos) (Jq kvs ty tx):=by
 intro pins s σ H Q I h;refine wpAny_Call_method m.base m.few m.line PySem.F.plainAttrs_dict PySem.F.slot_dict_get PySem.F.type_dict_get (thn (ho pins s σ H (λx H1=>x=.ref a∧H1=H) I ⟨rfl,rfl⟩) λu s1 ⟨x,H1,I1,rx,ex,eH⟩=>?_);subst ex eH;obtain rfl:u=Value.ref a:=rx;obtain ⟨vs,rel,dd⟩:=md.2 X.prog _ I1.kIn;refine ⟨dd.typeIs,λb q=>?_,?_⟩
 ·cases q
  obtain ⟨ob,_,_,h1,h2,_⟩:=dd;exact ⟨ob,h1,h2.2.1⟩
 rw[m.trees];refine Calls.callWith_builtin rfl (Calls.evalArgs_plain (Calls.spliced_cons (thn (he pins s1 σ H1 _ I1 h) λiv s2 ⟨y,H2,I2,ry,q2⟩=>
  Calls.spliced_cons (thn (hf pins s2 σ H2 _ I2 q2) λfv s3 ⟨z,H3,I3,rz,q3⟩=>Calls.spliced_nil ?_))))
 obtain ⟨vs',rel',dd'⟩:=md.2 X.prog _ I3.kIn;rcases q3 with ⟨k,ek,q3⟩ | ⟨b,xs,ey,hb,hx,q3⟩
 ·subst ek;refine call_meetsIn PySem.F.slot_dict_get dd'.typeIs PySem.F.entry_dict_get (PySem.F.args_dict_get_3 _ _ _) (meets_dict_get_default (ar X.prog X.w) a (jw ry) md.1 fv) ⟨_,dd'.mapOf,⟨_,H3,I3.tok _,?_,q3⟩⟩;exact (rel'.val k).getD rz
 ·subst ey;cases (show iv=Value.ref b from ry)
  have hv:HV X.prog X.w s3.heap 4 (.ref b):=hv_of I3.hok 4 (v:=.ref b) (.inr ⟨b,xs,rfl,hb,hx⟩) rfl;obtain ⟨_,its,rv,pt⟩:=(dq I3.hok hb);refine wpAny_call_entry PySem.F.slot_dict_get dd'.typeIs PySem.F.entry_dict_get (?_:wpAny _ _ (dictGet a (.ref b) >>=_) _ _ s3) (PySem.F.args_dict_get_3 _ _ _);refine wpAny_bind ?_;unfold dictGet;try with_reducible refine wpAny_holding ?_
  refine wpAny_bind (yu 4 hv (by show X.A.units+1+4 < cLine;omega) λi tk=>?_);refine wpAny_bind (Bj (s:={ s3 with toks:=tk }) dd' pt (by decide) hv (by show X.A.units+1 < cLine;omega) (wpAny_pure ?_));refine (show wpAny _ _ (Builtin.Dict.missed a (.ref b) >>=_) _ _ _ from wpAny_bind (wpAny_missed_other md.1 (wpAny_pure ⟨fv,rfl,⟨_,H3,I3.tok _,rz,q3⟩⟩)))
end
end L2
namespace L2.Itm
open PySem PySem.Spec PyProof.Rows
structure Raw (h:Heap) (d:Addr) (es:Array DictEntry) (ep:Nat) (o:Obj):Prop where
 there:h.get? d=some o
 exact':o.ExactDict
 data:o.data=.dict es ep
theorem Raw.typeIs {s:Shared} {d:Addr} {es:Array DictEntry} {ep:Nat} {o:Obj} (r:Raw s.heap d es ep o):s.TypeIs (.ref d) "dict":=⟨o,r.there,r.exact'.1⟩
section
variable {prog:Program} {w:World} {A:Around} {E:Value→Shared→Prop} {s:Shared} {d:Addr} {es:Array DictEntry} {ep:Nat} {o:Obj}
theorem Cj {Q:Value→Shared→Prop} (hd:(d==sysModules)=false) (r:Raw s.heap d es ep o) (q:Q (.ref s.heap.objs.size) { s with heap:=s.heap.push { cls:=.type "dict_items",data:=.fields #[.ref d] } }):
  wpAny (model prog w) A (call (.builtin "dict.items") [.ref d]) Q E s:=by
 refine wpAny_call_entry PySem.F.slot_dict_items r.typeIs PySem.F.entry_dict_items ?_ (PySem.F.args_dict_items_1 _);unfold Builtin.«dict.items»;refine wpAny_bind ?_;unfold Builtin.Dict.noArgs;refine wpAny_bind (wpAny_notOrdered_dict r.typeIs (?_:wpAny _ _ (pure d) _ _ s));refine wpAny_pure (?_:wpAny _ _ (Builtin.Dict.showsAll d >>=_) _ _ s);unfold Builtin.Dict.showsAll;rw[if_neg (show ¬(d==sysModules)=true by rw[hd];decide)];exact wpAny_bind (wpAny_pure (wpAny_bind (wpAny_newObj_type (wpAny_pure ⟨_,rfl,q⟩))))
theorem Aw {v:Addr} {Q:Value→Shared→Prop} (hv:s.heap.IsItemsView v d) (r:Raw s.heap d es ep o) (q:Q (.ref s.heap.objs.size) { s with heap:=s.heap.push { cls:=.type "dict_itemiterator",data:=.fields #[.none,.bool false,.ref d,.int 0 0,.int es.size 0,.int ep 0,.none,.none] } }):
  wpAny (model prog w) A (pyIter (.ref v)) Q E s:=by
 obtain ⟨ov,hov,hcv,hdv⟩:=id hv;refine wpAny_pyIter_slot hv.typeIs PySem.F.slot_dict_items_iter (wpAny_call_entry PySem.F.slot_dict_items_iter hv.typeIs PySem.F.entry_dict_items_iter ?_ (PySem.F.args_dict_items_iter_1 _));unfold Builtin.«dict_items.__iter__»;refine wpAny_bind (wpAny_pure (wpAny_bind ?_));unfold Builtin.Dict_items.dictOf;refine wpAny_bind (wpAny_field hov hdv (x:=.ref d) rfl (wpAny_pure (wpAny_bind ?_)));unfold Builtin.Dict_items.newIterator;refine wpAny_bind (wpAny_dictEntries r.there r.data (wpAny_bind (wpAny_dictEpoch r.there r.data ?_)));have own:Builtin.Dict_items.ownsTuple "dict_itemiterator"=true:=by decide
 simp only[own,if_true];refine wpAny_newObj_type (wpAny_pure ⟨_,rfl,"dict_itemiterator",_,⟨_,Heap.get?_push_size _ rfl,rfl⟩,PySem.F.slot_dict_itemiterator_next.lookup,by simpa [rawInt,Builtin.Dict_items.ownedTupleFields] using q⟩)
  (by simp only[sizeOk,Builtin.Dict_items.ownedTupleFields,aa9,aa5,aaa,ac1];rw[sizeLine_eq];omega)
theorem Ba {it:Addr} {i:Nat} {e:DictEntry} {ok ov:Value} {Q:Option Value→Shared→Prop} (hit:IsItemIter s.heap it d i es.size ep ok ov) (r:Raw s.heap d es ep o) (hx:es[i]?=some e)
  (q:∀h',IsItemIterOut h' it d (i+1) es.size ep e.key e.val s.heap.objs.size→h'.get? s.heap.objs.size=some { cls:=.type "tuple",data:=.seq #[e.key,e.val] }→h'.objs.size=s.heap.objs.size+1→
   (∀b o,b≠it→s.heap.get? b=some o→h'.get? b=some o)→Q (some (.ref s.heap.objs.size)) { s with heap:=h' }):wpAny (model prog w) A (pyNext (.ref it)) Q E s:=by
 obtain ⟨hq,g,dr,tk,os⟩:=s;have hT:Shared.TypeIs ⟨hq,g,dr,tk,os⟩ (.ref it) "dict_itemiterator":=⟨_,hit,rfl⟩;have hlt:i < es.size:=(Array.getElem?_eq_some_iff.mp hx).1;unfold pyNext;refine wpAny_bind (wpAny_attempt (wpAny_callSpecial?_slot (name:=Str.ofString "__next__") hT PySem.F.slot_dict_itemiterator_next (wpAny_call_entry PySem.F.slot_dict_itemiterator_next hT PySem.F.entry_dict_itemiterator_next ?_ (PySem.F.args_dict_itemiterator_next_1 _))));refine wpAny_bind (wpAny_pure (wpAny_bind (wpAny_bind ?_)));refine wpAny_bind (wpAny_typeNameOfWhole_itemiter hT (wpAny_pure (wpAny_bind (wpAny_fieldsOf hit rfl ?_))));have own:Builtin.Dict_items.ownsTuple "dict_itemiterator"=true:=by decide
 simp only[own,if_true];refine (show wpAny _ _ (if (Value.ref d==Value.none)=true then _ else _) _ _ _ from ?_);rw[if_neg (show ¬(Value.ref d==Value.none)=true from λz=>by cases z)];refine wpAny_bind (wpAny_pure (wpAny_bind (wpAny_dictEntries r.there r.data ?_)));rw[if_neg (by simp)];refine wpAny_bind (wpAny_pure (wpAny_bind (wpAny_dictEpoch r.there r.data ?_)));rw[if_neg (by simp)];refine wpAny_pure ?_;simp only[show ¬((i:Int) < 0) by omega,if_false,abk,hx];refine wpAny_bind ?_;refine wpAny_bind (wpAny_typeNameOfWhole_itemiter hT (wpAny_pure (wpAny_bind (wpAny_isOneOf_itemiter hT ?_))));have ei:((i+1:Nat):Int)=(i:Int)+1:=by omega
 refine wpAny_bind (show wpAny _ _ (setField (.ref it) 3 (rawInt ((i:Int)+1))) _ _ (Shared.mk hq g dr tk os) from wpAny_setField_rec hit (by simp) λh1 e1 s1=>?_);have s1:Heap.SameBut it hq h1:=s1;have e1:IsItemIter h1 it d (i+1) es.size ep ok ov:=by
  unfold IsItemIter;rw[ei];simpa [rawInt] using e1
 have T1:Shared.TypeIs ⟨h1,g,dr,tk,os⟩ (.ref it) "dict_itemiterator":=⟨_,e1,rfl⟩;refine wpAny_bind (wpAny_holding (wpAny_bind (wpAny_isOneOf_itemiter T1 (wpAny_bind (wpAny_isOneOf_itemiter T1 ?_)))));refine (show wpAny _ _ (Builtin.Dict_items.pairFromOwner (.ref it) 6 e.key e.val) _ _ (Shared.mk h1 g dr tk os) from ?_);unfold Builtin.Dict_items.pairFromOwner;refine wpAny_bind (wpAny_newTuple ?_);have e2:IsItemIter (h1.push { cls:=.type "tuple",data:=.seq #[e.key,e.val] }) it d (i+1) es.size ep ok ov:=Heap.get?_push_of_some _ e1;have z1:h1.objs.size=hq.objs.size:=s1.1;have t2:(h1.push { cls:=.type "tuple",data:=.seq #[e.key,e.val] }).get? hq.objs.size=some { cls:=.type "tuple",data:=.seq #[e.key,e.val] }:=by
  rw[←z1];exact Heap.get?_push_size _ rfl
 have z2:(h1.push { cls:=.type "tuple",data:=.seq #[e.key,e.val] }).objs.size=hq.objs.size+1:=by rw[Heap.size_push,z1]
 have k2:∀b o,b≠it→hq.get? b=some o→(h1.push { cls:=.type "tuple",data:=.seq #[e.key,e.val] }).get? b=some o:=λb o' hb he=>Heap.get?_push_of_some _ (s1.extBut b o' hb he);have lit:it < hq.objs.size:=Heap.lt_size hit;rw[z1];refine (show wpAny _ _ (Builtin.Dict_items.ownedTupleIsFree (.ref it) >>=_) _ _ (Shared.mk (h1.push { cls:=.type "tuple",data:=.seq #[e.key,e.val] }) g dr tk os) from ?_);generalize h1.push { cls:=.type "tuple",data:=.seq #[e.key,e.val] }=h2 at e2 t2 z2 k2;clear T1 e1 s1 z1;refine wpAny_bind ?_;unfold Builtin.Dict_items.ownedTupleIsFree;refine wpAny_bind (wpAny_field e2 rfl (x:=.none) rfl (wpAny_pure ?_));simp only[if_true];refine wpAny_bind (wpAny_field e2 rfl (x:=ok) rfl (wpAny_bind (wpAny_field e2 rfl (x:=ov) rfl ?_)));refine wpAny_bind (wpAny_setField_rec e2 (by simp) λh3 e3 s3=>?_);have e3:IsItemIter h3 it d (i+1) es.size ep e.key ov:=e3;refine wpAny_bind (wpAny_setField_rec e3 (by simp) λh4 e4 s4=>?_);have e4:IsItemIter h4 it d (i+1) es.size ep e.key e.val:=e4;refine wpAny_bind (wpAny_setField_rec e4 (by simp) λh5 e5 s5=>?_);have e5:IsItemIterOut h5 it d (i+1) es.size ep e.key e.val hq.objs.size:=e5;refine wpAny_bind (wpAny_setField_rec e5 (by simp) λh6 e6 s6=>?_);have e6:IsItemIterOut h6 it d (i+1) es.size ep e.key e.val hq.objs.size:=e6;have S:Heap.SameBut it h2 h6:=((s3.trans s4).trans s5).trans s6;refine wpAny_bind (wpAny_letGo (wpAny_pure (wpAny_pure ⟨_,rfl,wpAny_pure (q h6 e6 (S.extBut _ _ (ac4 lit) t2) (S.1.trans z2) λb o' hb he=>S.extBut b o' hb (k2 b o' hb he))⟩)))
theorem Fc {it:Addr} {i:Nat} {ok ov:Value} {Q:Option Value→Shared→Prop} (hh:A.handled=none) (hit:IsItemIter s.heap it d i es.size ep ok ov) (r:Raw s.heap d es ep o) (hx:es.size≤i)
  (q:∀h',Heap.ExtBut it s.heap h'→Q none { s with heap:=h' }):wpAny (model prog w) A (pyNext (.ref it)) Q E s:=by
 have hT:s.TypeIs (.ref it) "dict_itemiterator":=⟨_,hit,rfl⟩;unfold pyNext;refine wpAny_bind (wpAny_attempt (wpAny_callSpecial?_slot (name:=Str.ofString "__next__") hT PySem.F.slot_dict_itemiterator_next (wpAny_call_entry PySem.F.slot_dict_itemiterator_next hT PySem.F.entry_dict_itemiterator_next ?_ (PySem.F.args_dict_itemiterator_next_1 _))));refine wpAny_bind (wpAny_pure (wpAny_bind (wpAny_bind ?_)));refine wpAny_bind (wpAny_typeNameOfWhole_itemiter hT (wpAny_pure (wpAny_bind (wpAny_fieldsOf hit rfl ?_))));have own:Builtin.Dict_items.ownsTuple "dict_itemiterator"=true:=by decide
 simp only[own,if_true];refine (show wpAny _ _ (if (Value.ref d==Value.none)=true then _ else _) _ _ _ from ?_);rw[if_neg (show ¬(Value.ref d==Value.none)=true from λz=>by cases z)];refine wpAny_bind (wpAny_pure (wpAny_bind (wpAny_dictEntries r.there r.data ?_)));rw[if_neg (by simp)];refine wpAny_bind (wpAny_pure (wpAny_bind (wpAny_dictEpoch r.there r.data ?_)));rw[if_neg (by simp)];refine wpAny_pure ?_;simp only[show ¬((i:Int) < 0) by omega,if_false,abk,Array.getElem?_eq_none hx];refine wpAny_bind ?_;refine wpAny_bind (wpAny_typeNameOfWhole_itemiter hT (wpAny_pure ?_));refine (show wpAny _ _ (setField (.ref it) 2 .none >>=_) _ _ s from wpAny_bind (wpAny_setField hit rfl (by simp) ?_));refine (show wpAny _ _ (newExc (.type "StopIteration") [] >>=_) _ _ _ from wpAny_bind ?_);simp only[newExc,newTuple];refine wpAny_bind (wpAny_newObj_type (wpAny_bind (m:=firstArgMember _ _) (wpAny_of_eq (a:=Value.none) (by first | rfl | (simp only[firstArgMember];rfl)) (wpAny_newObj_type ?_ (by size_fits)))) (by size_fits));simp only[raiseNew];refine wpAny_bind (wpAny_handled ?_);rw[show A.in1.handled=none from hh];refine wpAny_bind (wpAny_pure (wpAny_throw ?_));exact wpAny_bind (wpAny_isInstance (T:="StopIteration") (b:=true) ⟨_,Heap.get?_push_size _ rfl,rfl⟩ isSubtype_stop (wpAny_pure (q _ (((Heap.SameBut.update ..).extBut.push _).push _))))
end
end L2.Itm
namespace L2
open PySem PySem.Spec PyProof.Rows Itm
noncomputable def Itp (a:Addr) (o:Obj) (kvs:List (List Key×V)):It:=
 ⟨λi H=>i < kvs.length∧H a=some (.frz o (.dT kvs)),λi H x H'=>∃p t k v,kvs[i]?=some (k,v)∧H t=some (.tup (k.map kV))∧H p=none∧x=.ref p∧H'=upd H p (.tup [.ref t,v]),λi H=>i=kvs.length∧H a=some (.frz o (.dT kvs))⟩
theorem Di {P:Program} {w:World} {H:Hp} {h:Heap} {a:Addr} {o:Obj} {kvs:List (List Key×V)} (ok:HOk P w H h) (e:H a=some (.frz o (.dT kvs))):
  ∃es ep,o.data=.dict es ep∧Raw h a es ep o∧es.size=kvs.length∧∀(i:Nat) (k:List Key) (v:V),kvs[i]?=some (k,v)→∃t u j,es[i]?=some ⟨j,.ref t,u⟩∧H t=some (.tup (k.map kV))∧RelV v u:=by
 obtain ⟨h1,_,_,xs,r,o',es,ep,h2,h3,h4,h5,h6⟩:=(show br P w H h a (.frz o (.dT kvs)) from ok a _ e);rw[h1] at h2;cases h2
 have hl:kvs.length=xs.length:=Paired.length r;refine ⟨es,ep,h4,⟨h1,h3,h4⟩,by rw[←ab9,h5,aa3,hl],λi k v hi=>?_⟩;have get:∀{l:List (List Key×V)} {m:List (List Key×Addr×Value)},Paired (λ(p:List Key×V) (q:List Key×Addr×Value)=>p.1=q.1∧H q.2.1=some (.tup (p.1.map kV))∧RelV p.2 q.2.2) l m→∀(i:Nat) (p:List Key×V),l[i]?=some p→∃q,m[i]?=some q∧p.1=q.1∧H q.2.1=some (.tup (p.1.map kV))∧RelV p.2 q.2.2:=by
  intro l m r;induction r with
  | nil=>intro i p hp;simp at hp
  | cons h _ ih=>
   intro i p hp;cases i with
   | zero=>simp at hp;subst hp;exact ⟨_,rfl,h⟩
   | succ i=>exact ih i p (by simpa using hp)
 obtain ⟨q,hq,q1,q2,q3⟩:=get r i (k,v) hi;refine ⟨q.2.1,q.2.2,(tupleKind (ar P w)).hash q.1,?_,q2,q3⟩;rw[←acq,h5,aae,hq];rfl
section
variable {X:Cx} {pins:List (Addr×Obj)} {σ σ':St} {H H0:Hp} {s s0:Shared} {a:Addr} {kvs kvs':List (List Key×V)} {o:Obj}
theorem Inv.Ll (I:Inv X pins σ H s) (e:H a=some (.dT kvs)):∃o es ep,o.data=.dict es ep∧Raw s.heap a es ep o∧Inv X pins σ (upd H a (.frz o (.dT kvs))) s:=by
 have ok:=(show br X.prog X.w H s.heap a (.dT kvs) from I.hok a _ e);obtain ⟨z,y,xs,r,o,es,ep,h1,h2,h3,h4,h5⟩:=id ok;refine ⟨o,es,ep,h3,⟨h1,h2,h3⟩,?_⟩;have st:br X.prog X.w (upd H a (.frz o (.dT kvs))) s.heap a (.dT kvs):=ok.vw (λb u _ q=>q) (λb q=>by rw[af (λz=>by rw[z,e] at q;cases q)];exact q) λb ys q=>by rw[af (λz=>by rw[z,e] at q;cases q)];exact q
 exact I.write (t':=s.toks) (h':=s.heap) (e:=a) (by rw[e];exact True.intro) (.inl rfl) (λb u _ q=>q) ⟨o,h1⟩ ⟨h1,st⟩
theorem Inv.thawT (I0:Inv X pins σ' H0 s0) (e0:H0 a=some (.dT kvs')) (I:Inv X pins σ H s) (e:H a=some (.frz o (.dT kvs))):Inv X pins σ (upd H a (.dT kvs)) s:=by
 have nn:∀b,H b=none→b≠a:=λb hb z=>by rw[z,e] at hb;cases hb
 have nt:∀b xs,H b=some (.tup xs)→b≠a:=λb xs hb z=>by rw[z,e] at hb;cases hb
 have no:∀b y,H b=some (.own y)→b≠a:=λb y hb z=>by rw[z,e] at hb;cases hb
 refine ⟨I.ok,I.os,I.bare,⟨I.base.keep,I.base.slot,λb ob h1 h2 h3=>?_,I.base.there,λb xs h1=>?_,λb ob u h1=>?_,λb ps h1=>?_⟩,I.loc,I.cell,?_,λx c h1=>?_,λp hp=>?_,λb u q=>?_,I.len⟩
 ·have h4:=I.base.free b ob h1 h2 h3;rw[af (nn b h4)];exact h4
 ·have h4:=I.base.tups b xs h1;rw[af (nt b xs h4)];exact h4
 ·have h4:=I.base.frzs b ob u h1;have h5:=I0.base.frzs b ob u h1;rw[af (λz=>by rw[z,e0] at h5;cases h5)];exact h4
 ·obtain ⟨more,h4⟩:=I.base.tbls b ps h1;exact ⟨more,by rw[af (λz=>by rw[z,e] at h4;cases h4)];exact h4⟩
 ·rw[af (nn _ I.free)];exact I.free
 ·rw[af (nn _ (I.freeC x c h1))];exact I.freeC x c h1
 ·obtain ⟨p1,p2,p3,p4,p5⟩:=I.pin p hp;exact ⟨p1,by rw[af (nn _ p2)];exact p2,p3,p4,p5⟩
 ·by_cases hb:b=a
  ·subst hb;rw[aa] at q;cases q
   exact ((show br X.prog X.w H s.heap b (.frz o (.dT kvs)) from I.hok b _ e).2).vw (λc v _ r=>r) (λc r=>by rw[af (no c b r)];exact r) λc xs r=>by rw[af (nt c xs r)];exact r
  ·rw[af hb] at q;exact (I.hok b u q).vw (λc v _ r=>r) (λc r=>by rw[af (no c b r)];exact r) λc xs r=>by rw[af (nt c xs r)];exact r
end
theorem Bb {P:Program} {w:World} {K:PySem.W.Frag} {elts:List Expr} {x1} {tpos:Pos} (a it:Addr) (o:Obj) (kvs:List (List Key×V)):Turn P w K (.Tuple elts x1 tpos) (Itp a o kvs) [it] it (λi h=>∃es ep ok ov,o.data=.dict es ep∧IsItemIter h it a i es.size ep ok ov) where
 mem:=by simp
 obj:=λi h st b hb=>by
  have e:b=it:=by simpa using hb
  subst e;obtain ⟨_,_,_,_,_,hit⟩:=st;exact ⟨_,hit,λv z=>by cases z⟩
 keep:=λi h h' st k=>by
  obtain ⟨es,ep,ok,ov,hd,hit⟩:=st;exact ⟨es,ep,ok,ov,hd,k it (by simp) _ hit⟩
 item:=by
  intro X hP hw hK hc i pins s σ H E I hf st hg;subst hP hw hK;obtain ⟨hi,ha⟩:=hg;obtain ⟨es,ep,hdat,raw,hsz,get⟩:=Di I.hok ha;obtain ⟨es',ep',ok,ov,hd',hit⟩:=st;rw[hdat] at hd';cases hd'
  have hkv:kvs[i]?=some (kvs[i].1,kvs[i].2):=aa2 hi;obtain ⟨t,u,j,he,ht,ru⟩:=get i _ _ hkv;have li:it < s.heap.objs.size:=Heap.lt_size hit;refine Ba hit raw he λh1 out ht1 hz1 hk1=>⟨_,rfl,?_⟩;refine wpAny_letOwnedTupleGo_items out λh2 it2 sb=>?_;have sb:Heap.SameBut it h1 h2:=sb;have hfr:H s.heap.objs.size=none:=I.hok.fresh (aa4 _);have I1:Inv X pins σ (upd H s.heap.objs.size (.tup [.ref t,kvs[i].2])) { s with heap:=s.heap.push { cls:=.type "tuple",data:=.seq #[.ref t,u] },toks:=s.toks }:=
   I.laid (λb o' e'=>Heap.get?_push_of_some _ e') (aa4 _) (show br X.prog X.w _ _ _ (.tup [.ref t,kvs[i].2]) from ⟨by show (2:Nat)≤sizeLine;decide,[.ref t,u],.cons rfl (.cons ru .nil),⟨_,Heap.get?_push_size _ rfl,rfl,_,rfl,rfl⟩⟩)
  have nup:∀b,b < s.heap.objs.size→(upd H s.heap.objs.size (.tup [.ref t,kvs[i].2])) b=H b:=λb hb=>af (aap hb);have fpl:∀b∈[it],b < s.heap.objs.size:=λb hb=>by
   rw[List.mem_singleton.mp hb];exact li
  have I2:=Inv.pb (h':=h2) (t':=s.toks) (fp:=[it]) I1 (λb o' hb e'=>by
   have bi:b≠it:=λz=>hb (by simp[z]);have e':(s.heap.push { cls:=.type "tuple",data:=.seq #[.ref t,u] }).get? b=some o':=e';by_cases hbs:b=s.heap.objs.size
   ·subst hbs;rw[Heap.get?_push_size _ rfl] at e';cases e'
    exact (sb.2 _ bi).trans ht1
   ·rw[Heap.get?_push_ne _ _ _ hbs] at e';exact (sb.2 _ bi).trans (hk1 b o' bi e')) λb hb=>by
   obtain ⟨f0,f⟩:=hf b hb;exact ⟨by rw[nup b (fpl b hb)];exact f0,f⟩
  exact ⟨.ref s.heap.objs.size,_,I2,rfl,⟨_,t,_,_,hkv,ht,hfr,rfl,rfl⟩,⟨es,ep,_,_,hdat,it2⟩,λb hb=>by rw[nup b (fpl b hb)];exact (hf b hb).1⟩
 done:=by
  intro X hP hw hK hc i pins s σ H E I hf st hg;subst hP hw hK;obtain ⟨hi,ha⟩:=hg;obtain ⟨es,ep,hdat,raw,hsz,get⟩:=Di I.hok ha;obtain ⟨es',ep',ok,ov,hd',hit⟩:=st;rw[hdat] at hd';cases hd'
  obtain ⟨f0,f1,f2,f3,f4,f5⟩:=hf it (by simp);exact Fc (I.ok.hd hc) hit raw (by omega) λh' eb=>⟨rfl,I.turned (t':=s.toks) (λb o' hb e'=>eb b o' hb e') f0 f1 f3 f4 f5⟩
 self:=λ_ _ _ _ _ st h=>by
  obtain ⟨_,_,_,_,_,hit⟩:=st;exact PySem.W.kcp_self hit h
def Ji (t:TE):TE:=λσ H Q=>∃a kvs,H a=some (.dT kvs)∧t σ H λv H'=>∃o,H' a=some (.frz o (.dT kvs))∧Q v (upd H' a (.dT kvs))
def J8 (tl:TE):TI:=λσ H R=>tl σ H λx H1=>∃a kvs,x=.ref a∧H1 a=some (.dT kvs)∧∀o,R (Itp a o kvs) (upd H1 a (.frz o (.dT kvs)))
section
variable {X:Cx}
theorem Ij {e:Expr} {t:TE} (h:PE X e t):PE X e (Ji t):=by
 intro pins s σ H Q I q;obtain ⟨a,kvs,e0,q⟩:=q;exact thn (h pins s σ H _ I q) λv s1 ⟨x,H1,I1,r1,o,e1,q1⟩=>⟨x,_,Inv.thawT I e0 I1 e1,r1,q1⟩
end
section
variable {X:Cx}
theorem Iu {o:Expr} {to:TE} {apos cpos tpos:Pos} {elts:List Expr} {x1} (ho:PE X o to) (hbase:attributeBase o "items" X.env (eval o X.env)=eval o X.env:=by rfl) (hline:(apos.endLine==cpos.line)=true:=by rfl):
  PI X (.Tuple elts x1 tpos) (.Call (.Attribute o "items" apos) [] [] cpos) (J8 to):=by
 intro pins s σ H R I h;refine wpAny_Call_method0_late hbase hline (thn (ho pins s σ H _ I h) λv s1 ⟨x,H1,I1,r1,a,kvs,ex,ha,q⟩=>?_);subst ex;obtain ⟨h1,h2⟩:=B3 I1 r1 (vc (K:=X.K) ha);cases (show v=Value.ref a from r1)
 refine ⟨"dict","dict.items",PySem.F.plainAttrs_dict,PySem.F.slot_dict_items,PySem.F.type_dict_items,h1,h2,Calls.callWith_builtin rfl (PySem.evalArgs_none ?_)⟩;obtain ⟨o',es,ep,hdat,raw,I2⟩:=I1.Ll ha;have hd:=(dt_of I1.hok ha).2.1;refine Cj hd raw ?_;have raw2:Raw (s1.heap.push { cls:=.type "dict_items",data:=.fields #[.ref a] }) a es ep o':=⟨Heap.get?_push_of_some _ raw.there,raw.exact',raw.data⟩;refine Aw (v:=s1.heap.objs.size) ⟨_,Heap.get?_push_size _ rfl,rfl,rfl⟩ raw2 ?_;have I3:Inv X pins σ (upd H1 a (.frz o' (.dT kvs))) { s1 with heap:=s1.heap.push { cls:=.type "dict_items",data:=.fields #[.ref a] } }:=I2.kept (t':=s1.toks) λb u e=>Heap.get?_push_of_some _ e;have hz:s1.heap.objs.size≤(s1.heap.push { cls:=.type "dict_items",data:=.fields #[.ref a] }).objs.size:=by rw[Heap.size_push];exact ad6 _
 refine ⟨_,[_],_,_,_,rfl,I3.kept (t':=s1.toks) λb u e=>Heap.get?_push_of_some _ e,Bb a _ o' kvs,⟨es,ep,.none,.none,hdat,Heap.get?_push_size _ rfl⟩,λb hb=>?_,q o'⟩;rw[List.mem_singleton.mp hb];exact I3.kg (aa4 _) (I3.hok.fresh (aa4 _))
def iSeq (K:PySem.W.Frag) (tl:TE):TI:=λσ H R=>tl σ H λx H1=>∃a,x=.ref a∧(((∃xs,SqL K H1 a xs)∧R (Itl K a) H1)∨((∃xs,SqT K H1 a xs)∧R (Itt K a) H1))
theorem pi_seq {tg l:Expr} {tl:TE} (hl:PE X l tl):PI X tg l (iSeq X.K tl):=by
 intro pins s σ H R I h;refine thn (hl pins s σ H _ I h) λv s1 ⟨x,H1,I1,r1,a,e,q⟩=>?_;subst e;cases (show v=Value.ref a from r1)
 have fp:∀b∈[s1.heap.objs.size],mv X pins H1 b:=λb hb=>by
  rw[List.mem_singleton.mp hb];exact I1.kg (aa4 _) (I1.hok.fresh (aa4 _))
 rcases q with ⟨⟨xs,hq⟩,q⟩ | ⟨⟨xs,hq⟩,q⟩
 ·obtain ⟨its,rv,p,hz⟩:=I1.list hq;exact wpAny_pyIter_list p.isList ⟨s1.heap.objs.size,[s1.heap.objs.size],_,_,H1,rfl,I1.kept (t':=s1.toks) λb o e=>Heap.get?_push_of_some _ e,vn a _,⟨_,Heap.get?_push_size _ rfl,rfl,rfl⟩,fp,q⟩
 ·obtain ⟨its,rv,p,hz⟩:=I1.tuple hq;exact wpAny_pyIter_tuple (show s1.heap.IsTuple a its.toArray from p) ⟨s1.heap.objs.size,[s1.heap.objs.size],_,_,H1,rfl,I1.kept (t':=s1.toks) λb o e=>Heap.get?_push_of_some _ e,qo a _,⟨_,Heap.get?_push_size _ rfl,rfl,rfl⟩,fp,q⟩
end
def TK (H H':Hp):Prop:=∀b xs,H b=some (.tup xs)→H' b=some (.tup xs)
theorem TK.of {H H':Hp} (s:ag H H'):TK H H':=λb xs h=>s b _ h
theorem TK.put {H:Hp} {a:Addr} {o o':HO} (h:H a=some o) (ho:∀xs,o≠.tup xs):TK H (upd H a o'):=λb xs hb=>by
 rw[af (λe=>by rw[e,h] at hb;exact ho xs (aa6 hb))];exact hb
theorem Ln {J:It} {fr:St} {tc:TT} {te:TE} {D:Addr} {H1:Hp} {Q:Hp→Prop} (n:Nat) (item:Nat→V) (P:Nat→List V→Hp→Prop) (mono:∀i ys H H',TK H H'→P i ys H→P i ys H') (hn:n < sizeLine) (hD:H1 D=none)
  (hgo:∀i H,i < n→ag H1 H→J.go i H) (hyld:∀i H x H',i < n→ag H1 H→J.yld i H x H'→H'=H∧x=item i) (hstop:∀H,ag H1 H→J.stop n H) (h0:P 0 [] H1)
  (step:∀i ys H (G:Hp→Prop) (K':V→Hp→Prop),i < n→P i ys H→ys.length≤i→ag H1 H→(∀H3,ag H H3→P (i+1) ys H3→G H3)→(∀y H4,ag H H4→P (i+1) (ys++[y]) H4→K' y H4)→tc ([some (item i)]++fr) H λb H3=>if b=true then te ([some (item i)]++fr) H3 K' else G H3)
  (done:∀ys H,P n ys H→ys.length≤n→ag H1 H→H D=some (.lst ys)→Q H):LC 1 fr (cm 0) tc te J D H1 Q:=by
 refine ⟨λi m H=>m=n - i∧i≤n∧∃ys,H D=some (.lst ys)∧P i ys H∧ys.length≤i∧ag H1 H,⟨n,by simp,aac _,[],aa,mono _ _ _ _ (TK.of (ab hD _)) h0,aa4 _,ab hD _⟩,?_⟩;rintro i m H ⟨rfl,hi,ys,hys,hP,hl,hS⟩;by_cases hlt:i < n
 ·refine .inr ⟨hgo i H hlt hS,λτ x H' hτ hy=>?_⟩;obtain ⟨e1,e2⟩:=hyld i H x H' hlt hS hy;subst e1 e2;obtain ⟨a,rfl⟩:∃a,τ=[a]:=List.length_eq_one_iff.mp hτ;refine ⟨⟨[some (item i)],rfl,rfl⟩,step i ys H' _ _ hlt hP hl hS (λH3 q1 q2=>?_) (λy H4 q1 q2=>?_)⟩
  ·exact ⟨n - (i+1),by omega,rfl,hlt,ys,q1 _ _ hys,q2,ack hl,hS.trans q1⟩
  ·refine ⟨ys,q1 _ _ hys,by omega,n - (i+1),by omega,rfl,hlt,ys++[y],aa,mono _ _ _ _ (TK.put (q1 _ _ hys) λxs e=>by cases e) q2,?_,(hS.trans q1).upd hD _⟩;rw[aa5,aat];omega
 ·have e:i=n:=by omega
  subst e;exact .inl ⟨hstop H hS,done ys H hP hl hS hys⟩
theorem se {K:PySem.W.Frag} {c:Nat} {J:It} {fr:St} {tc:TT} {te:TE} {D:Addr} {H1:Hp} {Q:Hp→Prop} (n:Nat) (R:Nat→V→V→Hp→Prop) (P:Nat→List V→Hp→Prop) (mono:∀i ys H H',TK H H'→P i ys H→P i ys H') (hc:c=2) (hn:n < sizeLine) (hD:H1 D=none)
  (hgo:∀i H,i < n→ag H1 H→J.go i H) (hyld:∀i H v H',i < n→ag H1 H→J.yld i H v H'→ag H H'∧∃p x y,v=.ref p∧SqT K H' p [x,y]∧R i x y H') (hstop:∀H,ag H1 H→J.stop n H) (h0:P 0 [] H1)
  (step:∀i x y ys H (G:Hp→Prop) (K':V→Hp→Prop),i < n→R i x y H→P i ys H→ys.length≤i→ag H1 H→(∀H3,ag H H3→P (i+1) ys H3→G H3)→(∀y H4,ag H H4→P (i+1) (ys++[y]) H4→K' y H4)→tc ([some x,some y]++fr) H λb H3=>if b=true then te ([some x,some y]++fr) H3 K' else G H3)
  (done:∀ys H,P n ys H→ys.length≤n→ag H1 H→H D=some (.lst ys)→Q H):LC 2 fr (ub K c (dz (cm 0) (dz (cm 1) xm))) tc te J D H1 Q:=by
 refine ⟨λi m H=>m=n - i∧i≤n∧∃ys,H D=some (.lst ys)∧P i ys H∧ys.length≤i∧ag H1 H,⟨n,by simp,aac _,[],aa,mono _ _ _ _ (TK.of (ab hD _)) h0,aa4 _,ab hD _⟩,?_⟩;rintro i m H ⟨rfl,hi,ys,hys,hP,hl,hS⟩;by_cases hlt:i < n
 ·refine .inr ⟨hgo i H hlt hS,λτ v H' hτ hy=>?_⟩;obtain ⟨e1,p,x,y,rfl,hp,hR⟩:=hyld i H v H' hlt hS hy;obtain ⟨a,b,rfl⟩:∃a b,τ=[a,b]:=us2 (P:=λτ=>∃a b,τ=[a,b]) hτ λa b=>⟨a,b,rfl⟩;have hys':=e1 _ _ hys;refine ⟨p,_,rfl,hp,by rw[hc];rfl,_,_,rfl,_,_,rfl,rfl,⟨[some x,some y],rfl,rfl⟩,step i x y ys H' _ _ hlt hR (mono _ _ _ _ (TK.of e1) hP) hl (hS.trans e1) (λH3 q1 q2=>?_) (λy H4 q1 q2=>?_)⟩
  ·exact ⟨n - (i+1),by omega,rfl,hlt,ys,q1 _ _ hys',q2,ack hl,(hS.trans e1).trans q1⟩
  ·refine ⟨ys,q1 _ _ hys',by omega,n - (i+1),by omega,rfl,hlt,ys++[y],aa,mono _ _ _ _ (TK.put (q1 _ _ hys') λxs e=>by cases e) q2,?_,((hS.trans e1).trans q1).upd hD _⟩;rw[aa5,aat];omega
 ·have e:i=n:=by omega
  subst e;exact .inl ⟨hstop H hS,done ys H hP hl hS hys⟩
theorem Iq {K:PySem.W.Frag} {a:Addr} {xs:List V} {g:TG} {tb:TS} {D:Ends} {σ:St} {H:Hp} (ha:H a=some (.lst xs)∨H a=some (.tup xs)) (Pv:Nat→St→Hp→Prop) (h0:Pv 0 σ H) (hl:∀i σ H',i≤xs.length→Pv i σ H'→∀o,H a=some o→H' a=some o)
  (hs:∀i x σ H,xs[i]?=some x→Pv i σ H→g x σ H λσ2 H2=>tb { D with nx:=Pv (i+1),ct:=Pv (i+1),bk:=D.nx } σ2 H2) (hd:∀σ H,Pv xs.length σ H→D.nx σ H):
  ((∃xs,SqL K H a xs)∧vy g tb D (Itl K a) σ H)∨((∃xs,SqT K H a xs)∧vy g tb D (Itt K a) σ H):=by
 rcases ha with h | h
 ·exact .inl ⟨⟨xs,SqL.of h⟩,vv Pv h0 (λi σ H' hi hp=>SqL.of (hl i σ H' hi hp _ h)) hs hd⟩
 ·exact .inr ⟨⟨xs,SqT.of h⟩,dm Pv h0 (λi σ H' hi hp=>SqT.of (hl i σ H' hi hp _ h)) hs hd⟩
end L2
namespace Fm
section
variable {α:Type}
noncomputable def ins (lt:α→α→Bool) (x:α):List α→List α
 | []=>[x]
 | y::r=>if lt y x=true then y::ins lt x r else x::y::r
noncomputable def ye (lt:α→α→Bool) (l:List α):List α:=l.foldr (ins lt) []
variable {lt:α→α→Bool}
theorem qm (x:α):∀l:List α,(ins lt x l).Perm (x::l)
 | []=>ac7 _
 | y::r=>by
  show (if lt y x=true then y::ins lt x r else x::y::r).Perm _
  split
  ·exact ((qm x r).cons y).trans (List.Perm.swap x y r)
  ·exact ac7 _
theorem dh:∀l:List α,(ye lt l).Perm l
 | []=>ac7 _
 | x::r=>(qm x (ye lt r)).trans ((dh r).cons x)
def Srt (lt:α→α→Bool) (l:List α):Prop:=l.Pairwise λa b=>lt b a=false
structure Pre (lt:α→α→Bool):Prop where
 irr:∀x,lt x x=false
 tr:∀{x y z},lt x y=true→lt y z=true→lt x z=true
 neg:∀{x z} (y:α),lt x z=true→lt x y=true∨lt y z=true
theorem Dp (o:Pre lt) (x:α):∀{l:List α},Srt lt l→Srt lt (ins lt x l)
 | [],_=>adk _ _
 | y::r,h=>by
  obtain ⟨h1,h2⟩:=List.pairwise_cons.mp h;show Srt lt (if lt y x=true then y::ins lt x r else x::y::r)
  split
  ·rename_i c
   refine List.pairwise_cons.mpr ⟨λz hz=>?_,Dp o x h2⟩;rcases List.mem_cons.mp ((qm x r).mem_iff.mp hz) with e | e
   ·rw[e];cases q:lt x y with
    | false=>rfl
    | true=>exact absurd (o.tr c q) (by rw[o.irr];decide)
   ·exact h1 z e
  ·rename_i c
   have c:lt y x=false:=Bool.eq_false_iff.mpr c;refine List.pairwise_cons.mpr ⟨λz hz=>?_,h⟩;rcases List.mem_cons.mp hz with e | e
   ·rw[e];exact c
   ·cases q:lt z x with
    | false=>rfl
    | true=>
     rcases o.neg y q with k | k
     ·rw[h1 z e] at k;cases k
     ·rw[c] at k;cases k
theorem jk (o:Pre lt):∀l:List α,Srt lt (ye lt l)
 | []=>ada
 | x::r=>Dp o x (jk o r)
theorem tu [DecidableEq α] (o:Lin lt):∀{l m:List α},l.Perm m→Srt lt l→Srt lt m→l=m
 | [],m,h,_,_=>h.nil_eq
 | a::r,[],h,_,_=>absurd h.length_eq (by simp)
 | a::r,b::s,h,h1,h2=>by
  obtain ⟨p1,p2⟩:=List.pairwise_cons.mp h1;obtain ⟨q1,q2⟩:=List.pairwise_cons.mp h2;have e:a=b:=by
   rcases List.mem_cons.mp (h.mem_iff.mp aa8) with e | e
   ·exact e
   ·rcases List.mem_cons.mp (h.mem_iff.mpr aa8) with k | k
    ·exact k.symm
    ·rcases o.tri a b with z | z | z
     ·rw[q1 a e] at z;cases z
     ·exact z
     ·rw[p1 b k] at z;cases z
  subst e;rw[tu o (List.Perm.cons_inv h) p2 q2]
end
section
variable {N:Type} [DecidableEq N] {lt:N→N→Bool}
noncomputable def cf (rows:List (N×Int)):List (N×Int):=rows.foldl (λg p=>cw g p.1 p.2) []
theorem Cg (rows:List (N×Int)) (p:N×Int):cf (rows++[p])=cw (cf rows) p.1 p.2:=by unfold cf;rw[List.foldl_append];rfl
theorem foldI (rows:List (N×Int)):∀g:List (N×Int),(g.map (·.1)).Nodup→((rows.foldl (λg p=>cw g p.1 p.2) g).map (·.1)).Nodup∧(∀n,ba (rows.foldl (λg p=>cw g p.1 p.2) g) n=ba g n+ba rows n)∧(∀x∈(rows.foldl (λg p=>cw g p.1 p.2) g).map (·.1),x∈g.map (·.1)∨x∈rows.map (·.1)):=by
 induction rows with
 | nil=>exact λg h=>⟨h,λn=>by show ba g n=ba g n+0;omega,λx hx=>.inl hx⟩
 | cons p r ih=>
  intro g h;obtain ⟨i1,i2,i3⟩:=ih (cw g p.1 p.2) (C2 p.1 p.2 h);refine ⟨i1,λn=>?_,λx hx=>?_⟩
  ·show ba (r.foldl _ (cw g p.1 p.2)) n=ba g n+((if p.1=n then p.2 else 0)+ba r n)
   rw[i2,ve];omega
  ·rcases i3 x hx with k | k
   ·rcases oa _ _ k with k | k
    ·exact .inl k
    ·exact .inr (by rw[k];exact aa8)
   ·exact .inr (aa7 _ k)
theorem yj (n:N) (c:Int):∀g:List (N×Int),(cw g n c).length≤g.length+1
 | []=>aa4 _
 | p::r=>by
  show (if p.1=n then (p.1,p.2+c)::r else p::cw r n c).length≤_
  split
  ·show r.length+1≤r.length+1+1;omega
  ·have:=yj n c r;show (cw r n c).length+1≤r.length+1+1
   omega
theorem nj (rows:List (N×Int)):(cf rows).length≤rows.length:=by
 have:∀(rows g:List (N×Int)),(rows.foldl (λg p=>cw g p.1 p.2) g).length≤g.length+rows.length:=by
  intro rows;induction rows with
  | nil=>exact λg=>aa4 _
  | cons p r ih=>
   intro g;have h1:=ih (cw g p.1 p.2);have h2:=yj p.1 p.2 g;show (r.foldl _ (cw g p.1 p.2)).length≤_
   rw[aaa];omega
 have h:=this rows [];rw[ac1,Nat.zero_add] at h;exact h
noncomputable def gj (lt:N→N→Bool) (rows:List (N×Int)):List (N×Int):=ye (λp q=>lt p.1 q.1) ((cf rows).filter λp=>decide (p.2≠0))
theorem C8 (o:Lin lt) {rows f:List (N×Int)} (hp:f.Perm ((cf rows).filter λp=>decide (p.2≠0))) (hs:Srt (λp q:N×Int=>lt p.1 q.1) f):rn lt rows f:=by
 obtain ⟨i1,i2,i3⟩:=foldI rows [] abo;have nd:(f.map (·.1)).Nodup:=((hp.map (·.1)).nodup_iff).mpr (ae7 (aen _ ae2) i1);refine ⟨⟨?_,λp h=>?_⟩,λn=>?_⟩
 ·have nd':f.Pairwise λp q=>p.1≠q.1:=List.pairwise_map.mp nd;refine (List.Pairwise.and hs nd').imp λ{p q} h=>?_;rcases o.tri p.1 q.1 with k | k | k
  ·exact k
  ·exact absurd k h.2
  ·rw[show lt q.1 p.1=false from h.1] at k;cases k
 ·exact of_decide_eq_true (List.mem_filter.mp (hp.mem_iff.mp h)).2
 ·rw[Ep hp,K6];show ba (cf rows) n=_
  have:=i2 n;unfold cf;rw[this];show 0+_=_
  omega
theorem Lin.pre (o:Lin lt) {β:Type} (f:β→N):Pre (λp q:β=>lt (f p) (f q)):=⟨λx=>o.irr _,λh k=>o.tr h k,λ{x z} y h=>by
 rcases o.tri (f x) (f y) with k | k | k
 ·exact .inl k
 ·rw[←k];exact .inr h
 ·exact .inr (o.tr k h)⟩
theorem h9 (o:Lin lt) (rows:List (N×Int)):rn lt rows (gj lt rows):=C8 o (dh _) (jk (o.pre (λp:N×Int=>p.1)) _)
theorem Cw (o:Lin lt) {rows f:List (N×Int)} (h:rn lt rows f):f=gj lt rows:=h.unique o (h9 o rows)
theorem eh (rows:List (N×Int)):(gj lt rows).length≤rows.length:=by
 unfold gj;rw[(dh _).length_eq];exact aal (abb _ _) (nj rows)
theorem E2 {rows:List (N×Int)} {p:N×Int} (h:p∈gj lt rows):p.1∈rows.map (·.1):=by
 have h1:=(List.mem_filter.mp ((dh _).mem_iff.mp h)).1;rcases (foldI rows [] abo).2.2 p.1 (List.mem_map.mpr ⟨p,h1,rfl⟩) with k | k
 ·cases k
 ·exact k
theorem zu {e:Nat}:∀(rows:List (N×Int)) (n:N),(∀p∈rows,p.2.natAbs < 2 ^ e)→(ba rows n).natAbs≤rows.length*2 ^ e
 | [],_,_=>aac _
 | p::r,n,h=>by
  have ih:=zu r n λq hq=>h q (aa7 _ hq);have hp:=h p aa8;show ((if p.1=n then p.2 else 0)+ba r n).natAbs≤(r.length+1)*2 ^ e
  rw[aeh,Nat.one_mul];split <;> omega
theorem Fz (o:Lin lt) {e:Nat} {rows:List (N×Int)} (h:∀p∈rows,p.2.natAbs < 2 ^ e) (hl:rows.length < 64) {p:N×Int} (hp:p∈gj lt rows):p.2.natAbs < 2 ^ (e+6):=by
 have g:=h9 o rows;have hc:ba (gj lt rows) p.1=p.2:=by
  have:∀{f:List (N×Int)},NF lt f→p∈f→ba f p.1=p.2:=by
   intro f;induction f with
   | nil=>exact λ_ h=>nomatch h
   | cons q r ih=>
    intro hf hm;rcases List.mem_cons.mp hm with k | k
    ·rw[k];exact hf.head o
    ·have:=ih hf.tail k;show (if q.1=p.1 then q.2 else 0)+ba r p.1=p.2
     rw[if_neg (o.ne ((List.pairwise_cons.mp hf.ord).1 p k)),this];omega
  exact this g.nf hp
 have h1:=zu rows p.1 h;rw[←g.co,hc] at h1;have h2:rows.length*2 ^ e≤63*2 ^ e:=adz _ (by omega);rw[adv];have:0 < 2 ^ e:=Nat.two_pow_pos e;omega
end
end Fm
namespace Pc
open PySem PySem.Spec L2 PyProof.Rows Fm
abbrev Form:=List (List Str×Int)
theorem Au:Lin cg:=⟨iu,my,ql⟩
theorem linS:Lin ltS:=⟨o8,qg,xa⟩
noncomputable def gp (l:List Str):List Str:=ye ltS l
theorem x8 {l m:List Str} (hp:m.Perm l) (hs:Srt ltS m):m=gp l:=tu linS (hp.trans (dh l).symm) hs (jk (linS.pre id) l)
theorem Fs (l:List Str):(gp l).length=l.length:=(dh l).length_eq
theorem Er {l:List Str} {z:Str}:z∈gp l↔z∈l:=(dh l).mem_iff
theorem Bp (l:List Str):gp (gp l)=gp l:=(x8 (ac7 _) (jk (linS.pre id) l)).symm
noncomputable def mn (f:Form):Form:=f.map λp=>(p.1,-p.2)
noncomputable def yg (f g:Form):Form:=gj cg (f++g)
noncomputable def ik (f g:Form):Form:=gj cg (f++mn g)
noncomputable def jS (a b:List Str):List Str:=gp (a++b)
noncomputable def Bo (f g:Form):Form:=gj cg (prod jS f g)
noncomputable def opF (z:Str) (f g:Form):Form:=if z="add" then yg f g else if z="sub" then ik f g else if z="mul" then Bo f g else ik [] f
noncomputable def bz:V→Form
 | .str z=>[([z],1)]
 | .int n=>gj cg [([],n)]
 | _=>[]
noncomputable def Dg:V→List Form→List Form
 | .str z,st=>if 0 < arS z then opF z (st.getD 0 []) (st.getD 1 [])::st.drop (arS z) else bz (.str z)::st
 | v,st=>bz v::st
noncomputable def oz (ws:List V):List Form:=ws.foldr Dg []
noncomputable def i6 (ws:List V):Form:=(oz ws).getD 0 []
theorem gc (w:V) (r:List V):oz (w::r)=Dg w (oz r):=rfl
theorem fe {w:V} (h:arV w=0) (st:List Form):Dg w st=bz w::st:=by
 cases w with
 | str z=>
  have hz:¬0 < arS z:=by have:arS z=0:=h;omega
  exact if_neg hz
 | _=>rfl
theorem mj {z:Str} (h:0 < arS z) (st:List Form):Dg (.str z) st=opF z (st.getD 0 []) (st.getD 1 [])::st.drop (arS z):=if_pos h
theorem lz {w:V} (h:0 < arV w):∃z,w=.str z∧0 < arS z:=by
 cases w with
 | str z=>exact ⟨z,rfl,h⟩
 | _=>exact absurd h (by show ¬(0 < 0);omega)
theorem nc:∀(ws:List V) (l:Nat),pend l (ws.map arV)=some 0→(oz ws).length=l
 | [],l,h=>by
  have:l=0:=aa6 h;rw[this];rfl
 | w::r,0,h=>by cases h
 | w::r,l+1,h=>by
  have ih:=nc r (l+arV w) h;rw[gc];rcases ac2 (arV w) with e | e
  ·rw[fe e,aaa,ih,e]
  ·obtain ⟨z,rfl,hz⟩:=lz e;rw[mj hz,aaa,aao,ih];show l+arS z - arS z+1=l+1
   omega
theorem fu {z:Str}:arS z≤2:=Jl (.str z)
theorem Cp {z:Str} (h:arS z=1) (f g g':Form):opF z f g=opF z f g':=by
 unfold opF;rw[if_neg (λe=>by rw[e] at h;exact absurd h (by decide+kernel)),if_neg (λe=>by rw[e] at h;exact absurd h (by decide+kernel)),if_neg (λe=>by rw[e] at h;exact absurd h (by decide+kernel)),if_neg (λe=>by rw[e] at h;exact absurd h (by decide+kernel)),if_neg (λe=>by rw[e] at h;exact absurd h (by decide+kernel)),if_neg (λe=>by rw[e] at h;exact absurd h (by decide+kernel))]
theorem jf {ws:List V} (h:isTerm ws):oz ws=[i6 ws]:=by
 have:=nc ws 1 h;unfold i6;match oz ws,this with
 | [f],_=>rfl
structure FOk (S:Str→Prop) (n:Nat) (f:Form):Prop where
 rows:f.length≤2 ^ ((n - 1) / 2)
 nf:NF cg f
 row:∀p∈f,p.1.length≤n∧p.2.natAbs < 2 ^ (210*n)∧gp p.1=p.1∧∀z∈p.1,S z
theorem ja {S:Str→Prop} {n e:Nat} {rows:Form} (hr:rows.length≤2 ^ ((n - 1) / 2)) (h64:rows.length < 64) (he:e+6≤210*n) (h:∀p∈rows,p.1.length≤n∧p.2.natAbs < 2 ^ e∧gp p.1=p.1∧∀z∈p.1,S z):FOk S n (gj cg rows):=by
 refine ⟨aal (eh rows) hr,(h9 Au rows).nf,λp hp=>?_⟩;obtain ⟨q,hq,e1⟩:=List.mem_map.mp (E2 hp);obtain ⟨q1,q2,q3,q4⟩:=h q hq;rw[←e1];exact ⟨q1,aah (Fz Au (λp hp=>(h p hp).2.1) h64 hp) (ab8 (by decide) he),q3,q4⟩
theorem p7 {x y n:Nat} (h:x+y+1≤n):2 ^ x+2 ^ y≤2 ^ n∧2 ^ x*2 ^ y≤2 ^ n:=by
 have h1:2 ^ x≤2 ^ (x+y):=ab8 (by decide) (by omega);have h2:2 ^ y≤2 ^ (x+y):=ab8 (by decide) (by omega);have h3:2 ^ (x+y+1)≤2 ^ n:=ab8 (by decide) h;rw[Nat.pow_succ] at h3;have h4:2 ^ x*2 ^ y=2 ^ (x+y):=(adv 2 x y).symm;omega
theorem ij (j:List Str→List Str→List Str) (g:Form):∀f:Form,(prod j f g).length=f.length*g.length
 | []=>by show 0=0*_;omega
 | p::r=>by
  show ((g.map _)++prod j r g).length=(r.length+1)*g.length
  rw[aa5,aa3,ij j g r,aeh,Nat.one_mul,Nat.add_comm]
theorem FOk.two {S:Str→Prop} {z:Str} {n m:Nat} {f g:Form} (hz:arS z=2) (hn:1≤n) (hm:1≤m) (hnm:n+m+1≤12) (hf:FOk S n f) (hg:FOk S m g):FOk S (n+m+1) (opF z f g):=by
 have hxy:(n - 1) / 2+(m - 1) / 2+1≤(n+m+1 - 1) / 2:=by omega
 obtain ⟨a1,a2⟩:=p7 hxy;have h32:2 ^ ((n+m+1 - 1) / 2)≤2 ^ 5:=ab8 (by decide) (by omega);have r1:=hf.rows;have r2:=hg.rows;have up:∀{c:Int} {e:Nat},c.natAbs < 2 ^ (210*e)→e≤n+m→c.natAbs < 2 ^ (210*(n+m)):=λh l=>aah h (ab8 (by decide) (by omega));unfold opF;split
 ·refine ja (e:=210*(n+m)) (by rw[aa5];omega) (by rw[aa5];omega) (by omega) λp hp=>?_;rcases List.mem_append.mp hp with k | k
  ·obtain ⟨b1,b2,b3,b4⟩:=hf.row p k;exact ⟨by omega,up b2 (by omega),b3,b4⟩
  ·obtain ⟨b1,b2,b3,b4⟩:=hg.row p k;exact ⟨by omega,up b2 (by omega),b3,b4⟩
 ·split
  ·refine ja (e:=210*(n+m)) (by rw[aa5,mn,aa3];omega) (by rw[aa5,mn,aa3];omega) (by omega) λp hp=>?_;rcases List.mem_append.mp hp with k | k
   ·obtain ⟨b1,b2,b3,b4⟩:=hf.row p k;exact ⟨by omega,up b2 (by omega),b3,b4⟩
   ·obtain ⟨q,hq,rfl⟩:=List.mem_map.mp k;obtain ⟨b1,b2,b3,b4⟩:=hg.row q hq;exact ⟨by show q.1.length≤_;omega,by show (-q.2).natAbs < _;rw[ad4];exact up b2 (by omega),b3,b4⟩
  ·split
   ·have lp:=ij jS g f;have lm:f.length*g.length≤2 ^ ((n - 1) / 2)*2 ^ ((m - 1) / 2):=ac8 r1 r2;refine ja (e:=210*(n+m)) (by rw[lp];omega) (by rw[lp];omega) (by omega) λp hp=>?_;obtain ⟨x,hx,hp⟩:=List.mem_flatMap.mp hp;obtain ⟨y,hy,rfl⟩:=List.mem_map.mp hp;obtain ⟨b1,b2,b3,b4⟩:=hf.row x hx;obtain ⟨c1,c2,c3,c4⟩:=hg.row y hy;refine ⟨?_,?_,Bp _,λz hz=>?_⟩
    ·show (gp (x.1++y.1)).length≤_
     rw[Fs,aa5];omega
    ·show (x.2*y.2).natAbs < _
     rw[Int.natAbs_mul,show 210*(n+m)=210*n+210*m by omega,adv];exact Nat.mul_lt_mul'' b2 c2
    ·rcases List.mem_append.mp (Er.mp hz) with k | k
     ·exact b4 z k
     ·exact c4 z k
   ·rename_i h1 h2 h3
    rcases cq (z:=z) (by omega) with k | k | k | k
    ·exact absurd k h1
    ·exact absurd k h2
    ·exact absurd k h3
    ·rw[k,qq] at hz;cases hz
theorem FOk.one {S:Str→Prop} {z:Str} {n:Nat} {f g:Form} (hz:arS z=1) (hn:1≤n) (hnm:n+1≤12) (hf:FOk S n f):FOk S (n+1) (opF z f g):=by
 have r1:=hf.rows;have h32:2 ^ ((n - 1) / 2)≤2 ^ 5:=ab8 (by decide) (by omega);have h33:2 ^ ((n - 1) / 2)≤2 ^ ((n+1 - 1) / 2):=ab8 (by decide) (by omega);have e:opF z f g=ik [] f:=by
  unfold opF;rw[if_neg (λe=>by rw[e] at hz;exact absurd hz (by decide+kernel)),if_neg (λe=>by rw[e] at hz;exact absurd hz (by decide+kernel)),if_neg (λe=>by rw[e] at hz;exact absurd hz (by decide+kernel))]
 rw[e];refine ja (e:=210*n) (by rw[acw,mn,aa3];omega) (by rw[acw,mn,aa3];omega) (by omega) λp hp=>?_;obtain ⟨q,hq,rfl⟩:=List.mem_map.mp hp;obtain ⟨b1,b2,b3,b4⟩:=hf.row q hq;exact ⟨by show q.1.length≤_;omega,by show (-q.2).natAbs < _;rw[ad4];exact b2,b3,b4⟩
def oo (S:Str→Prop):V→Prop
 | .int n=>n.natAbs < 2 ^ 200
 | .str z=>0 < arS z∨S z
 | _=>False
theorem oo.isW {S:Str→Prop} {v:V} (h:oo S v):isW v:=by
 cases v with
 | int n=>exact isW.int n
 | str z=>exact isW.str z
 | _=>exact h.elim
theorem FOk.leaf {S:Str→Prop} {v:V} (h:oo S v) (h0:arV v=0):FOk S 1 (bz v):=by
 cases v with
 | int n=>
  refine ja (e:=200) (aa4 _) (by show (1:Nat) < 64;decide) (by decide) λp hp=>?_;rw[List.mem_singleton.mp hp];exact ⟨aac _,h,rfl,λ_ h=>nomatch h⟩
 | str z=>
  have hs:S z:=h.resolve_left (by have:arS z=0:=h0;omega);refine ⟨aa4 _,⟨adk _ _,λp hp=>?_⟩,λp hp=>?_⟩
  ·rw[List.mem_singleton.mp hp];exact λe=>by cases e
  ·rw[List.mem_singleton.mp hp];exact ⟨aa4 _,by show (1:Nat) < 2 ^ 210;decide,rfl,λy hy=>by rw[List.mem_singleton.mp hy];exact hs⟩
 | _=>exact h.elim
inductive m5 (S:Str→Prop):List Form→Nat→Prop
 | nil:m5 S [] 0
 | cons {f:Form} {st:List Form} {n m:Nat} (h:FOk S n f) (hn:1≤n) (t:m5 S st m):m5 S (f::st) (n+m)
theorem m5.run {S:Str→Prop}:∀{ws:List V} {l:Nat},(∀v∈ws,oo S v)→pend l (ws.map arV)=some 0→ws.length≤12→m5 S (oz ws) ws.length
 | [],_,_,_,_=>.nil
 | w::r,0,_,h,_=>by cases h
 | w::r,l+1,hw,h,hl=>by
  have h':pend (l+arV w) (r.map arV)=some 0:=h;have hl':r.length+1≤12:=hl;have ih:=m5.run (λv hv=>hw v (aa7 _ hv)) h' (by omega);have len:=nc r _ h';rw[gc,aaa];rcases ac2 (arV w) with e | e
  ·rw[fe e,Nat.add_comm];exact .cons (FOk.leaf (hw w aa8) e) (aa4 _) ih
  ·obtain ⟨z,rfl,hz⟩:=lz e;have len:(oz r).length=l+arS z:=len;rw[mj hz];have a2:=fu (z:=z);generalize oz r=st at ih len;generalize r.length=k at ih hl';cases ih with
   | nil=>simp at len;omega
   | @cons f st n m hf hn t=>
    rcases abx 1 (arS z) with q | q
    ·have e2:arS z=2:=by omega
     cases t with
     | nil=>simp at len;omega
     | @cons g st n' m' hg hn' t'=>
      rw[e2,show n+(n'+m')+1=(n+n'+1)+m' by omega];exact .cons (FOk.two e2 hn hn' (by omega) hf hg) (by omega) t'
    ·have e1:arS z=1:=by omega
     rw[e1,show n+m+1=(n+1)+m by omega];exact .cons (FOk.one e1 hn (by omega) hf) (by omega) t
def bj (H:Hp) (rs:List V) (f:Form):Prop:=rs.length=f.length∧∀(i:Nat) (n:List Str) (c:Int),f[i]?=some (n,c)→∃t m,rs[i]?=some (.ref t)∧H t=some (.tup [.ref m,.int c])∧H m=some (.tup (n.map V.str))
def au (H:Hp) (a:Addr) (f:Form):Prop:=∃rs,H a=some (.tup rs)∧bj H rs f
theorem bj.keep {H H':Hp} {rs:List V} {f:Form} (h:bj H rs f) (k:TK H H'):bj H' rs f:=⟨h.1,λi n c hi=>by
 obtain ⟨t,m,h1,h2,h3⟩:=h.2 i n c hi;exact ⟨t,m,h1,k _ _ h2,k _ _ h3⟩⟩
theorem au.keep {H H':Hp} {a:Addr} {f:Form} (h:au H a f) (k:TK H H'):au H' a f:=by
 obtain ⟨rs,h1,h2⟩:=h;exact ⟨rs,k _ _ h1,h2.keep k⟩
theorem bj.nil (H:Hp):bj H [] []:=⟨rfl,λi n c h=>by simp at h⟩
theorem bj.app {H:Hp} {rs ss:List V} {f g:Form} (h:bj H rs f) (k:bj H ss g):bj H (rs++ss) (f++g):=by
 refine ⟨by rw[aa5,aa5,h.1,k.1],λi n c hi=>?_⟩;by_cases hl:i < f.length
 ·rw[aax hl] at hi;obtain ⟨t,m,h1,h2⟩:=h.2 i n c hi;exact ⟨t,m,by rw[aax (by rw[h.1];exact hl)];exact h1,h2⟩
 ·rw[aar (by omega)] at hi;obtain ⟨t,m,h1,h2⟩:=k.2 _ n c hi;exact ⟨t,m,by rw[aar (by rw[h.1];omega),h.1];exact h1,h2⟩
theorem bj.one {H:Hp} {t m:Addr} {n:List Str} {c:Int} (h1:H t=some (.tup [.ref m,.int c])) (h2:H m=some (.tup (n.map V.str))):bj H [.ref t] [(n,c)]:=⟨rfl,λi n' c' hi=>by
 match i,hi with
 | 0,hi=>cases hi;exact ⟨t,m,rfl,h1,h2⟩⟩
theorem bj.nst {H:Hp} {rs:List V} {f:Form} (h:bj H rs f):∀x∈rs,NstV H 3 x:=λx hx=>by
 obtain ⟨i,hi,e⟩:=List.mem_iff_getElem.mp hx;have hf:i < f.length:=by rw[←h.1];exact hi
 obtain ⟨t,m,h1,h2,h3⟩:=h.2 i f[i].1 f[i].2 (aa2 hf);rw[aa2 hi,e] at h1;rw[aa6 h1];refine .inr ⟨t,_,rfl,h2,λy hy=>?_⟩;rcases List.mem_cons.mp hy with k | k
 ·rw[k];refine .inr ⟨m,_,rfl,h3,λz hz=>?_⟩;obtain ⟨s,_,rfl⟩:=List.mem_map.mp hz;exact .inl ⟨Sum.inr s,rfl⟩
 ·rw[List.mem_singleton.mp k];exact .inl ⟨Sum.inl _,rfl⟩
end Pc
namespace L2
open PySem PySem.Spec PyProof.Rows PySem.SeqAt Pc
section
variable {P:Program} {w:World} {A:Around} {s:Shared} {H:Hp}
theorem sj {m m':Addr} {n:List Str} (ok:HOk P w H s.heap) (h1:H m=some (.tup (n.map V.str))) (h2:H m'=some (.tup (n.map V.str))) (hu:A.units < cLine):EqAt A s (.ref m) (.ref m') true:=by
 by_cases e:m=m'
 ·subst e;exact EqAt.same _
 obtain ⟨_,i1,r1,p1⟩:=(dq ok h1);obtain ⟨_,i2,r2,p2⟩:=(dq ok h2);have l1:=r1.length;have l2:=r2.length;refine EqAt.of_refs e λP' w' E Q q=>RcAt.tuples (e:=λ_=>true) (show s.heap.IsTuple m i1.toArray from p1) (show s.heap.IsTuple m' i2.toArray from p2) hu (λj h1 h2=>?_) P' w' E Q ?_
 ·have kf:n.map V.str=(n.map (Sum.inr:Str→Key)).map kV:=by rw[abp];rfl
  have:=vd (A:=A.in1) (s:=s) (as:=n.map Sum.inr) (bs:=n.map Sum.inr) (by rw[←kf];exact r1) (by rw[←kf];exact r2) j h1 h2;rw[decide_eq_true rfl] at this;exact this
 ·have e1:(aak (min i1.toArray.size i2.toArray.size)).all (λ_=>true)=true:=by rw[aeo];exact λ_ _=>rfl
  have e2:i1.toArray.size=i2.toArray.size:=by rw[aa9,aa9];omega
  rw[e1,e2,beq_self_eq_true];exact q
end
end L2
namespace L2
open PySem
theorem sq {k:Nat} {A:Around} (r:fi k A):A.units+8 < cLine:=by
 have:=r.units;omega
end L2
namespace Pc
open PySem PySem.Spec L2 PyProof.Rows Fm
def cz:Sp:=λvs H Q _=>∃v:V,vs=[v]∧((isW v∧Q (.int (arV v)) H)∨∃a xs,v=.ref a∧H a=some (.tup xs)∧(∀x∈xs,NstV H 3 x)∧Q (.int 0) H)
def eo:Sp:=λvs H Q _=>∃(a:Addr) (rs:List V) (rows:Form),vs=[.ref a]∧(H a=some (.lst rs)∨H a=some (.tup rs))∧bj H rs rows∧rows.length < 64∧∀b H',ag H H'→au H' b (gj cg rows)→Q (.ref b) H'
def w6:Sp:=λvs H Q _=>∃(a b:Addr) (f g:Form),vs=[.ref a,.ref b]∧au H a f∧au H b g∧f.length+g.length < 64∧∀c H',ag H H'→au H' c (yg f g)→Q (.ref c) H'
def jr:Sp:=λvs H Q _=>∃(a b:Addr) (f g:Form),vs=[.ref a,.ref b]∧au H a f∧au H b g∧f.length+g.length < 64∧∀c H',ag H H'→au H' c (ik f g)→Q (.ref c) H'
def RowB (f:Form):Prop:=∀p∈f,p.1.length≤12∧kc p.2
def p6:Sp:=λvs H Q _=>∃(a b:Addr) (f g:Form),vs=[.ref a,.ref b]∧au H a f∧au H b g∧f.length*g.length < 64∧f.length < 64∧g.length < 64∧RowB f∧RowB g∧∀c H',ag H H'→au H' c (Bo f g)→Q (.ref c) H'
def rp:Sp:=λvs H Q _=>∃v:V,vs=[v]∧isW v∧(0 < arV v→Q v H)∧(arV v=0→∀b H',ag H H'→au H' b (bz v)→Q (.ref b) H')
def bt (H:Hp) (rs:List V) (fs:List Form):Prop:=rs.length=fs.length∧∀(i:Nat) (f:Form),fs[i]?=some f→∃a,rs[i]?=some (.ref a)∧au H a f
def JB (fs:List Form):Prop:=(∀f∈fs,f.length < 64∧RowB f)∧∀f g,fs=[f,g]→f.length+g.length < 64∧f.length*g.length < 64
def eg:Sp:=λvs H Q _=>∃(z:Str) (pl:Addr) (rs:List V) (fs:List Form),vs=[.str z,.ref pl]∧0 < arS z∧H pl=some (.lst rs)∧bt H rs fs∧fs.length=arS z∧JB fs∧∀b H',ag H H'→au H' b (opF z (fs.getD 0 []) (fs.getD 1 []))→Q (.ref b) H'
def tp (H:Hp) (us ws:List V):Prop:=us.length=ws.length∧∀(i:Nat) (w:V),ws[i]?=some w→(0 < arV w→us[i]?=some w)∧(arV w=0→∃a,us[i]?=some (.ref a)∧au H a (bz w))
def Eg (P:Program) (w:World) (K:PySem.W.Frag) (mg:Str→Option Value) (base:Heap):Sp:=λvs H Q _=>∃(l:Addr) (fv:V) (us ws:List V) (S:Str→Prop),vs=[.ref l,fv]∧FnV P w K mg base 3 ["word","parts"] eg fv∧SqL K H l us∧tp H us ws∧(∀v∈ws,oo S v)∧isTerm ws∧ws.length≤12∧∀b H',ag H H'→au H' b (i6 ws)→Q (.ref b) H'
def xb (P:Program) (w:World) (K:PySem.W.Frag) (mg:Str→Option Value) (base:Heap):Sp:=λvs H Q E=>Dy P w K mg base vs H Q E∨Eg P w K mg base vs H Q E
def dw (K:PySem.W.Frag):Sp:=λvs H Q _=>∃(t:Addr) (ws:List V) (S:Str→Prop),vs=[.ref t]∧SqT K H t ws∧(∀v∈ws,oo S v)∧isTerm ws∧ws.length≤12∧∀b H',ag H H'→au H' b (i6 ws)→Q (.ref b) H'
end Pc
namespace L2
open PySem
theorem Io {X:Cx} {pos:Pos} (K:PySem.W.Frag) (hK:X.K=K) {a b:Expr} {k:Nat} {t:TGs} (hc:X.calm=true) (h:PGs X [a,b] t) (hn:(assignEach [a,b] X.env).length=2:=by rfl) (hst:(assignEach [a,b] X.env).findIdx? (·.1)=none:=by rfl):PG X (.Tuple [a,b] k pos) (ub K 2 t):=by
 subst hK;exact J7 hc h hn hst
end L2
namespace Pc
open PySem PySem.Spec L2 PyProof.Rows Fm
theorem Mg {K:PySem.W.Frag} {b:Addr} {g:Form} {fr:L2.St} {tc:TT} {te:TE} {D:Addr} {H1:Hp} {Q:Hp→Prop} (P:Nat→List V→Hp→Prop) (mono:∀i ys H H',TK H H'→P i ys H→P i ys H') (hb:au H1 b g) (hn:g.length < 10000) (hD:H1 D=none) (h0:P 0 [] H1)
  (step:∀i n c m ys H (G:Hp→Prop) (K':V→Hp→Prop),g[i]?=some (n,c)→H m=some (.tup (n.map V.str))→P i ys H→ys.length≤i→ag H1 H→(∀H3,ag H H3→P (i+1) ys H3→G H3)→(∀y H4,ag H H4→P (i+1) (ys++[y]) H4→K' y H4)→tc ([some (.ref m),some (.int c)]++fr) H λb H3=>if b=true then te ([some (.ref m),some (.int c)]++fr) H3 K' else G H3)
  (done:∀ys H,P g.length ys H→ys.length≤g.length→ag H1 H→H D=some (.lst ys)→Q H):LC 2 fr (ub K 2 (dz (cm 0) (dz (cm 1) xm))) tc te (Itt K b) D H1 Q:=by
 have sz:=sizeLine_eq;obtain ⟨rs,h1,h2⟩:=hb;refine se g.length (λi x y H=>∃n c m,g[i]?=some (n,c)∧x=.ref m∧y=.int c∧H m=some (.tup (n.map V.str))) P mono rfl (by omega) hD (λi H hi hs=>?_) (λi H v H' hi hs hy=>?_) (λH hs=>⟨rs,SqT.of (hs _ _ h1),by rw[h2.1];exact aa4 _⟩) h0 (λi x y ys H G K' hi hR hP hl hS hG hK=>?_) done
 ·have hi':i < rs.length:=by rw[h2.1];exact hi
  exact ⟨rs,_,SqT.of (hs _ _ h1),aa2 hi'⟩
 ·obtain ⟨e,hv⟩:=hy;subst e;obtain ⟨t,m,q1,q2,q3⟩:=h2.2 i g[i].1 g[i].2 (aa2 hi);have:=hv rs (SqT.of (hs _ _ h1));rw[q1] at this;cases this
  exact ⟨ag.refl _,t,_,_,rfl,SqT.of (hs _ _ q2),g[i].1,g[i].2,m,aa2 hi,rfl,rfl,hs _ _ q3⟩
 ·obtain ⟨n,c,m,q1,rfl,rfl,q2⟩:=hR;exact step i n c m ys H G K' q1 q2 hP hl hS hG hK
noncomputable def trK (g:Form):List (List Key×V):=g.map λp=>(p.1.map Sum.inr,V.int p.2)
theorem kr {a b:List Str} (h:a.map (Sum.inr:Str→Key)=b.map Sum.inr):a=b:=by
 induction a generalizing b with
 | nil=>cases b with
  | nil=>rfl
  | cons y s=>cases h
 | cons x r ih=>
  cases b with
  | nil=>cases h
  | cons y s=>
   rw[aaj,aaj] at h;injection h with h1 h2
   rw[Sum.inr.inj h1,ih h2]
theorem C3 (n:List Str):(n.map (Sum.inr:Str→Key)).map kV=n.map V.str:=by rw[abp];rfl
theorem Dv:∀{g:Form} (n:List Str),(g.map (·.1)).Nodup→(cp (trK g) (n.map Sum.inr)).getD (.int 0)=.int (ba g n)
 | [],_,_=>rfl
 | p::r,n,nd=>by
  have nd:(p.1::r.map (·.1)).Nodup:=nd;obtain ⟨h1,h2⟩:=List.nodup_cons.mp nd;by_cases e:p.1=n
  ·have e2:(p.1.map (Sum.inr:Str→Key))=n.map Sum.inr:=by rw[e]
   show (cp ((p.1.map Sum.inr,V.int p.2)::trK r) (n.map Sum.inr)).getD (.int 0)=.int ((if p.1=n then p.2 else 0)+ba r n)
   rw[bw e2,if_pos e,lj λq hq z=>h1 (by rw[e,←z];exact List.mem_map.mpr ⟨q,hq,rfl⟩)];show V.int p.2=V.int (p.2+0)
   rw[Int.add_zero]
  ·have e2:¬(p.1.map (Sum.inr:Str→Key))=n.map Sum.inr:=λz=>e (kr z);show (cp ((p.1.map Sum.inr,V.int p.2)::trK r) (n.map Sum.inr)).getD (.int 0)=.int ((if p.1=n then p.2 else 0)+ba r n)
   rw[ax e2,if_neg e,Dv n h2,ae8]
theorem xo {κ:Type} [DecidableEq κ] {p:κ×V} {r:List (κ×V)} {k:κ} {v:V} (e:p.1=k) (h:∀q∈r,q.1≠k):putK (p::r) k v=(p.1,v)::r:=by
 unfold putK;rw[if_pos (by rw[abz,decide_eq_true e];rfl),aaj,if_pos e];congr 1
 have:∀l:List (κ×V),(∀q∈l,q.1≠k)→l.map (λkv=>if kv.1=k then (kv.1,v) else kv)=l:=by
  intro l;induction l with
  | nil=>exact λ_=>rfl
  | cons q s ih=>intro h;rw[aaj,if_neg (h q aa8),ih λz hz=>h z (aa7 _ hz)]
 exact this r h
theorem wy {κ:Type} [DecidableEq κ] {p:κ×V} {r:List (κ×V)} {k:κ} {v:V} (e:¬p.1=k):putK (p::r) k v=p::putK r k v:=by
 unfold putK;rw[abz,decide_eq_false e,Bool.false_or];split
 ·rw[aaj,if_neg e]
 ·rfl
theorem Dh:∀{g:Form} (n:List Str) (c:Int),(g.map (·.1)).Nodup→putK (trK g) (n.map Sum.inr) (.int (ba g n+c))=trK (cw g n c)
 | [],n,c,_=>by
  show [(n.map Sum.inr,V.int (0+c))]=[(n.map Sum.inr,V.int c)]
  rw[ae8]
 | p::r,n,c,nd=>by
  have nd:(p.1::r.map (·.1)).Nodup:=nd;obtain ⟨h1,h2⟩:=List.nodup_cons.mp nd;by_cases e:p.1=n
  ·have e2:(p.1.map (Sum.inr:Str→Key))=n.map Sum.inr:=by rw[e]
   have e3:cw (p::r) n c=(p.1,p.2+c)::r:=if_pos e;rw[e3];show putK ((p.1.map Sum.inr,V.int p.2)::trK r) _ (.int ((if p.1=n then p.2 else 0)+ba r n+c))=(p.1.map Sum.inr,V.int (p.2+c))::trK r
   rw[xo e2 λq hq z=>?_,if_pos e,lj λq hq z=>h1 (by rw[e,←z];exact List.mem_map.mpr ⟨q,hq,rfl⟩),Int.add_zero];obtain ⟨q',hq',rfl⟩:=List.mem_map.mp hq;exact h1 (by rw[e,←kr z];exact List.mem_map.mpr ⟨q',hq',rfl⟩)
  ·have e2:¬(p.1.map (Sum.inr:Str→Key))=n.map Sum.inr:=λz=>e (kr z);have e3:cw (p::r) n c=p::cw r n c:=if_neg e;rw[e3];show putK ((p.1.map Sum.inr,V.int p.2)::trK r) _ (.int ((if p.1=n then p.2 else 0)+ba r n+c))=(p.1.map Sum.inr,V.int p.2)::trK (cw r n c)
   rw[wy e2,if_neg e,ae8,Dh n c h2]
theorem Jn {K:PySem.W.Frag} {a:Addr} {o:Obj} {g:Form} {fr:L2.St} {tc:TT} {te:TE} {D:Addr} {H1:Hp} {Q:Hp→Prop} (P:Nat→List V→Hp→Prop) (mono:∀i ys H H',TK H H'→P i ys H→P i ys H') (ha:H1 a=some (.frz o (.dT (trK g)))) (hn:g.length < 10000) (hD:H1 D=none) (h0:P 0 [] H1)
  (step:∀i n c m ys H (G:Hp→Prop) (K':V→Hp→Prop),g[i]?=some (n,c)→H m=some (.tup (n.map V.str))→P i ys H→ys.length≤i→ag H1 H→(∀H3,ag H H3→P (i+1) ys H3→G H3)→(∀y H4,ag H H4→P (i+1) (ys++[y]) H4→K' y H4)→tc ([some (.ref m),some (.int c)]++fr) H λb H3=>if b=true then te ([some (.ref m),some (.int c)]++fr) H3 K' else G H3)
  (done:∀ys H,P g.length ys H→ys.length≤g.length→ag H1 H→H D=some (.lst ys)→Q H):LC 2 fr (ub K 2 (dz (cm 0) (dz (cm 1) xm))) tc te (Itp a o (trK g)) D H1 Q:=by
 have sz:=sizeLine_eq;have tl:(trK g).length=g.length:=aa3 _;refine se g.length (λi x y H=>∃n c m,g[i]?=some (n,c)∧x=.ref m∧y=.int c∧H m=some (.tup (n.map V.str))) P mono rfl (by omega) hD (λi H hi hs=>⟨by rw[tl];exact hi,hs _ _ ha⟩) (λi H v H' hi hs hy=>?_) (λH hs=>⟨tl.symm,hs _ _ ha⟩) h0 (λi x y ys H G K' hi hR hP hl hS hG hK=>?_) done
 ·obtain ⟨p,t,k,v',h1,h2,h3,rfl,rfl⟩:=hy;unfold trK at h1;rw[aae,aa2 hi] at h1;cases h1
  rw[C3] at h2;exact ⟨ab h3 _,p,_,_,rfl,SqT.of aa,g[i].1,g[i].2,t,aa2 hi,rfl,rfl,ab h3 _ _ _ h2⟩
 ·obtain ⟨n,c,m,q1,rfl,rfl,q2⟩:=hR;exact step i n c m ys H G K' q1 q2 hP hl hS hG hK
theorem getD_some {α:Type} {l:List α} {i:Nat} {d x:α} (h:l[i]?=some x):l.getD i d=x:=by rw[aaf,h];rfl
theorem bj.at {H:Hp} {ys:List V} {f:Form} (h:bj H ys f):He H ys (f.map (·.1)) (f.map (·.2)):=by
 refine ⟨by rw[aa3];exact h.1,by rw[aa3,aa3],λi hi=>?_⟩;rw[aa3] at hi;obtain ⟨t,m,h1,h2,h3⟩:=h.2 i f[i].1 f[i].2 (aa2 hi);exact ⟨t,m,h1,by rw[getD_some (x:=f[i].2) (by rw[aae,aa2 hi];rfl)];exact h2,by rw[getD_some (x:=f[i].1) (by rw[aae,aa2 hi];rfl)];exact h3⟩
theorem yr {f:Form} {is:List Nat} (hp:is.Perm (aak f.length)) (hi:∀i j,i≤j→j < f.length→rank (f.map (·.1)).length (λi j=>cg ((f.map (·.1)).getD i []) ((f.map (·.1)).getD j [])) (is.getD i 0)≤rank (f.map (·.1)).length (λi j=>cg ((f.map (·.1)).getD i []) ((f.map (·.1)).getD j [])) (is.getD j 0)):
  (is.map λi=>f.getD i ([],0)).Perm f∧Srt (λp q:List Str×Int=>cg p.1 q.1) (is.map λi=>f.getD i ([],0)):=by
 have hlen:is.length=f.length:=by rw[hp.length_eq,aba]
 have hin:∀i,i < is.length→is.getD i 0 < f.length:=λi h=>by
  rw[getD_some (aa2 h)];exact List.mem_range.mp (hp.mem_iff.mp (abg h))
 constructor
 ·have e:(aak f.length).map (λi=>f.getD i ([],0))=f:=by
   apply acm
   intro i;rw[aae];by_cases h:i < f.length
   ·rw[ae3 h,aa2 h];show some (f.getD i ([],0))=_
    rw[getD_some (aa2 h)]
   ·rw[List.getElem?_eq_none_iff.mpr (by rw[aba];omega),List.getElem?_eq_none_iff.mpr (by omega)];rfl
  have:=hp.map λi=>f.getD i ([],0);rw[e] at this;exact this
 ·refine List.pairwise_map.mpr (List.pairwise_iff_getElem.mpr λi j h1 h2 hij=>?_);have o:Ord (f.map (·.1)).length λi j=>cg ((f.map (·.1)).getD i []) ((f.map (·.1)).getD j []):=⟨λ_ _=>iu _,λ_ _ _ _ _ _ a b=>my a b,λ_ j _ _ _ _ a=>zk _ a⟩;have hr:=hi i j (acs hij) (by omega);have g1:=hin i h1;have g2:=hin j h2;rw[getD_some (aa2 h1)] at hr g1;rw[getD_some (aa2 h2)] at hr g2;have hrk:=o.rank (i:=is[j]) (j:=is[i]) (by rw[aa3];exact g2) (by rw[aa3];exact g1);rw[decide_eq_false (by omega)] at hrk;have nm:∀k,(f.getD k ([],0)).1=(f.map (·.1)).getD k []:=λk=>by
   rw[aaf,aaf,aae];cases f[k]? <;> rfl
  show cg (f.getD is[j] ([],0)).1 (f.getD is[i] ([],0)).1=false
  rw[nm,nm];exact hrk.symm
theorem bj.pick {H:Hp} {ys:List V} {f:Form} (h:bj H ys f) {is:List Nat} (hin:∀i∈is,i < f.length):bj H (is.map λi=>ys.getD i .non) (is.map λi=>f.getD i ([],0)):=by
 refine ⟨by rw[aa3,aa3],λi n c hi=>?_⟩;rw[aae] at hi;obtain ⟨k,hk,e⟩:=Option.map_eq_some_iff.mp hi;have hk':=hin k (aam hk);rw[getD_some (aa2 hk')] at e;obtain ⟨t,m,h1,h2,h3⟩:=h.2 k n c (by rw[aa2 hk',e]);exact ⟨t,m,by rw[aae,hk];show some (ys.getD k .non)=_;rw[getD_some h1],h2,h3⟩
theorem Dr {K:PySem.W.Frag} {a:Addr} {xs:List V} {fr:L2.St} {tc:TT} {te:TE} {D:Addr} {H1:Hp} {Q:Hp→Prop} (P:Nat→List V→Hp→Prop) (mono:∀i ys H H',TK H H'→P i ys H→P i ys H') (hS:SqT K H1 a xs) (hn:xs.length < sizeLine) (hD:H1 D=none) (h0:P 0 [] H1)
  (step:∀i x ys H (G:Hp→Prop) (K':V→Hp→Prop),xs[i]?=some x→P i ys H→ys.length≤i→ag H1 H→(∀H3,ag H H3→P (i+1) ys H3→G H3)→(∀y H4,ag H H4→P (i+1) (ys++[y]) H4→K' y H4)→tc ([some x]++fr) H λb H3=>if b=true then te ([some x]++fr) H3 K' else G H3)
  (done:∀ys H,P xs.length ys H→ys.length≤xs.length→ag H1 H→H D=some (.lst ys)→Q H):LC 1 fr (cm 0) tc te (Itt K a) D H1 Q:=by
 have at':∀i,i < xs.length→xs[i]?=some (xs.getD i .non):=λi hi=>by
  rw[aaf,aa2 hi];rfl
 exact Ln xs.length (λi=>xs.getD i .non) P mono hn hD (λi H hi hs=>⟨xs,_,hs.tup hS,at' i hi⟩)
  (λi H x H' hi hs hy=>⟨hy.1,aa6 ((hy.2 xs (hs.tup hS)).symm.trans (at' i hi))⟩) (λH hs=>⟨xs,hs.tup hS,aa4 _⟩) h0
  (λi ys H G K' hi hp hl hs hG hK=>step i _ ys H G K' (at' i hi) hp hl hs hG hK) done
theorem bt.keep {H H':Hp} {rs:List V} {fs:List Form} (h:bt H rs fs) (k:TK H H'):bt H' rs fs:=⟨h.1,λi f hi=>by
 obtain ⟨a,h1,h2⟩:=h.2 i f hi;exact ⟨a,h1,h2.keep k⟩⟩
theorem bt.take {H:Hp} {rs:List V} {fs:List Form} (h:bt H rs fs) (n:Nat):bt H (rs.take n) (fs.take n):=⟨by rw[aad,aad,h.1],λi f hi=>by
 rw[ae9] at hi;split at hi
 ·rename_i c
  obtain ⟨a,h1,h2⟩:=h.2 i f hi;exact ⟨a,by rw[ae9,if_pos c];exact h1,h2⟩
 ·cases hi⟩
theorem bt.drop {H:Hp} {rs:List V} {fs:List Form} (h:bt H rs fs) (n:Nat):bt H (rs.drop n) (fs.drop n):=⟨by rw[aao,aao,h.1],λi f hi=>by
 rw[ace] at hi;obtain ⟨a,h1,h2⟩:=h.2 _ f hi;exact ⟨a,by rw[ace];exact h1,h2⟩⟩
theorem bt.cons {H:Hp} {rs:List V} {fs:List Form} (h:bt H rs fs) {a:Addr} {f:Form} (ha:au H a f):bt H (.ref a::rs) (f::fs):=⟨by rw[aaa,aaa,h.1],λi g hi=>by
 cases i with
 | zero=>cases hi;exact ⟨a,rfl,ha⟩
 | succ i=>exact h.2 i g hi⟩
theorem FOk.rowB {S:Str→Prop} {n:Nat} {f:Form} (h:FOk S n f) (hn:n≤12):f.length < 64∧RowB f:=by
 have h1:=h.rows;have h2:2 ^ ((n - 1) / 2)≤2 ^ 5:=ab8 (by decide) (by omega);exact ⟨by omega,λp hp=>⟨aal (h.row p hp).1 hn,210*n,by omega,(h.row p hp).2.1⟩⟩
theorem m5.all {S:Str→Prop} {st:List Form} {k:Nat} (h:m5 S st k):k≤12→∀f∈st,f.length < 64∧RowB f:=by
 induction h with
 | nil=>exact λ_ _ h=>nomatch h
 | cons h hn t ih=>
  intro hk f hf;rcases List.mem_cons.mp hf with e | e
  ·rw[e];exact h.rowB (by omega)
  ·exact ih (by omega) f e
theorem m5.jb {S:Str→Prop} {st:List Form} {k:Nat} (h:m5 S st k) (hk:k≤11) (n:Nat):JB (st.take n):=by
 refine ⟨λf hf=>h.all (by omega) f (abj hf),λf g e=>?_⟩;cases h with
 | nil=>rw[List.take_nil] at e;cases e
 | @cons f' st n1 m hf hn t=>
  cases n with
  | zero=>cases e
  | succ n=>
   rw[ae4] at e;injection e with e1 e2
   subst e1;cases t with
   | nil=>rw[List.take_nil] at e2;cases e2
   | @cons g' st n2 m2 hg hn2 t2=>
    cases n with
    | zero=>cases e2
    | succ n=>
     rw[ae4] at e2;injection e2 with e3 _
     subst e3;have r1:=hf.rows;have r2:=hg.rows;have hx:(n1 - 1) / 2+(n2 - 1) / 2+1≤5:=by omega
     obtain ⟨p1,p2⟩:=p7 hx;have:=ac8 r1 r2;exact ⟨by omega,by omega⟩
theorem xj {zs:List Str} {is:List Nat} (hp:is.Perm (aak (zs.map V.str).length)) (hi:∀i j,i≤j→j < (zs.map V.str).length→rank zs.length (λi j=>ltS (zs.getD i "") (zs.getD j "")) (is.getD i 0)≤rank zs.length (λi j=>ltS (zs.getD i "") (zs.getD j "")) (is.getD j 0)):
  (is.map λi=>(zs.map V.str).getD i .non)=(gp zs).map V.str:=by
 rw[aa3] at hp hi;have hlen:is.length=zs.length:=by rw[hp.length_eq,aba]
 have hmem:∀i∈is,i < zs.length:=λi h=>List.mem_range.mp (hp.mem_iff.mp h);have e1:(is.map λi=>(zs.map V.str).getD i .non)=(is.map λi=>zs.getD i "").map V.str:=by
  rw[abp];apply List.map_congr_left
  intro i h;have hi:=hmem i h;show (zs.map V.str).getD i .non=V.str (zs.getD i "")
  rw[getD_some (x:=V.str zs[i]) (by rw[aae,aa2 hi];rfl),getD_some (aa2 hi)]
 rw[e1];congr 1
 refine x8 ?_ ?_
 ·have e:(aak zs.length).map (λi=>zs.getD i "")=zs:=by
   apply acm
   intro i;rw[aae];by_cases h:i < zs.length
   ·rw[ae3 h,aa2 h];show some (zs.getD i "")=_
    rw[getD_some (aa2 h)]
   ·rw[List.getElem?_eq_none_iff.mpr (by rw[aba];omega),List.getElem?_eq_none_iff.mpr (by omega)];rfl
  have:=hp.map λi=>zs.getD i "";rw[e] at this;exact this
 ·refine List.pairwise_map.mpr (List.pairwise_iff_getElem.mpr λi j h1 h2 hij=>?_);have o:Ord zs.length λi j=>ltS (zs.getD i "") (zs.getD j ""):=⟨λ_ _=>o8 _,λ_ _ _ _ _ _ a b=>qg a b,λ_ j _ _ _ _ a=>Dn _ a⟩;have hr:=hi i j (acs hij) (by omega);rw[getD_some (aa2 h1),getD_some (aa2 h2)] at hr;have hrk:=o.rank (i:=is[j]) (j:=is[i]) (hmem _ (abg h2)) (hmem _ (abg h1));rw[decide_eq_false (by omega)] at hrk;exact hrk.symm
theorem Eu {f g:Form} {i:Nat} {n:List Str} {c:Int} (h:f[i]?=some (n,c)):prod jS (f.take (i+1)) g=prod jS (f.take i) g++g.map λq=>(jS n q.1,c*q.2):=by
 unfold prod;rw[aan,h,List.flatMap_append];show _++((g.map λq=>(jS n q.1,c*q.2))++[])=_
 rw[aaz]
theorem Hn {z:Str} (hz:0 < arS z) (st:List Form):opF z ((st.take (arS z)).getD 0 []) ((st.take (arS z)).getD 1 [])=opF z (st.getD 0 []) (st.getD 1 []):=by
 have a2:=fu (z:=z);rcases abx 1 (arS z) with k | k
 ·have e:arS z=2:=by omega
  rw[e];match st with
  | []=>rfl
  | [a]=>rfl
  | a::b::r=>rfl
 ·have e:arS z=1:=by omega
  rw[Cp e _ _ (st.getD 1 []),e];cases st <;> rfl
theorem bt.nil (H:Hp):bt H [] []:=⟨rfl,λi f h=>by simp at h⟩
end Pc
namespace L2
open PySem PySem.Spec PyProof.Rows PySem.SeqAt Pc
theorem zy {α:Type} [DecidableEq α] (as bs:List α):((aak (min as.length bs.length)).all (λj=>decide (as[j]?=bs[j]?))&&as.length==bs.length)=decide (as=bs):=by
 by_cases h:as=bs
 ·subst h;rw[decide_eq_true rfl,beq_self_eq_true,ae1,aeo];exact λ_ _=>decide_eq_true rfl
 ·rw[decide_eq_false h];by_cases hl:as.length=bs.length
  ·have hx:∃j,¬as[j]?=bs[j]?:=acb λn=>h (acm λj=>acb λk=>n ⟨j,k⟩);obtain ⟨j,hj⟩:=hx;have hlt:j < as.length:=acb λk=>hj (by rw[List.getElem?_eq_none_iff.mpr (by omega),List.getElem?_eq_none_iff.mpr (by omega)]);have:(aak (min as.length bs.length)).all (λj=>decide (as[j]?=bs[j]?))=false:=by
    rw[List.all_eq_false];exact ⟨j,List.mem_range.mpr (by omega),by rw[decide_eq_false hj];decide⟩
   rw[this,ad3]
  ·rw[beq_eq_false_iff_ne.mpr hl,Bool.and_false]
section
variable {P:Program} {w:World} {A:Around} {s:Shared} {H:Hp}
theorem zp {m m':Addr} {n n':List Str} (ok:HOk P w H s.heap) (h1:H m=some (.tup (n.map V.str))) (h2:H m'=some (.tup (n'.map V.str))) (hu:A.units < cLine):EqAt A s (.ref m) (.ref m') (decide (n=n')):=by
 by_cases e:m=m'
 ·subst e;rw[h1] at h2;have e2:n.map V.str=n'.map V.str:=HO.tup.inj (aa6 h2);have e3:n=n':=by
   have:=congrArg (adh λv:V=>match v with | .str z=>z | _=>"") e2;rw[abp,abp] at this;simpa [aee] using this
  rw[decide_eq_true e3];exact EqAt.same _
 obtain ⟨_,i1,r1,p1⟩:=(dq ok h1);obtain ⟨_,i2,r2,p2⟩:=(dq ok h2);have l1:=r1.length;have l2:=r2.length;rw[aa3] at l1 l2;have kf:∀n:List Str,n.map V.str=(n.map (Sum.inr:Str→Key)).map kV:=λn=>by rw[abp];rfl
 refine EqAt.of_refs e λP' w' E Q q=>RcAt.tuples (e:=λj=>decide ((n.map (Sum.inr:Str→Key))[j]?=(n'.map Sum.inr)[j]?)) (show s.heap.IsTuple m i1.toArray from p1) (show s.heap.IsTuple m' i2.toArray from p2) hu (λj h1 h2=>?_) P' w' E Q ?_
 ·exact vd (A:=A.in1) (s:=s) (as:=n.map Sum.inr) (bs:=n'.map Sum.inr) (by rw[←kf];exact r1) (by rw[←kf];exact r2) j h1 h2
 ·have a:=zy (n.map (Sum.inr:Str→Key)) (n'.map Sum.inr);rw[aa3,aa3] at a;rw[aa9,aa9,←l1,←l2,a];have:decide (n.map (Sum.inr:Str→Key)=n'.map Sum.inr)=decide (n=n'):=by
   by_cases h:n=n'
   ·rw[decide_eq_true h,h,decide_eq_true rfl]
   ·rw[decide_eq_false h,decide_eq_false λz=>h (kr z)]
  rw[this];exact q
theorem Gb {t t' m m':Addr} {n n':List Str} {c c':Int} (ok:HOk P w H s.heap) (h1:H t=some (.tup [.ref m,.int c])) (h2:H t'=some (.tup [.ref m',.int c'])) (h3:H m=some (.tup (n.map V.str))) (h4:H m'=some (.tup (n'.map V.str))) (hu:A.units+1 < cLine):EqAt A s (.ref t) (.ref t') (decide ((n,c)=(n',c'))):=by
 have nm:=zp (A:=A.in1) ok h3 h4 hu;by_cases e:t=t'
 ·subst e;rw[h1] at h2;cases h2
  rw[h3] at h4;have e2:n.map V.str=n'.map V.str:=HO.tup.inj (aa6 h4);have e3:n=n':=by
   have:=congrArg (adh λv:V=>match v with | .str z=>z | _=>"") e2;rw[abp,abp] at this;simpa [aee] using this
  rw[e3,decide_eq_true rfl];exact EqAt.same _
 obtain ⟨_,i1,r1,p1⟩:=(dq ok h1);obtain ⟨_,i2,r2,p2⟩:=(dq ok h2);obtain ⟨a1,b1,rfl,ra1,rb1⟩:=vals2 r1;obtain ⟨a2,b2,rfl,ra2,rb2⟩:=vals2 r2;cases ra1
 cases ra2
 obtain ⟨k1,rfl⟩:=rb1;obtain ⟨k2,rfl⟩:=rb2;refine EqAt.of_refs e λP' w' E Q q=>RcAt.tuples (e:=λj=>if j=0 then decide (n=n') else (c==c')) (show s.heap.IsTuple t _ from p1) (show s.heap.IsTuple t' _ from p2) (aab hu) (λj h1 h2=>?_) P' w' E Q ?_
 ·match j,h1,h2 with
  | 0,_,_=>exact nm
  | 1,_,_=>exact EqAt.int_int (A:=A.in1) (s:=s) c k1 c' k2
 ·have e1:((aak (min [Value.ref m,Value.int c k1].toArray.size [Value.ref m',Value.int c' k2].toArray.size)).all (λj=>if j=0 then decide (n=n') else (c==c'))&&[Value.ref m,Value.int c k1].toArray.size==[Value.ref m',Value.int c' k2].toArray.size)=decide ((n,c)=(n',c')):=by
   show ((decide (n=n')&&((c==c')&&true))&&true)=_
   rw[ae1,ae1];by_cases x:n=n'
   ·by_cases y:c=c'
    ·rw[x,y,decide_eq_true rfl,decide_eq_true rfl,beq_self_eq_true];rfl
    ·rw[beq_eq_false_iff_ne.mpr y,Bool.and_false,decide_eq_false λz=>y (Prod.mk.inj z).2]
   ·rw[decide_eq_false x,ad3,decide_eq_false λz=>x (Prod.mk.inj z).1]
  rw[e1];exact q
end
def rEqG (neg:Bool):R2:=λx y H Q=>∃a b f g,x=.ref a∧y=.ref b∧au H a f∧au H b g∧Q (.bl (if neg=true then !decide (f=g) else decide (f=g))) H
section
variable {X:Cx}
theorem wt {pins:List (Addr×Obj)} {σ:St} {H:Hp} {s:Shared} {a b:Addr} {f g:Form} (I:Inv X pins σ H s) (ha:au H a f) (hb:au H b g) (hu:X.A.units+2 < cLine):∃i1 i2:List Value,s.heap.IsTuple a i1.toArray∧s.heap.IsTuple b i2.toArray∧i1.length=f.length∧i2.length=g.length∧∀j (h1:j < i1.toArray.size) (h2:j < i2.toArray.size),EqAt X.A.in1 s i1.toArray[j] i2.toArray[j] (decide (f[j]?=g[j]?)):=by
 obtain ⟨r1,a1,a2⟩:=ha;obtain ⟨r2,b1,b2⟩:=hb;obtain ⟨_,i1,v1,p1⟩:=(dq I.hok a1);obtain ⟨_,i2,v2,p2⟩:=(dq I.hok b1);have l1:=v1.length;have l2:=v2.length;have e1:=a2.1;have e2:=b2.1;refine ⟨i1,i2,p1,p2,by omega,by omega,λj h1 h2=>?_⟩;have hj:j < f.length:=by rw[aa9] at h1;omega
 have hj2:j < g.length:=by rw[aa9] at h2;omega
 obtain ⟨t,m,q1,q2,q3⟩:=a2.2 j f[j].1 f[j].2 (aa2 hj);obtain ⟨t',m',q1',q2',q3'⟩:=b2.2 j g[j].1 g[j].2 (aa2 hj2);obtain ⟨u,hu1,ru⟩:=v1.get q1;obtain ⟨u',hu2,ru'⟩:=v2.get q1';cases (show u=Value.ref t from ru)
 cases (show u'=Value.ref t' from ru')
 have g1:i1.toArray[j]=Value.ref t:=by
  have:i1[j]'(by simpa using h1)=Value.ref t:=by rw[aa2 (by simpa using h1)] at hu1;exact aa6 hu1
  simpa using this
 have g2:i2.toArray[j]=Value.ref t':=by
  have:i2[j]'(by simpa using h2)=Value.ref t':=by rw[aa2 (by simpa using h2)] at hu2;exact aa6 hu2
  simpa using this
 rw[g1,g2,aa2 hj,aa2 hj2];have e:=Gb (A:=X.A.in1) I.hok q2 q2' q3 q3' hu;have d:decide (some f[j]=some g[j])=decide ((f[j].1,f[j].2)=(g[j].1,g[j].2)):=by
  by_cases x:f[j]=g[j]
  ·rw[x,decide_eq_true rfl,decide_eq_true rfl]
  ·rw[decide_eq_false λz=>x (aa6 z),decide_eq_false λz=>x z]
 rw[d];exact e
theorem op_eqG (hu:X.A.units+8 < cLine):OpR X (compareOp .Eq) (rEqG false):=by
 intro pins s σ H x y v u Q I rx ry h;obtain ⟨a,b,f,g,rfl,rfl,ha,hb,q⟩:=h;cases rx
 cases ry
 obtain ⟨i1,i2,p1,p2,l1,l2,he⟩:=wt I ha hb (by omega);refine eq_tupleAt (e:=λj=>decide (f[j]?=g[j]?)) p1 p2 (by omega) he ?_;refine az I q ?_;rw[aa9,aa9,l1,l2,zy];rfl
end
end L2
namespace L2.Zd
open PySem
abbrev IsZ (h:Heap) (z TI TO:Addr) (f0 f1:Value):Prop:=
 h.get? z=some { cls:=.type "zip",dict:=none,data:=.fields #[f0,f1,.bool false,.ref TI,.ref TO],slots:=#[] }
section
variable {prog:Program} {w:World} {A:Around} {E:Value→Shared→Prop} {s:Shared}
theorem alive {M:Model} {a:Addr} {Q:Option Obj→Shared→Prop} (h:Q (s.heap.get? a) s):wpAny M A (loadIfAlive a) Q E s:=λΓ p hΓ=>by
 unfold loadIfAlive;rw[Sem.wp_loadIfAlive];exact wpAny_pure h Γ p hΓ
theorem Kq {z TI TO T:Addr} {b:Bool} {o:Obj} {Q:Bool→Shared→Prop} (hz:IsZ s.heap z TI TO (rawInt T) (.bool b)) (ho:s.heap.get? T=some o)
  (q:∀h',IsZ h' z TI TO (rawInt T) (.bool true)→Heap.SameBut z s.heap h'→Q false { s with heap:=h' }):wpAny (model prog w) A (Builtin.SmallTypes.ownedTupleIsFree (.ref z)) Q E s:=by
 unfold Builtin.SmallTypes.ownedTupleIsFree;refine wpAny_bind (wpAny_field hz rfl (x:=rawInt T) rfl ?_);show wpAny _ _ (loadIfAlive T >>=_) _ _ _
 refine wpAny_bind (alive ?_);rw[ho];show wpAny _ _ (field (.ref z) 1 >>=_) _ _ _
 refine wpAny_bind (wpAny_field hz rfl (x:=.bool b) rfl ?_);cases b with
 | true=>exact wpAny_pure (q s.heap hz (Heap.SameBut.refl _ _))
 | false=>exact wpAny_bind (wpAny_setField_rec hz (by simp) λh' hz' hs'=>wpAny_pure (q h' hz' hs'))
end
end L2.Zd
namespace L2
open PySem PySem.Spec PyProof.Rows
theorem K9 {lo:Int} {n:Nat} {fr:St} {tc:TT} {te:TE} {D:Addr} {H1:Hp} {Q:Hp→Prop} (P:Nat→List V→Hp→Prop) (hn:n < sizeLine) (h0:P 0 [] (upd H1 D (.lst [])))
  (step:∀(i:Nat) ys H (G:Hp→Prop) (K':V→Hp→Prop),i < n→P i ys H→ys.length≤i→H D=some (.lst ys)→(∀H3,H3 D=some (.lst ys)→P (i+1) ys H3→G H3)→(∀y H4,H4 D=some (.lst ys)→P (i+1) (ys++[y]) (upd H4 D (.lst (ys++[y])))→K' y H4)→tc ([some (.int (lo+i))]++fr) H λb H3=>if b=true then te ([some (.int (lo+i))]++fr) H3 K' else G H3)
  (done:∀ys H,P n ys H→ys.length≤n→H D=some (.lst ys)→Q H):LC 1 fr (cm 0) tc te (Itr lo n) D H1 Q:=by
 refine ⟨λi m H=>m=n - i∧i≤n∧∃ys,H D=some (.lst ys)∧P i ys H∧ys.length≤i,⟨n,by simp,aac _,[],aa,h0,aa4 _⟩,?_⟩;rintro i m H ⟨rfl,hi,ys,hys,hP,hl⟩;by_cases hlt:i < n
 ·refine .inr ⟨hlt,λτ x H' hτ hy=>?_⟩;obtain ⟨e1,e2⟩:=hy;subst e1 e2;obtain ⟨c,rfl⟩:∃c,τ=[c]:=List.length_eq_one_iff.mp hτ;refine ⟨⟨[some (.int (lo+i))],rfl,rfl⟩,step i ys H' _ _ hlt hP hl hys (λH3 q1 q2=>⟨n - (i+1),by omega,rfl,hlt,ys,q1,q2,ack hl⟩) λy H4 q1 q2=>⟨ys,q1,by omega,n - (i+1),by omega,rfl,hlt,ys++[y],aa,q2,?_⟩⟩;rw[aa5,aat];omega
 ·obtain rfl:i=n:=by omega
  exact .inl ⟨aa4 _,done ys H hP hl hys⟩
def CDivB (i j:Int):Prop:=0 < j∧j.natAbs.log2 < 9000
theorem xv {X:Cx}:OpR X (binaryOp .FloorDiv) (rI CDivB λi j=>.int (i / j)):=opI λi j _ _ _ _ _ hc q=>by
 have h1:(0:Int) < j:=hc.1;exact floordiv_int (by omega) (by rw[ad8 i (by omega)];exact q) (.inl (PyProof.noPylong_of_log2 hc.2))
end L2
namespace Pc
open PySem PySem.Spec L2 PyProof.Rows
structure Rd5 where
 name:Str
 kind:Str
 price:Int
 shape:List V
 cn:List (List V)
def b8 (H:Hp) (as:List Addr) (ts:List (List V)):Prop:=as.length=ts.length∧∀(i:Nat) (a:Addr) (t:List V),as[i]?=some a→ts[i]?=some t→H a=some (.tup t)
def oq (H:Hp) (a:Addr) (r:Rd5):Prop:=∃sa da as,H a=some (.tup [.str r.name,.str r.kind,.int r.price,.ref sa,.ref da])∧H sa=some (.tup r.shape)∧H da=some (.tup (as.map V.ref))∧b8 H as r.cn
def df (H:Hp) (as:List Addr) (rs:List Rd5):Prop:=as.length=rs.length∧∀(i:Nat) (a:Addr) (r:Rd5),as[i]?=some a→rs[i]?=some r→oq H a r
def xq (H:Hp) (b:Addr) (kinds:List Str) (rs:List Rd5):Prop:=∃kt rt ra,H b=some (.tup [.ref kt,.ref rt])∧H kt=some (.tup (kinds.map V.str))∧H rt=some (.tup (ra.map V.ref))∧df H ra rs
def Tk (H H':Hp):Prop:=∀b xs,H b=some (.tup xs)→H' b=some (.tup xs)
theorem Tk.refl (H:Hp):Tk H H:=λ_ _ h=>h
theorem Tk.trans {H H1 H2:Hp} (a:Tk H H1) (b:Tk H1 H2):Tk H H2:=λx xs h=>b x xs (a x xs h)
theorem Tk.of {H H':Hp} (s:ag H H'):Tk H H':=λ_ _ h=>s _ _ h
theorem Tk.upd {H H':Hp} {a:Addr} {o:HO} (k:Tk H H') (h:∀xs,H a≠some (.tup xs)):Tk H (L2.upd H' a o):=λb xs e=>by
 by_cases c:b=a
 ·rw[c] at e;exact absurd e (h xs)
 ·rw[af c];exact k b xs e
theorem b8.keep {H H':Hp} {as:List Addr} {ts:List (List V)} (h:b8 H as ts) (k:Tk H H'):b8 H' as ts:=⟨h.1,λi a t x y=>k _ _ (h.2 i a t x y)⟩
theorem b8.nil (H:Hp):b8 H [] []:=⟨rfl,λ_ _ _ h=>by cases h⟩
theorem zz {α β:Type} {as:List α} {ts:List β} {a:α} {t:β} (h:as.length=ts.length) {R:α→β→Prop} (hr:∀(i:Nat) (a:α) (t:β),as[i]?=some a→ts[i]?=some t→R a t) (ha:R a t):∀(i:Nat) (x:α) (y:β),(as++[a])[i]?=some x→(ts++[t])[i]?=some y→R x y:=by
 intro i x y e1 e2;by_cases c:i < as.length
 ·rw[aax c] at e1;rw[aax (by omega)] at e2;exact hr i x y e1 e2
 ·have hi:i=as.length:=by
   have:=(List.getElem?_eq_some_iff.mp e1).1;rw[aa5,aat] at this;omega
  subst hi;rw[aar (aa4 _),abq] at e1;rw[h,aar (aa4 _),abq] at e2;cases e1
  cases e2
  exact ha
theorem b8.snoc {H:Hp} {as:List Addr} {ts:List (List V)} {a:Addr} {t:List V} (h:b8 H as ts) (ha:H a=some (.tup t)):b8 H (as++[a]) (ts++[t]):=⟨by rw[aa5,aa5,h.1];rfl,zz h.1 h.2 ha⟩
theorem oq.keep {H H':Hp} {a:Addr} {r:Rd5} (h:oq H a r) (k:Tk H H'):oq H' a r:=let ⟨sa,da,as,h1,h2,h3,h4⟩:=h;⟨sa,da,as,k _ _ h1,k _ _ h2,k _ _ h3,h4.keep k⟩
theorem df.keep {H H':Hp} {as:List Addr} {rs:List Rd5} (h:df H as rs) (k:Tk H H'):df H' as rs:=⟨h.1,λi a r x y=>(h.2 i a r x y).keep k⟩
theorem df.nil (H:Hp):df H [] []:=⟨rfl,λ_ _ _ h=>by cases h⟩
theorem df.snoc {H:Hp} {as:List Addr} {rs:List Rd5} {a:Addr} {r:Rd5} (h:df H as rs) (ha:oq H a r):df H (as++[a]) (rs++[r]):=⟨by rw[aa5,aa5,h.1];rfl,zz h.1 h.2 ha⟩
theorem xq.keep {H H':Hp} {b:Addr} {kinds:List Str} {rs:List Rd5} (h:xq H b kinds rs) (k:Tk H H'):xq H' b kinds rs:=let ⟨kt,rt,ra,h1,h2,h3,h4⟩:=h;⟨kt,rt,ra,k _ _ h1,k _ _ h2,k _ _ h3,h4.keep k⟩
def alt:Nat→Hp→V→V→Prop
 | 0,_,x,y=>isW x∧y=x
 | n+1,H,x,y=>(isW x∧y=x)∨∃a b xs ys,x=.ref a∧y=.ref b∧H a=some (.tup xs)∧H b=some (.tup ys)∧xs.length=ys.length∧xs.length≤1000∧∀(i:Nat) (u v:V),xs[i]?=some u→ys[i]?=some v→alt n H u v
theorem alt.w {n:Nat} {H:Hp} {x:V} (h:isW x):alt n H x x:=by
 cases n with
 | zero=>exact ⟨h,rfl⟩
 | succ n=>exact .inl ⟨h,rfl⟩
theorem alt.keep {H H':Hp} (k:Tk H H'):∀{n:Nat} {x y:V},alt n H x y→alt n H' x y
 | 0,_,_,h=>h
 | n+1,x,y,h=>by
  rcases h with h | ⟨a,b,xs,ys,e1,e2,h1,h2,h3,h4,h5⟩
  ·exact .inl h
  ·exact .inr ⟨a,b,xs,ys,e1,e2,k _ _ h1,k _ _ h2,h3,h4,λi u v hu hv=>alt.keep k (h5 i u v hu hv)⟩
theorem alt.tup {n:Nat} {H:Hp} {a b:Addr} {xs:List V} (h1:H a=some (.tup xs)) (h2:H b=some (.tup xs)) (hl:xs.length≤1000) (hw:∀v∈xs,isW v):alt (n+1) H (.ref a) (.ref b):=
 .inr ⟨a,b,xs,xs,rfl,rfl,h1,h2,rfl,hl,λi u v hu hv=>by
  cases hu.symm.trans hv
  exact alt.w (hw u (aam hu))⟩
theorem mr {as:List Addr} {i:Nat} {u:V} (h:(as.map V.ref)[i]?=some u):∃a,as[i]?=some a∧u=.ref a:=by
 rw[aae] at h;obtain ⟨a,h1,h2⟩:=Option.map_eq_some_iff.mp h;exact ⟨a,h1,h2.symm⟩
theorem alt.refs {n:Nat} {H:Hp} {a b:Addr} {as bs:List Addr} (h1:H a=some (.tup (as.map V.ref))) (h2:H b=some (.tup (bs.map V.ref))) (hl:as.length=bs.length) (hm:as.length≤1000) (hr:∀(i:Nat) (x y:Addr),as[i]?=some x→bs[i]?=some y→alt n H (.ref x) (.ref y)):alt (n+1) H (.ref a) (.ref b):=
 .inr ⟨a,b,_,_,rfl,rfl,h1,h2,by rw[aa3,aa3];exact hl,by rw[aa3];exact hm,λi u v hu hv=>by
  obtain ⟨x,hx,rfl⟩:=mr hu;obtain ⟨y,hy,rfl⟩:=mr hv;exact hr i x y hx hy⟩
def Rd5.fit (r:Rd5):Prop:=(∀v∈r.shape,isW v)∧r.shape.length≤12∧r.cn.length≤1000∧∀d∈r.cn,d.length≤1000∧∀v∈d,isW v
theorem Hv {n:Nat} {H:Hp} {as bs:List Addr} {ts:List (List V)} (h1:b8 H as ts) (h2:b8 H bs ts) (hw:∀d∈ts,d.length≤1000∧∀v∈d,isW v) (i:Nat) (x y:Addr) (hx:as[i]?=some x) (hy:bs[i]?=some y):alt (n+1) H (.ref x) (.ref y):=by
 have hi:i < ts.length:=by rw[←h1.1];exact (List.getElem?_eq_some_iff.mp hx).1
 have ht:=aa2 hi;exact alt.tup (h1.2 i x _ hx ht) (h2.2 i y _ hy ht) (hw _ (aam ht)).1 (hw _ (aam ht)).2
theorem J4 {H:Hp} {a b:Addr} {r:Rd5} (h1:oq H a r) (h2:oq H b r) (f:r.fit):alt 3 H (.ref a) (.ref b):=by
 obtain ⟨sa,da,as,a1,a2,a3,a4⟩:=h1;obtain ⟨sb,db,bs,b1,b2,b3,b4⟩:=h2;refine .inr ⟨a,b,_,_,rfl,rfl,a1,b1,rfl,by show (5:Nat)≤1000;decide,λi u v hu hv=>?_⟩;match i,hu,hv with
 | 0,hu,hv=>cases hu;cases hv;exact alt.w (isW.str _)
 | 1,hu,hv=>cases hu;cases hv;exact alt.w (isW.str _)
 | 2,hu,hv=>cases hu;cases hv;exact alt.w (isW.int _)
 | 3,hu,hv=>cases hu;cases hv;exact alt.tup a2 b2 (aal f.2.1 (by decide)) f.1
 | 4,hu,hv=>cases hu;cases hv;exact alt.refs a3 b3 (a4.1.trans b4.1.symm) (by rw[a4.1];exact f.2.2.1) (Hv a4 b4 f.2.2.2)
theorem J2 {H:Hp} {a b:Addr} {kinds:List Str} {rs:List Rd5} (h1:xq H a kinds rs) (h2:xq H b kinds rs) (hk:kinds.length≤1000) (hr:rs.length≤1000) (f:∀r∈rs,r.fit):alt 5 H (.ref a) (.ref b):=by
 obtain ⟨ka,ra,as,a1,a2,a3,a4⟩:=h1;obtain ⟨kb,rb,bs,b1,b2,b3,b4⟩:=h2;refine .inr ⟨a,b,_,_,rfl,rfl,a1,b1,rfl,by show (2:Nat)≤1000;decide,λi u v hu hv=>?_⟩;match i,hu,hv with
 | 0,hu,hv=>cases hu;cases hv;exact alt.tup a2 b2 (by rw[aa3];exact hk) λv hv=>by obtain ⟨z,_,rfl⟩:=List.mem_map.mp hv;exact isW.str z
 | 1,hu,hv=>
  cases hu;cases hv
  refine alt.refs a3 b3 (a4.1.trans b4.1.symm) (by rw[a4.1];exact hr) λi x y hx hy=>?_;have hi:i < rs.length:=by rw[←a4.1];exact (List.getElem?_eq_some_iff.mp hx).1
  have ht:=aa2 hi;exact J4 (a4.2 i x _ hx ht) (b4.2 i y _ hy ht) (f _ (aam ht))
end Pc
namespace L2
open PySem PySem.Spec PyProof.Rows
theorem Ae {K:PySem.W.Frag} {n:Nat} {a:Addr} {x0 x1:V} {i0 i1:Nat} {σ:L2.St} {H:Hp} {Q:L2.St→Hp→Prop} (h:H a=some (.tup [x0,x1])) (hn:2=n) (q:Q ((σ.set i0 (some x0)).set i1 (some x1)) H):ub K n (dz (cm i0) (dz (cm i1) xm)) (.ref a) σ H Q:=⟨a,_,rfl,SqT.of h,hn,_,_,rfl,_,_,rfl,rfl,q⟩
theorem Ig {K:PySem.W.Frag} {n:Nat} {a:Addr} {x0 x1 x2 x3 x4:V} {i0 i1 i2 i3 i4:Nat} {σ:L2.St} {H:Hp} {Q:L2.St→Hp→Prop} (h:H a=some (.tup [x0,x1,x2,x3,x4])) (hn:5=n) (q:Q (((((σ.set i0 (some x0)).set i1 (some x1)).set i2 (some x2)).set i3 (some x3)).set i4 (some x4)) H):ub K n (dz (cm i0) (dz (cm i1) (dz (cm i2) (dz (cm i3) (dz (cm i4) xm))))) (.ref a) σ H Q:=⟨a,_,rfl,SqT.of h,hn,_,_,rfl,_,_,rfl,_,_,rfl,_,_,rfl,_,_,rfl,rfl,q⟩
end L2
namespace Bk
open PySem PySem.Spec L2 PyProof.Rows Pc
theorem pk {z:Str} {xs:List V} (h:V.str z∈xs):inV (.str z) xs=true:=List.any_eq_true.mpr ⟨_,h,by simp[eqV]⟩
def bc (H:Hp) (h:Addr) (n:Nat):Prop:=∃a b c:Int,H h=some (.lst [.int a,.int b,.int c])∧0≤a∧a≤(n:Int)∧0≤b∧b < 1000000007
def An:Sp:=λvs H Q _=>∃(c:Int) (k:Nat),vs=[.int c,.int (k:Int)]∧k≤100∧∀(l:Addr) (H':Hp),ag H H'→H l=none→bc H' l 0→Q (.ref l) H'
def gz:Sp:=λvs H Q _=>∃(h:Addr) (m:Int) (n:Nat),vs=[.ref h,.int m]∧bc H h n∧n≤10000∧0 < m∧m.natAbs.log2 < 9000∧∀(x:Int) (H':Hp),av h H H'→bc H' h (n+1)→0≤x→x < m→Q (.int x) H'
def vh (n:Nat):Sp:=λvs H Q _=>∃x y,vs=[x,y]∧alt n H x y∧∀H',ag H H'→Q (.bl true) H'
theorem bc.le {H:Hp} {h:Addr} {n m:Nat} (a:bc H h n) (e:n≤m):bc H h m:=let ⟨x,y,z,h1,h2,h3,h4,h5⟩:=a;⟨x,y,z,h1,h2,by omega,h4,h5⟩
theorem bc.same {H H':Hp} {h:Addr} {n:Nat} (a:bc H h n) (s:ag H H'):bc H' h n:=let ⟨x,y,z,h1,r⟩:=a;⟨x,y,z,s _ _ h1,r⟩
theorem bp {H:Hp} {h:Addr} {m:Int} {n:Nat} {Q:VK} {E:XK} (hh:bc H h n) (hn:n≤10000) (hm:0 < m) (hb:m.natAbs.log2 < 9000) (q:∀(x:Int) (H':Hp),av h H H'→bc H' h (n+1)→0≤x→x < m→Q (.int x) H'):gz [.ref h,.int m] H Q E:=⟨h,m,n,rfl,hh,hn,hm,hb,q⟩
theorem ux:∀(zs:List Str) {x:Nat},x∈(Str.join (⟨#[]⟩:Str) zs).cps.toList→∃z∈zs,x∈z.cps.toList
 | [],x,h=>by cases h
 | [z],x,h=>⟨z,aa8,h⟩
 | z::y::r,x,h=>by
  have h:x∈(z++(⟨#[]⟩:Str)++Str.join ⟨#[]⟩ (y::r)).cps.toList:=h;simp only[Str.cps_append,ad2,acx] at h;rcases h with (h | h) | h
  ·exact ⟨z,aa8,h⟩
  ·cases h
  ·obtain ⟨u,hu,hx⟩:=ux (y::r) h;exact ⟨u,aa7 _ hu,hx⟩
theorem Ak {zs:List Str} {x:Nat} (h:x∈(Txt.join "" zs).cps.toList):∃z∈zs,x∈z.cps.toList:=by
 have e:Txt.join "" zs=Str.join ⟨#[]⟩ zs:=by
  rw[show (Str.ofString "")=(⟨#[]⟩:Str) by decide+kernel];exact StrLaws.glued_eq_join _ zs
 rw[e] at h;exact ux zs h
theorem let_of {x:Int} (h0:0≤x) (h1:x < 26):∃c:Nat,atI uc.cps.toList x=some c∧97≤c∧c≤122:=by
 obtain ⟨c,h,l⟩:=let_at x;rw[Int.emod_eq_of_lt h0 h1] at h;exact ⟨97+c,h,by omega,by omega⟩
theorem Lo:∀z∈keptS,fw (z++Str.ofString "x")=true:=by decide+kernel
theorem Kx {z:Str} (h1:1≤z.length) (h8:z.length≤8) (hc:∀c∈z.cps.toList,97≤c∧c≤122):(inV (.str z) ft=true→fw (z++Str.ofString "x")=true)∧(inV (.str z) ft=false→fw z=true):=by
 refine ⟨λh=>?_,Hg h1 h8 hc⟩;have hm:=pz h;refine Lo z ?_;have e:ft=keptS.map V.str:=rfl;rw[e] at hm;obtain ⟨y,hy,e⟩:=List.mem_map.mp hm;cases e
 exact hy
theorem av.fresh {H H':Hp} {h:Addr} (s:av h H H') (hn:H h=none):ag H H':=λb o ho=>s b o (ah ho hn) ho
end Bk
namespace L2.RvR
open PySem PySem.Spec PySem.Calls PyProof.Rows
end L2.RvR
namespace L2
open PySem PySem.Spec PyProof.Rows RvR
noncomputable def Itd (n:Nat):It:=⟨λi _=>i < n,λi H x H'=>H'=H∧x=.int ((n:Int) - 1 - (i:Int)),λi _=>n≤i⟩
theorem Fj {P:Program} {w:World} {K:PySem.W.Frag} {tg:Expr} (it:Addr) (n:Nat):Turn P w K tg (Itd n) [it] it (λi h=>IsRangeIter h it ((n:Int) - 1+(i:Nat)*(-1)) ((n:Int) - (i:Nat)) (-1)) where
 mem:=by simp
 obj:=λi h st b hb=>by
  have e:b=it:=by simpa using hb
  subst e;exact ⟨_,st,λv z=>nomatch (show Data.fields _=Data.cell v from z)⟩
 keep:=λi h h' st k=>k it (by simp) _ st
 item:=by
  intro X hP hw hK hc i pins s σ H E I hf st hg;subst hP hw hK;obtain ⟨f0,f1,f2,f3,f4,f5⟩:=hf it (by simp);refine (Walks.range (prog:=X.prog) (w:=X.w) (I.ok.hd hc) it ((n:Int) - 1) (-1) n).item i s _ _ hg st λv h' tk hv st' kk=>?_;obtain ⟨t,rfl⟩:=hv;have I1:Inv X pins σ H { s with heap:=h',toks:=tk }:=I.turned (λb o hb e=>kk b o (by simpa using hb) e) f0 f1 f3 f4 f5;refine ⟨_,rfl,zi (s:={ s with heap:=h',toks:=tk }) (n:="range_iterator") st' rfl rfl (by decide) ⟨.int ((n:Int) - 1 - (i:Int)),H,I1,⟨t,?_⟩,⟨rfl,rfl⟩,st',λb hb=>(hf b hb).1⟩⟩;congr 1
  omega
 done:=by
  intro X hP hw hK hc i pins s σ H E I hf st hg;subst hP hw hK;obtain ⟨f0,f1,f2,f3,f4,f5⟩:=hf it (by simp);have hg:n≤i:=hg;exact wpAny_pyNext_range_end (I.ok.hd hc) st (by omega) λh' eb=>⟨rfl,I.turned (t':=s.toks) (λb o hb e=>eb b o hb e) f0 f1 f3 f4 f5⟩
 self:=λ_ _ _ _ _ st h=>wpAny_pyIter_rangeiter st h
end L2
namespace L2
open PySem PySem.Spec PyProof.Rows
abbrev TFx:=St→Hp→Str→(Str→Hp→Prop)→Prop
def PFx (X:Cx) (es:List Expr) (n:Nat) (t:TFx):Prop:=
 ∀(pins:List (Addr×Obj)) (s:Shared) (σ:St) (H:Hp) (Q:Str→Hp→Prop) (acc:Str),Inv X pins σ H s→acc.length+n≤sizeLine→t σ H acc Q→
  Joins (model X.prog X.w) X.A X.xe (evalEach es X.env) acc (λout s1=>out.length≤sizeLine∧∃H1,Inv X pins σ H1 s1∧Q out H1) s
noncomputable def tX0:TFx:=λ_ H acc Q=>Q acc H
noncomputable def tXS (tv:TE) (t:TFx):TFx:=λσ H acc Q=>tv σ H λx H1=>∃z,x=.str z∧z.length≤1000∧t σ H1 (acc++z) Q
noncomputable def tXI (tv:TE) (t:TFx):TFx:=λσ H acc Q=>tv σ H λx H1=>∃a:Int,x=.int a∧a.natAbs.log2 < 1920∧t σ H1 (acc++Str.ofString (toString a)) Q
def tFx (t:TFx):TE:=λσ H Q=>t σ H Str.empty λo H1=>Q (.str o) H1
section
variable {X:Cx} {v e1 e2:Expr} {es:List Expr} {tv:TE} {t:TFx} {p pos:Pos} {n:Nat}
theorem px_nil:PFx X [] 0 tX0:=λpins s σ H Q acc I ha h=>⟨ha,H,I,h⟩
theorem px_s (hv:PE X v tv) (r:PFx X es n t):PFx X (.FormattedValue v (-1) none p::es) (1000+n) (tXS tv t):=λpins s σ H Q acc I ha h=>by
 refine wpAny_FormattedValue_plain (thn (hv pins s σ H _ I h) λu s1 ⟨x,H1,I1,r1,z,e,hl,q⟩=>?_);subst e;obtain ⟨t,rfl⟩:=r1;have sz:=sizeLine_eq;exact formatField_str (λt' tk=>⟨_,t',rfl,by rw[strLen_append];omega,r pins _ σ H1 Q _ (I1.tok _) (by rw[strLen_append];omega) q⟩) (by omega)
theorem px_i (hv:PE X v tv) (r:PFx X es n t):PFx X (.FormattedValue v (-1) none p::es) (2000+n) (tXI tv t):=λpins s σ H Q acc I ha h=>by
 refine wpAny_FormattedValue_plain (thn (hv pins s σ H _ I h) λu s1 ⟨x,H1,I1,r1,a,e,hl,q⟩=>?_);subst e;obtain ⟨t,rfl⟩:=r1;have hx:(Str.ofString (toString a)).length≤1921:=by rw[PySem.ofString_length];exact int_text_length_le (by decide) hl
 have sz:=sizeLine_eq;refine formatField_int_small hl ?_;exact ⟨_,_,rfl,by rw[strLen_append];show _+(Str.ofString (toString a)).length≤_;omega,r pins _ σ H1 Q _ (I1.tok _) (by rw[strLen_append];show _+(Str.ofString (toString a)).length+_≤_;omega) q⟩
theorem K7 (h:PFx X (e1::e2::es) n t) (hn:n≤1000000:=by decide):PE X (.JoinedStr (e1::e2::es) pos) (tFx t):=by
 intro pins s σ H Q I hq;have sz:=sizeLine_eq;refine wpAny_JoinedStr ?_;have:=h pins s σ H _ Str.empty I (by show 0+n≤_;omega) hq;have mono:∀(xs:List (Sem Value)) (acc:Str) (Q Q':Str→Shared→Prop) (s:Shared),(∀o s,Q o s→Q' o s)→Joins (model X.prog X.w) X.A X.xe xs acc Q s→Joins (model X.prog X.w) X.A X.xe xs acc Q' s:=by
  intro xs;induction xs with
  | nil=>intro acc Q Q' s hQ h;exact hQ _ _ h
  | cons x r ih=>intro acc Q Q' s hQ h;exact thn h λu s1 ⟨y,t,e,hl,hj⟩=>⟨y,t,e,hl,ih _ _ _ _ hQ hj⟩
 exact mono _ _ _ _ _ (λo s1 ⟨hl,H1,I1,q⟩=>⟨hl,.str o,H1,I1.tok _,⟨_,rfl⟩,q⟩) this
end
end L2
namespace L2.Zg
open PySem L2.Zd
def Hf:Bool→Addr→Addr→Array Value→Nat→Heap→Prop
 | false,it,l,xs,k,h=>h.IsListIter it l k∧h.IsList l xs
 | true,it,l,xs,k,h=>h.IsTupleIter it l k∧h.IsTuple l xs
theorem Hf.keep {b:Bool} {it l:Addr} {xs:Array Value} {k:Nat} {h h':Heap} (x:Hf b it l xs k h) (g1:∀o,h.get? it=some o→h'.get? it=some o) (g2:∀o,h.get? l=some o→h'.get? l=some o):Hf b it l xs k h':=by
 cases b
 ·obtain ⟨⟨o,e,r⟩,⟨o',e',r'⟩⟩:=x;exact ⟨⟨o,g1 _ e,r⟩,⟨o',g2 _ e',r'⟩⟩
 ·obtain ⟨⟨o,e,r⟩,⟨o',e',r'⟩⟩:=x;exact ⟨⟨o,g1 _ e,r⟩,⟨o',g2 _ e',r'⟩⟩
section
variable {prog:Program} {w:World} {A:Around} {E:Value→Shared→Prop} {s:Shared}
theorem Hf.next {b:Bool} {it l:Addr} {xs:Array Value} {k:Nat} {v:Value} {Q:Value→Shared→Prop} (x:Hf b it l xs k s.heap) (hne:l≠it) (hx:xs[k]?=some v)
  (hQ:∀h',Hf b it l xs (k+1) h'→Heap.SameBut it s.heap h'→Q v { s with heap:=h' }):wpAny (model prog w) A (Builtin.SmallTypes.nextOf (.ref it)) Q E s:=by
 cases b
 ·obtain ⟨x1,x2⟩:=x;exact wpAny_nextOf_list_item x1 x2 hx λh' a b=>hQ h' ⟨a,x2.extBut b.extBut hne⟩ b
 ·obtain ⟨x1,x2⟩:=x;have ty:=x1.typeIs;obtain ⟨oi,hoi,ci,di⟩:=id x1;obtain ⟨ot,hot,_,nt,dt⟩:=id x2;unfold Builtin.SmallTypes.nextOf;refine wpAny_bind (wpAny_callSpecial?_slot (name:=Str.ofString "__next__") ty F.slot_tuple_iterator_next (wpAny_call_entry F.slot_tuple_iterator_next ty F.entry_tuple_iterator_next ?_ (F.args_tuple_iterator_next_1 _)));show wpAny _ _ (field (.ref it) 0 >>=_) _ _ s
  refine wpAny_bind (wpAny_field hoi di (x:=.ref l) rfl ?_);show wpAny _ _ (if (Value.ref l==Value.none)=true then _ else _) _ _ s
  rw[if_neg (show ¬((Value.ref l==Value.none)=true) from aai)];show wpAny _ _ (field (.ref it) 1 >>=_) _ _ s
  refine wpAny_bind (wpAny_field hoi di (x:=.int k 0) rfl ?_);show wpAny _ _ (seqItems? (.ref l) >>=_) _ _ s
  refine wpAny_bind (wpAny_seqItems hot dt ?_);simp only[abk,hx];refine wpAny_bind (wpAny_setField hoi di (by simp) (wpAny_pure ⟨v,rfl,wpAny_pure (hQ _ ⟨⟨_,Heap.get?_update_self _ hoi (Obj.isFreed_of_fields (Obj.data_mapFields di _)),(Obj.cls_mapFields ..).trans ci,by rw[Obj.data_mapFields di];simp[rawInt]⟩,x2.extBut (Heap.SameBut.update ..).extBut hne⟩ (Heap.SameBut.update ..))⟩))
theorem Hf.stop {b:Bool} {it l:Addr} {xs:Array Value} {k:Nat} {Q:Value→Shared→Prop} (hh:A.handled=none) (x:Hf b it l xs k s.heap) (hx:xs[k]?=none)
  (hE:∀h' e,Heap.ExtBut it s.heap h'→(∃o,h'.get? e=some o∧o.cls=.type "StopIteration")→E (.ref e) { s with heap:=h' }):wpAny (model prog w) A (Builtin.SmallTypes.nextOf (.ref it)) Q E s:=by
 cases b
 ·obtain ⟨x1,x2⟩:=x;exact wpAny_nextOf_list_end hh x1 x2 hx hE
 ·obtain ⟨x1,x2⟩:=x;have ty:=x1.typeIs;obtain ⟨oi,hoi,ci,di⟩:=id x1;obtain ⟨ot,hot,_,nt,dt⟩:=id x2;unfold Builtin.SmallTypes.nextOf;refine wpAny_bind (wpAny_callSpecial?_slot (name:=Str.ofString "__next__") ty F.slot_tuple_iterator_next (wpAny_call_entry F.slot_tuple_iterator_next ty F.entry_tuple_iterator_next ?_ (F.args_tuple_iterator_next_1 _)));show wpAny _ _ (field (.ref it) 0 >>=_) _ _ s
  refine wpAny_bind (wpAny_field hoi di (x:=.ref l) rfl ?_);show wpAny _ _ (if (Value.ref l==Value.none)=true then _ else _) _ _ s
  rw[if_neg (show ¬((Value.ref l==Value.none)=true) from aai)];show wpAny _ _ (field (.ref it) 1 >>=_) _ _ s
  refine wpAny_bind (wpAny_field hoi di (x:=.int k 0) rfl ?_);show wpAny _ _ (seqItems? (.ref l) >>=_) _ _ s
  refine wpAny_bind (wpAny_seqItems hot dt ?_);simp only[abk,hx];refine wpAny_bind (wpAny_rule (wpAny_bind (wpAny_setField hoi di (by simp) ?_)));show wpAny _ _ (newExc (.type "StopIteration") [] >>=_) _ _ _
  refine wpAny_bind ?_;simp only[newExc,newTuple];refine wpAny_bind (wpAny_newObj_type ?_ (by size_fits));refine wpAny_bind (m:=firstArgMember _ _) (wpAny_of_eq (a:=Value.none) (by first | rfl | (simp only[firstArgMember];rfl)) ?_);refine wpAny_newObj_type ?_ (by size_fits);simp only[raiseNew];refine wpAny_bind (wpAny_handled ?_);first | rw[show A.in1.handled=none from hh] | rw[hh]
  refine wpAny_bind (wpAny_pure (wpAny_throw ?_));exact hE _ _ (((Heap.SameBut.update ..).extBut.push _).push _) ⟨_,Heap.get?_push_size _ rfl,rfl⟩
theorem free {z TI TO:Addr} {f0:Value} {b:Bool} {Q:Bool→Shared→Prop} (hz:IsZ s.heap z TI TO f0 (.bool b)) (hf:f0=.none∨∃T:Addr,f0=rawInt T)
  (q:∀r h' b',IsZ h' z TI TO f0 (.bool b')→Heap.SameBut z s.heap h'→Q r { s with heap:=h' }):wpAny (model prog w) A (Builtin.SmallTypes.ownedTupleIsFree (.ref z)) Q E s:=by
 rcases hf with rfl | ⟨T,rfl⟩
 ·unfold Builtin.SmallTypes.ownedTupleIsFree;refine wpAny_bind (wpAny_field hz rfl (x:=.none) rfl (wpAny_pure ?_));exact q true s.heap b hz (Heap.SameBut.refl _ _)
 ·cases ho:s.heap.get? T with
  | some o=>exact Kq hz ho λh' a c=>q false h' true a c
  | none=>
   unfold Builtin.SmallTypes.ownedTupleIsFree;refine wpAny_bind (wpAny_field hz rfl (x:=rawInt T) rfl ?_);show wpAny _ _ (loadIfAlive T >>=_) _ _ _
   refine wpAny_bind (alive ?_);rw[ho];exact wpAny_pure (q true s.heap b hz (Heap.SameBut.refl _ _))
end
structure Cc (it l:Addr) (St:Nat→Heap→Prop) (gv:Nat→Nat→Option Value) (dt:Nat):Prop where
 keep:∀{k:Nat} {h h':Heap},St k h→(∀o,h.get? it=some o→h'.get? it=some o)→(∀o,h.get? l=some o→h'.get? l=some o)→St k h'
 next:∀{prog:Program} {w:World} {A:Around} {E:Value→Shared→Prop} {s:Shared} {k:Nat} {v:Value} {Q:Value→Shared→Prop},St k s.heap→l≠it→gv k s.toks=some v→
  (∀h',St (k+1) h'→Heap.SameBut it s.heap h'→Q v { s with heap:=h',toks:=s.toks+dt })→wpAny (model prog w) A (Builtin.SmallTypes.nextOf (.ref it)) Q E s
 stop:∀{prog:Program} {w:World} {A:Around} {E:Value→Shared→Prop} {s:Shared} {k:Nat} {Q:Value→Shared→Prop},A.handled=none→St k s.heap→gv k s.toks=none→
  (∀h' e,Heap.ExtBut it s.heap h'→(∃o,h'.get? e=some o∧o.cls=.type "StopIteration")→E (.ref e) { s with heap:=h' })→wpAny (model prog w) A (Builtin.SmallTypes.nextOf (.ref it)) Q E s
theorem wz {b:Bool} {it l:Addr} {xs:Array Value}:Cc it l (Hf b it l xs) (λk _=>xs[k]?) 0:=⟨Hf.keep,Hf.next,Hf.stop⟩
def ZsI (S1 S2:Nat→Heap→Prop) (z TI TO i1 i2:Addr) (i:Nat) (h:Heap):Prop:=
 (∃f0 b,IsZ h z TI TO f0 (.bool b)∧(f0=.none∨∃T:Addr,f0=rawInt T))∧(∃a b,IsPair h TO a b)∧IsPair h TI (.ref i1) (.ref i2)∧S1 i h∧S2 i h
abbrev Zst (c1 c2:Bool) (z TI TO i1 i2 l1 l2:Addr) (xs ys:Array Value) (i:Nat) (h:Heap):Prop:=ZsI (Hf c1 i1 l1 xs) (Hf c2 i2 l2 ys) z TI TO i1 i2 i h
section
variable {prog:Program} {w:World} {A:Around} {E:Value→Shared→Prop} {s:Shared} {S1 S2:Nat→Heap→Prop} {g1 g2:Nat→Nat→Option Value} {dt:Nat} {z TI TO i1 i2 l1 l2:Addr} {i:Nat}
theorem itemI {x y:Value} {Q:Value→Shared→Prop} (F1:Cc i1 l1 S1 g1 dt) (F2:Cc i2 l2 S2 g2 0) (D:ZipApart z TI TO i1 i2 l1 l2) (hz:ZsI S1 S2 z TI TO i1 i2 i s.heap) (hx:g1 i s.toks=some x) (hy:g2 i (s.toks+dt)=some y)
  (hQ:∀h',ZsI S1 S2 z TI TO i1 i2 (i+1) h'→IsPair h' s.heap.objs.size x y→h'.objs.size=s.heap.objs.size+1→(∀c o,c≠z→c≠TO→c≠i1→c≠i2→s.heap.get? c=some o→h'.get? c=some o)→Q (.ref s.heap.objs.size) { s with heap:=h',toks:=s.toks+dt }):
  wpAny (model prog w) A (Builtin.«zip.__next__» ⟨[.ref z],[]⟩) (λfin s'=>∃v,fin=.done (.ret v)∧Q v s') E s:=by
 obtain ⟨⟨f0,b,z0,hf⟩,⟨p,q,hTO⟩,hTI,h1,h2⟩:=hz;show wpAny _ _ (field (.ref z) 2 >>=_) _ _ _
 refine wpAny_bind (wpAny_field z0 rfl (x:=.bool false) rfl ?_);show wpAny _ _ (field (.ref z) 3 >>=_) _ _ _
 refine wpAny_bind (wpAny_field z0 rfl (x:=.ref TI) rfl ?_);refine wpAny_bind (wpAny_seqItems hTI rfl ?_);show wpAny _ _ (Builtin.SmallTypes.ownedTupleIsFree (.ref z) >>=_) _ _ _
 refine wpAny_bind (free z0 hf λr h₁ b1 z1 s1=>?_);have k1:∀c o,c≠z→s.heap.get? c=some o→h₁.get? c=some o:=λc o n e=>s1.extBut _ _ n e;have H1:=F1.keep h1 (λo e=>k1 _ o D.i1z e) λo e=>k1 _ o D.l1z e;have H2:=F2.keep h2 (λo e=>k1 _ o D.i2z e) λo e=>k1 _ o D.l2z e;cases r with
 | false=>
  simp only[ab7,if_false];refine wpAny_bind ?_;rw[←acd];simp only[acy,ad5];refine wpAny_bind (wpAny_bind (wpAny_holding ?_));show wpAny _ _ (Builtin.SmallTypes.nextOf (.ref i1) >>=_) _ _ _
  refine wpAny_bind (F1.next (s:={ s with heap:=h₁ }) H1 D.l1i1 hx λh₂ H1' s2=>wpAny_pure (wpAny_pure ?_));have s2:Heap.SameBut i1 h₁ h₂:=s2;have H2':=F2.keep H2 (λo e=>s2.extBut _ _ D.i12.symm e) λo e=>s2.extBut _ _ D.l2i1 e;refine wpAny_bind (wpAny_bind (wpAny_holding ?_));show wpAny _ _ (Builtin.SmallTypes.nextOf (.ref i2) >>=_) _ _ _
  refine wpAny_bind (F2.next (s:={ s with heap:=h₂,toks:=s.toks+dt }) H2' D.l2i2 hy λh₃ H2'' s3=>wpAny_pure (wpAny_pure (wpAny_pure ?_)));have s3:Heap.SameBut i2 h₂ h₃:=s3;refine wpAny_bind (wpAny_newTuple (hsz:=by show (2:Nat)≤sizeLine;decide) ?_);have sz:h₃.objs.size=s.heap.objs.size:=by rw[s3.1,s2.1,s1.1]
  have up:∀c o,c≠z→c≠i1→c≠i2→s.heap.get? c=some o→(h₃.push { cls:=.type "tuple",data:=.seq #[x,y] }).get? c=some o:=λc o n1 n2 n3 e=>Heap.get?_push_of_some _ (s3.extBut _ _ n3 (s2.extBut _ _ n2 (s1.extBut _ _ n1 e)));refine wpAny_pure ⟨_,rfl,?_⟩;rw[sz];refine hQ _ ⟨⟨f0,b1,Heap.get?_push_of_some _ (s3.extBut _ _ D.i2z.symm (s2.extBut _ _ D.i1z.symm z1)),hf⟩,⟨p,q,up _ _ D.TOz D.TOi1 D.TOi2 hTO⟩,up _ _ D.TIz D.TIi1 D.TIi2 hTI,?_,F2.keep H2'' (λo e=>Heap.get?_push_of_some _ e) λo e=>Heap.get?_push_of_some _ e⟩ ?_ (by rw[Heap.size_push,sz]) λc o n1 _ n3 n4 e=>up c o n1 n3 n4 e
  ·exact F1.keep H1' (λo e=>Heap.get?_push_of_some _ (s3.extBut _ _ D.i12 e)) λo e=>Heap.get?_push_of_some _ (s3.extBut _ _ D.l1i2 e)
  ·rw[←sz];exact Heap.get?_push_size _ rfl
 | true=>
  simp only[if_true];refine wpAny_bind (wpAny_rule ?_);refine wpAny_bind (wpAny_field z1 rfl (x:=.ref TO) rfl ?_);refine wpAny_bind (wpAny_setField_rec z1 (by simp) λh₂ z2 s2=>?_);replace z2:IsZ h₂ z TI TO .ellipsis (.bool b1):=z2
  have s2:Heap.SameBut z h₁ h₂:=s2;refine wpAny_bind ?_;simp only[aep,aer,acy,ad5];have H1a:=F1.keep H1 (λo e=>s2.extBut _ _ D.i1z e) λo e=>s2.extBut _ _ D.l1z e;have H2a:=F2.keep H2 (λo e=>s2.extBut _ _ D.i2z e) λo e=>s2.extBut _ _ D.l2z e;refine wpAny_bind (wpAny_bind (wpAny_onRaise ?_));show wpAny _ _ (Builtin.SmallTypes.nextOf (.ref i1) >>=_) _ _ _
  refine wpAny_bind (F1.next (s:={ s with heap:=h₂ }) H1a D.l1i1 hx λh₃ H1b s3=>wpAny_pure ?_);have s3:Heap.SameBut i1 h₂ h₃:=s3;have o3:IsPair h₃ TO p q:=s3.extBut _ _ D.TOi1 (s2.extBut _ _ D.TOz (k1 _ _ D.TOz hTO));refine wpAny_bind (wpAny_seqItems o3 rfl ?_);refine wpAny_bind (wpAny_updateSeq_pair o3 λh₄ o4 s4=>?_);replace o4:IsPair h₄ TO x q:=o4
  have s4:Heap.SameBut TO h₃ h₄:=s4;refine wpAny_bind (wpAny_letGo (wpAny_pure ?_));have H2b:=F2.keep H2a (λo e=>s4.extBut _ _ D.TOi2.symm (s3.extBut _ _ D.i12.symm e)) λo e=>s4.extBut _ _ D.l2TO (s3.extBut _ _ D.l2i1 e);refine wpAny_bind (wpAny_bind (wpAny_onRaise ?_));show wpAny _ _ (Builtin.SmallTypes.nextOf (.ref i2) >>=_) _ _ _
  refine wpAny_bind (F2.next (s:={ s with heap:=h₄,toks:=s.toks+dt }) H2b D.l2i2 hy λh₅ H2c s5=>wpAny_pure ?_);have s5:Heap.SameBut i2 h₄ h₅:=s5;have o5:IsPair h₅ TO x q:=s5.extBut _ _ D.TOi2 o4;refine wpAny_bind (wpAny_seqItems o5 rfl ?_);refine wpAny_bind (wpAny_updateSeq_pair o5 λh₆ o6 s6=>?_);replace o6:IsPair h₆ TO x y:=o6
  have s6:Heap.SameBut TO h₅ h₆:=s6;refine wpAny_bind (wpAny_letGo (wpAny_pure (wpAny_pure ?_)));refine wpAny_bind (wpAny_seqItems o6 rfl ?_);refine wpAny_bind (wpAny_newTuple ?_);have sz:h₆.objs.size=s.heap.objs.size:=by rw[s6.1,s5.1,s4.1,s3.1,s2.1,s1.1]
  have z6:IsZ h₆ z TI TO .ellipsis (.bool b1):=s6.extBut _ _ D.TOz.symm (s5.extBut _ _ D.i2z.symm (s4.extBut _ _ D.TOz.symm (s3.extBut _ _ D.i1z.symm z2)));have up:∀c o,c≠z→c≠TO→c≠i1→c≠i2→s.heap.get? c=some o→h₆.get? c=some o:=λc o n1 n2 n3 n4 e=>s6.extBut _ _ n2 (s5.extBut _ _ n4 (s4.extBut _ _ n2 (s3.extBut _ _ n3 (s2.extBut _ _ n1 (k1 _ _ n1 e)))));have H1c:=F1.keep H1b (λo e=>s6.extBut _ _ D.TOi1.symm (s5.extBut _ _ D.i12 (s4.extBut _ _ D.TOi1.symm e))) λo e=>s6.extBut _ _ D.l1TO (s5.extBut _ _ D.l1i2 (s4.extBut _ _ D.l1TO e));have H2d:=F2.keep H2c (λo e=>s6.extBut _ _ D.TOi2.symm e) λo e=>s6.extBut _ _ D.l2TO e;have zl:z < h₆.objs.size:=Heap.lt_size z6;show wpAny _ _ (Builtin.SmallTypes.ownedTupleHandOut (.ref z) (.ref h₆.objs.size) >>=_) _ _ _
  refine wpAny_bind ?_;unfold Builtin.SmallTypes.ownedTupleHandOut;have z7:IsZ (h₆.push { cls:=.type "tuple",data:=.seq #[x,y] }) z TI TO .ellipsis (.bool b1):=Heap.get?_push_of_some _ z6;refine wpAny_bind (wpAny_setField_rec z7 (by simp) λh₈ z8 s8=>?_);replace z8:IsZ h₈ z TI TO (rawInt h₆.objs.size) (.bool b1):=z8
  refine wpAny_setField_rec z8 (by simp) λh₉ z9 s9=>?_;replace z9:IsZ h₉ z TI TO (rawInt h₆.objs.size) (.bool false):=z9
  have u9:∀c o,c≠z→h₆.get? c=some o→h₉.get? c=some o:=λc o n e=>s9.extBut _ _ n (s8.extBut _ _ n (Heap.get?_push_of_some _ e));have t9:IsPair h₉ h₆.objs.size x y:=s9.extBut _ _ (ac4 zl) (s8.extBut _ _ (ac4 zl) (Heap.get?_push_size _ rfl));have n9:h₉.objs.size=h₆.objs.size+1:=by rw[s9.1,s8.1,Heap.size_push]
  rw[sz] at z9 t9 n9;refine wpAny_pure ⟨_,rfl,?_⟩;show Q (.ref h₆.objs.size) _
  rw[sz];exact hQ h₉ ⟨⟨_,false,z9,.inr ⟨_,rfl⟩⟩,⟨x,y,u9 _ _ D.TOz o6⟩,u9 _ _ D.TIz (up _ _ D.TIz D.TITO D.TIi1 D.TIi2 hTI),F1.keep H1c (λo e=>u9 _ o D.i1z e) λo e=>u9 _ o D.l1z e,F2.keep H2d (λo e=>u9 _ o D.i2z e) λo e=>u9 _ o D.l2z e⟩ t9 n9 λc o n1 n2 n3 n4 e=>u9 c o n1 (up c o n1 n2 n3 n4 e)
theorem finI {Q:Fin→Shared→Prop} (F1:Cc i1 l1 S1 g1 dt) (hh:A.handled=none) (D:ZipApart z TI TO i1 i2 l1 l2) (hz:ZsI S1 S2 z TI TO i1 i2 i s.heap) (hx:g1 i s.toks=none)
  (hE:∀h' e,(∀c o,c≠z→c≠TO→c≠i1→c≠i2→s.heap.get? c=some o→h'.get? c=some o)→(∃o,h'.get? e=some o∧o.cls=.type "StopIteration")→E (.ref e) { s with heap:=h' }):
  wpAny (model prog w) A (Builtin.«zip.__next__» ⟨[.ref z],[]⟩) Q E s:=by
 obtain ⟨⟨f0,b,z0,hf⟩,⟨p,q,hTO⟩,hTI,h1,h2⟩:=hz;show wpAny _ _ (field (.ref z) 2 >>=_) _ _ _
 refine wpAny_bind (wpAny_field z0 rfl (x:=.bool false) rfl ?_);show wpAny _ _ (field (.ref z) 3 >>=_) _ _ _
 refine wpAny_bind (wpAny_field z0 rfl (x:=.ref TI) rfl ?_);refine wpAny_bind (wpAny_seqItems hTI rfl ?_);show wpAny _ _ (Builtin.SmallTypes.ownedTupleIsFree (.ref z) >>=_) _ _ _
 refine wpAny_bind (free z0 hf λr h₁ b1 z1 s1=>?_);have k1:∀c o,c≠z→s.heap.get? c=some o→h₁.get? c=some o:=λc o n e=>s1.extBut _ _ n e;have H1:=F1.keep h1 (λo e=>k1 _ o D.i1z e) λo e=>k1 _ o D.l1z e;cases r with
 | false=>
  simp only[ab7,if_false];refine wpAny_bind ?_;rw[←acd];simp only[acy,ad5];refine wpAny_bind (wpAny_bind (wpAny_holding ?_));show wpAny _ _ (Builtin.SmallTypes.nextOf (.ref i1) >>=_) _ _ _
  exact wpAny_bind (F1.stop (s:={ s with heap:=h₁ }) hh H1 hx λh₂ e s2 he=>hE h₂ e (λc o n1 _ n3 _ g=>s2 _ _ n3 (k1 _ _ n1 g)) he)
 | true=>
  simp only[if_true];refine wpAny_bind (wpAny_rule ?_);refine wpAny_bind (wpAny_field z1 rfl (x:=.ref TO) rfl ?_);refine wpAny_bind (wpAny_setField_rec z1 (by simp) λh₂ z2 s2=>?_);replace z2:IsZ h₂ z TI TO .ellipsis (.bool b1):=z2
  have s2:Heap.SameBut z h₁ h₂:=s2;refine wpAny_bind ?_;simp only[aep,aer,acy,ad5];have H1a:=F1.keep H1 (λo e=>s2.extBut _ _ D.i1z e) λo e=>s2.extBut _ _ D.l1z e;refine wpAny_bind (wpAny_bind (wpAny_onRaise ?_));show wpAny _ _ (Builtin.SmallTypes.nextOf (.ref i1) >>=_) _ _ _
  refine wpAny_bind (F1.stop (s:={ s with heap:=h₂ }) hh H1a hx λh₃ e s3 he=>?_);obtain ⟨oe,hoe,hce⟩:=he;have z3:IsZ h₃ z TI TO .ellipsis (.bool b1):=s3 _ _ D.i1z.symm z2;have hez:e≠z:=λx=>by subst x;rw[z3] at hoe;cases hoe;simp at hce
  exact wpAny_setField_rec z3 (by simp) λh₄ _ s4=>hE h₄ e (λc o n1 _ n3 _ g=>s4.extBut _ _ n1 (s3 _ _ n3 (s2.extBut _ _ n1 (k1 _ _ n1 g)))) ⟨oe,s4.extBut _ _ hez hoe,hce⟩
theorem Mm {x y:Value} {Q:Option Value→Shared→Prop} (F1:Cc i1 l1 S1 g1 dt) (F2:Cc i2 l2 S2 g2 0) (D:ZipApart z TI TO i1 i2 l1 l2) (hz:ZsI S1 S2 z TI TO i1 i2 i s.heap) (hx:g1 i s.toks=some x) (hy:g2 i (s.toks+dt)=some y)
  (hQ:∀h',ZsI S1 S2 z TI TO i1 i2 (i+1) h'→IsPair h' s.heap.objs.size x y→h'.objs.size=s.heap.objs.size+1→(∀c o,c≠z→c≠TO→c≠i1→c≠i2→s.heap.get? c=some o→h'.get? c=some o)→Q (some (.ref s.heap.objs.size)) { s with heap:=h',toks:=s.toks+dt }):
  wpAny (model prog w) A (pyNext (.ref z)) Q E s:=by
 have hT:s.TypeIs (.ref z) "zip":=by obtain ⟨⟨f0,b,z0,_⟩,_⟩:=hz;exact ⟨_,z0,rfl⟩
 unfold pyNext;exact wpAny_bind (wpAny_attempt (wpAny_callSpecial?_slot (name:=Str.ofString "__next__") hT F.slot_zip_next (wpAny_call_entry F.slot_zip_next hT F.entry_zip_next (itemI F1 F2 D hz hx hy λh' a b c d=>wpAny_pure (hQ h' a b c d)) (F.args_zip_next_1 _))))
theorem pyFinI {Q:Option Value→Shared→Prop} (F1:Cc i1 l1 S1 g1 dt) (hh:A.handled=none) (D:ZipApart z TI TO i1 i2 l1 l2) (hz:ZsI S1 S2 z TI TO i1 i2 i s.heap) (hx:g1 i s.toks=none)
  (hQ:∀h',(∀c o,c≠z→c≠TO→c≠i1→c≠i2→s.heap.get? c=some o→h'.get? c=some o)→Q none { s with heap:=h' }):wpAny (model prog w) A (pyNext (.ref z)) Q E s:=by
 have hT:s.TypeIs (.ref z) "zip":=by obtain ⟨⟨f0,b,z0,_⟩,_⟩:=hz;exact ⟨_,z0,rfl⟩
 unfold pyNext;refine wpAny_bind (wpAny_attempt (wpAny_callSpecial?_slot (name:=Str.ofString "__next__") hT F.slot_zip_next (wpAny_call_entry F.slot_zip_next hT F.entry_zip_next (finI F1 (by first | exact hh | simp[hh]) D hz hx λh' e hk he=>?_) (F.args_zip_next_1 _))));obtain ⟨o,ho,hc⟩:=he;refine wpAny_bind (wpAny_isInstance (T:="StopIteration") (b:=true) ⟨o,ho,hc⟩ isSubtype_stop ?_);exact wpAny_pure (hQ _ hk)
theorem Kv {Q:Value→Shared→Prop} (hz:ZsI S1 S2 z TI TO i1 i2 i s.heap) (h:Q (.ref z) s):wpAny (model prog w) A (pyIter (.ref z)) Q E s:=by
 have hT:s.TypeIs (.ref z) "zip":=by obtain ⟨⟨f0,b,z0,_⟩,_⟩:=hz;exact ⟨_,z0,rfl⟩
 refine wpAny_pyIter_slot hT F.slot_zip_iter (wpAny_call_entry F.slot_zip_iter hT F.entry_zip_iter ?_ (F.args_zip_iter_1 _));show wpAny _ _ (ret (.ref z)) _ _ s
 exact wpAny_pure ⟨_,rfl,"zip",_,hT,F.slot_zip_next.lookup,h⟩
end
section
variable {prog:Program} {w:World} {A:Around} {E:Value→Shared→Prop} {s:Shared} {c1 c2:Bool} {z TI TO i1 i2 l1 l2:Addr} {xs ys:Array Value} {i:Nat}
theorem pyItem {x y:Value} {Q:Option Value→Shared→Prop} (D:ZipApart z TI TO i1 i2 l1 l2) (hz:Zst c1 c2 z TI TO i1 i2 l1 l2 xs ys i s.heap) (hx:xs[i]?=some x) (hy:ys[i]?=some y)
  (hQ:∀h',Zst c1 c2 z TI TO i1 i2 l1 l2 xs ys (i+1) h'→IsPair h' s.heap.objs.size x y→h'.objs.size=s.heap.objs.size+1→(∀c o,c≠z→c≠TO→c≠i1→c≠i2→s.heap.get? c=some o→h'.get? c=some o)→Q (some (.ref s.heap.objs.size)) { s with heap:=h' }):
  wpAny (model prog w) A (pyNext (.ref z)) Q E s:=Mm wz wz D hz hx hy hQ
theorem pyFin {Q:Option Value→Shared→Prop} (hh:A.handled=none) (D:ZipApart z TI TO i1 i2 l1 l2) (hz:Zst c1 c2 z TI TO i1 i2 l1 l2 xs ys i s.heap) (hx:xs[i]?=none)
  (hQ:∀h',(∀c o,c≠z→c≠TO→c≠i1→c≠i2→s.heap.get? c=some o→h'.get? c=some o)→Q none { s with heap:=h' }):wpAny (model prog w) A (pyNext (.ref z)) Q E s:=pyFinI wz hh D hz hx hQ
theorem pySelf {Q:Value→Shared→Prop} (hz:Zst c1 c2 z TI TO i1 i2 l1 l2 xs ys i s.heap) (h:Q (.ref z) s):wpAny (model prog w) A (pyIter (.ref z)) Q E s:=Kv hz h
end
theorem Ha (h:Heap) (o1 o2:Obj) (f1:o1.isFreed=false) (f2:o2.isFreed=false):∃h5,h5=((((h.push o1).push o2).push { cls:=.type "tuple",data:=.seq #[.ref h.objs.size,.ref (h.objs.size+1)] }).push { cls:=.type "tuple",data:=.seq #[.none,.none] }).push { cls:=.type "zip",data:=.fields #[.none,.bool false,.bool false,.ref (h.objs.size+2),.ref (h.objs.size+3)] }∧
  IsZ h5 (h.objs.size+4) (h.objs.size+2) (h.objs.size+3) .none (.bool false)∧IsPair h5 (h.objs.size+3) .none .none∧IsPair h5 (h.objs.size+2) (.ref h.objs.size) (.ref (h.objs.size+1))∧h5.get? h.objs.size=some o1∧h5.get? (h.objs.size+1)=some o2∧h5.objs.size=h.objs.size+5∧∀c o,h.get? c=some o→h5.get? c=some o:=by
 have lay:∀(h:Heap) (o:Obj),o.isFreed=false→∃h',h'=h.push o∧h'.get? h.objs.size=some o∧h'.objs.size=h.objs.size+1∧∀c o,h.get? c=some o→h'.get? c=some o:=λh o f=>⟨_,rfl,Heap.get?_push_size _ f,Heap.size_push ..,λc o e=>Heap.get?_push_of_some _ e⟩;obtain ⟨h1,q1,e1,n1,k1⟩:=lay h o1 f1;obtain ⟨h2,q2,e2,n2,k2⟩:=lay h1 o2 f2;obtain ⟨h3,q3,e3,n3,k3⟩:=lay h2 { cls:=.type "tuple",data:=.seq #[.ref h.objs.size,.ref (h.objs.size+1)] } rfl;obtain ⟨h4,q4,e4,n4,k4⟩:=lay h3 { cls:=.type "tuple",data:=.seq #[.none,.none] } rfl;obtain ⟨h5,q5,e5,n5,k5⟩:=lay h4 { cls:=.type "zip",data:=.fields #[.none,.bool false,.bool false,.ref (h.objs.size+2),.ref (h.objs.size+3)] } rfl;rw[n4,n3,n2,n1] at e5 n5;rw[n3,n2,n1] at e4;rw[n2,n1] at e3;rw[n1] at e2;exact ⟨h5,by rw[q5,q4,q3,q2,q1],e5,k5 _ _ e4,k5 _ _ (k4 _ _ e3),k5 _ _ (k4 _ _ (k3 _ _ (k2 _ _ e1))),k5 _ _ (k4 _ _ (k3 _ _ e2)),n5,λc o e=>k5 _ _ (k4 _ _ (k3 _ _ (k2 _ _ (k1 _ _ e))))⟩
theorem new_tl (l1 l2:Addr) (xs ys:Array Value):
  Meets (Builtin.«zip.__new__» ⟨[.type "zip",.ref l1,.ref l2],[]⟩) (λ_ R s=>s.heap.IsTuple l1 xs∧s.heap.IsList l2 ys∧
   R (.ok (.ret (.ref (s.heap.objs.size+4)))) { s with heap:=((((s.heap.push { cls:=.type "tuple_iterator",data:=.fields #[.ref l1,.int 0 0] }).push { cls:=.type "list_iterator",data:=.fields #[.ref l2,.int 0 0] }).push { cls:=.type "tuple",data:=.seq #[.ref s.heap.objs.size,.ref (s.heap.objs.size+1)] }).push { cls:=.type "tuple",data:=.seq #[.none,.none] }).push { cls:=.type "zip",data:=.fields #[.none,.bool false,.bool false,.ref (s.heap.objs.size+2),.ref (s.heap.objs.size+3)] } }):=
 .of_wp λprog w A R s h=>by
  obtain ⟨hp,g,d,tk,os⟩:=s;obtain ⟨hl1,hl2,h⟩:=h;have hsub:=sub_zip;have hL1:Heap.IsTuple (Shared.heap ⟨hp,g,d,tk,os⟩) l1 xs:=hl1;have hL2:Heap.IsList (Shared.heap ⟨hp.push { cls:=.type "tuple_iterator",data:=.fields #[.ref l1,.int 0 0] },g,d,tk,os⟩) l2 ys:=Heap.IsList.push hl2 _;simp only[←Heap.size_push] at h;wp_walk using wpAny_pyIter_tuple hL1,wpAny_pyIter_list hL2
  simp only[Heap.size_push] at h ⊢;exact ⟨_,rfl,h⟩
section
variable {prog:Program} {w:World} {A:Around} {E:Value→Shared→Prop} {s:Shared}
theorem Lm {l1 l2:Addr} {xs ys:Array Value} {Q:Value→Shared→Prop} (hl1:s.heap.IsTuple l1 xs) (hl2:s.heap.IsList l2 ys)
  (h:∀h',Zst true false (s.heap.objs.size+4) (s.heap.objs.size+2) (s.heap.objs.size+3) s.heap.objs.size (s.heap.objs.size+1) l1 l2 xs ys 0 h'→h'.objs.size=s.heap.objs.size+5→
   (∀c o,s.heap.get? c=some o→h'.get? c=some o)→Q (.ref (s.heap.objs.size+4)) { s with heap:=h' }):
  wpAny (model prog w) A (call (.type "zip") [.ref l1,.ref l2]) Q E s:=by
 refine callType_new F.called_zip (by decide) (F.typeCall_zip_2 _ _) (F.newCall_zip_2 _ _) (λobj=>F.args_object_init_3 obj _ _) F.entry_zip_new (new_tl l1 l2 xs ys) ⟨hl1,hl2,?_⟩;obtain ⟨h5,q5,e5,e4,e3,e1,e2,n5,up⟩:=Ha s.heap { cls:=.type "tuple_iterator",data:=.fields #[.ref l1,.int 0 0] } { cls:=.type "list_iterator",data:=.fields #[.ref l2,.int 0 0] } rfl rfl;rw[←q5];obtain ⟨o1,g1,r1⟩:=hl1;obtain ⟨o2,g2,r2⟩:=hl2;exact ⟨⟨_,e5,rfl⟩,h _ ⟨⟨.none,false,e5,.inl rfl⟩,⟨_,_,e4⟩,e3,⟨⟨_,e1,rfl,rfl⟩,⟨o1,up _ _ g1,r1⟩⟩,⟨⟨_,e2,rfl,rfl⟩,⟨o2,up _ _ g2,r2⟩⟩⟩ n5 up⟩
theorem Kw {l1 l2:Addr} {xs ys:Array Value} {Q:Value→Shared→Prop} (hl1:s.heap.IsList l1 xs) (hl2:s.heap.IsList l2 ys)
  (h:∀h',Zst false false (s.heap.objs.size+4) (s.heap.objs.size+2) (s.heap.objs.size+3) s.heap.objs.size (s.heap.objs.size+1) l1 l2 xs ys 0 h'→h'.objs.size=s.heap.objs.size+5→
   (∀c o,s.heap.get? c=some o→h'.get? c=some o)→Q (.ref (s.heap.objs.size+4)) { s with heap:=h' }):
  wpAny (model prog w) A (call (.type "zip") [.ref l1,.ref l2]) Q E s:=
 call_zip_2 hl1 hl2 λh' a1 a2 a3 a4 a5 a6 keep=>h h' ⟨⟨.none,false,a1,.inl rfl⟩,⟨_,_,a3⟩,a2,⟨a4,hl1.at λo e=>keep _ o e⟩,⟨a5,hl2.at λo e=>keep _ o e⟩⟩ a6 keep
end
end L2.Zg
namespace L2
open PySem PySem.Spec PyProof.Rows Zd Zg
theorem b_zip0:bootBuiltins "zip"=some (.type "zip"):=by decide+kernel
def SqB (K:PySem.W.Frag):Bool→Hp→Addr→List V→Prop
 | true,H,a,xs=>SqT K H a xs
 | false,H,a,xs=>SqL K H a xs
def itB:Bool→Heap→Addr→Addr→Nat→Prop
 | true,h,it,l,i=>h.IsTupleIter it l i
 | false,h,it,l,i=>h.IsListIter it l i
theorem itB.keep {b:Bool} {h h':Heap} {it l:Addr} {i:Nat} (x:itB b h it l i) (k:∀o,h.get? it=some o→h'.get? it=some o):itB b h' it l i:=by
 cases b
 ·obtain ⟨o,e,r⟩:=x;exact ⟨o,k _ e,r⟩
 ·obtain ⟨o,e,r⟩:=x;exact ⟨o,k _ e,r⟩
theorem itB.obj {b:Bool} {h:Heap} {it l:Addr} {i:Nat} (x:itB b h it l i):∃o,h.get? it=some o∧∀v,o.data≠.cell v:=by
 cases b
 ·obtain ⟨o,e,_,d⟩:=x;exact ⟨o,e,λv z=>by rw[d] at z;cases z⟩
 ·obtain ⟨o,e,_,d⟩:=x;exact ⟨o,e,λv z=>by rw[d] at z;cases z⟩
theorem vx {b:Bool} {it l:Addr} {xs:Array Value} {i:Nat} {h:Heap} (x:Hf b it l xs i h):itB b h it l i:=by
 cases b
 ·exact x.1
 ·exact x.1
def zpN (z TI TO i1 i2:Addr) (h:Heap):Prop:=(∃f0 b,IsZ h z TI TO f0 (.bool b)∧(f0=.none∨∃T:Addr,f0=rawInt T))∧(∃a b,IsPair h TO a b)∧IsPair h TI (.ref i1) (.ref i2)
section
variable {X:Cx} {pins:List (Addr×Obj)} {σ:St} {H:Hp} {s:Shared}
theorem Inv.sqB (I:Inv X pins σ H s) {b:Bool} {a:Addr} {xs:List V} (h:SqB X.K b H a xs):∃its:List Value,Vals xs its∧xs.length≤sizeLine∧a < s.heap.objs.size∧(∀it i,itB b s.heap it a i→Hf b it a its.toArray i s.heap)∧(b=true→s.heap.IsTuple a its.toArray)∧(b=false→s.heap.IsList a its.toArray):=by
 cases b
 ·obtain ⟨its,r,p,z⟩:=I.list h;refine ⟨its,r,z,?_,λit i q=>⟨q,p.isList⟩,(λe=>nomatch e),λ_=>p.isList⟩;obtain ⟨o,e,_⟩:=p.isList;exact Heap.lt_size e
 ·obtain ⟨its,r,p,z⟩:=I.tuple h;refine ⟨its,r,z,?_,λit i q=>⟨q,p⟩,(λ_=>p),(λe=>nomatch e)⟩;obtain ⟨o,e,_⟩:=p;exact Heap.lt_size e
theorem Inv.Cq (I:Inv X pins σ H s) {b:Bool} {a:Addr} {xs ys:List V} (h:SqB X.K b H a xs) (h':SqB X.K b H a ys):xs=ys:=by
 cases b
 ·exact I.ng h h'
 ·exact I.vp h h'
end
noncomputable def Itz (K:PySem.W.Frag) (c1 c2:Bool) (l1 l2:Addr):It:=
  ⟨λi H=>∃xs ys x y,SqB K c1 H l1 xs∧SqB K c2 H l2 ys∧xs[i]?=some x∧ys[i]?=some y,
   λi H x H'=>∃p u v,(∀xs,SqB K c1 H l1 xs→xs[i]?=some u)∧(∀ys,SqB K c2 H l2 ys→ys[i]?=some v)∧H p=none∧x=.ref p∧H'=upd H p (.tup [u,v]),
   λi H=>∃xs ys,SqB K c1 H l1 xs∧SqB K c2 H l2 ys∧xs.length≤i⟩
theorem go_zip {P:Program} {w:World} {A:Around} {E:Value→Shared→Prop} {s:Shared} {tg:Expr} {z TI TO T:Addr} {f0:Value} {b:Bool} {Q:Unit→Shared→Prop} (ht:(∃x pos,tg=.Name x pos)∨∃es k pos,tg=.Tuple es k pos) (hz:IsZ s.heap z TI TO f0 (.bool b)) (hf:f0=.none∨∃T:Addr,f0=rawInt T)
  (q:∀h' f1,IsZ h' z TI TO f1 (.bool b)→(f1=.none∨∃T:Addr,f1=rawInt T)→Heap.SameBut z s.heap h'→Q () { s with heap:=h' }):wpAny (model P w) A (letOwnedTupleGo tg (.ref z) (.ref T)) Q E s:=by
 rcases ht with ⟨x,pos,rfl⟩ | ⟨es,k,pos,rfl⟩
 ·exact wpAny_pure (q s.heap f0 hz hf (Heap.SameBut.refl _ _))
 ·unfold letOwnedTupleGo;refine wpAny_bind (wpAny_load hz ?_);show wpAny _ _ (if (["enumerate","zip","dict_itemiterator","dict_reverseitemiterator","odict_iterator","itertools.zip_longest","itertools.pairwise"].contains "zip"&&(#[f0,.bool b,.bool false,.ref TI,.ref TO]:Array Value)[0]?==some (rawInt T))=true then _ else _) Q E s
  refine wpAny_ite_split (λ_=>wpAny_bind (wpAny_rule ?_)) λ_=>wpAny_pure (q s.heap f0 hz hf (Heap.SameBut.refl _ _));show wpAny _ _ (setField (.ref z) 0 .none) Q E s
  exact wpAny_setField_rec hz (by simp) λh' hz' hs'=>q h' .none hz' (.inl rfl) hs'
theorem Jp {P:Program} {w:World} {K:PySem.W.Frag} {tg:Expr} {c1 c2:Bool} (z TI TO i1 i2 l1 l2:Addr) (D:ZipApart z TI TO i1 i2 l1 l2) (ht:(∃x pos,tg=.Name x pos)∨∃es k pos,tg=.Tuple es k pos):
  Turn P w K tg (Itz K c1 c2 l1 l2) [z,TI,TO,i1,i2] z (λi h=>zpN z TI TO i1 i2 h∧itB c1 h i1 l1 i∧itB c2 h i2 l2 i) where
 mem:=by simp
 obj:=λi h st b hb=>by
  obtain ⟨⟨⟨f0,b0,a1,_⟩,⟨p,q,a2⟩,a3⟩,a4,a5⟩:=st;simp only[ab0,aas,or_false] at hb;rcases hb with rfl | rfl | rfl | rfl | rfl
  ·exact ⟨_,a1,λv z=>by cases z⟩
  ·exact ⟨_,a3,λv z=>by cases z⟩
  ·exact ⟨_,a2,λv z=>by cases z⟩
  ·exact a4.obj
  ·exact a5.obj
 keep:=λi h h' st k=>by
  obtain ⟨⟨⟨f0,b0,a1,a0⟩,⟨p,q,a2⟩,a3⟩,a4,a5⟩:=st;exact ⟨⟨⟨f0,b0,k z (by simp) _ a1,a0⟩,⟨p,q,k TO (by simp) _ a2⟩,k TI (by simp) _ a3⟩,a4.keep (k i1 (by simp)),a5.keep (k i2 (by simp))⟩
 item:=by
  intro X hP hw hK hc i pins s σ H E I hf st hg;subst hP hw hK;obtain ⟨xs,ys,x,y,hq1,hq2,hx,hy⟩:=hg;obtain ⟨⟨a1,a2,a3⟩,a4,a5⟩:=st;obtain ⟨its1,rv1,_,_,f1,_,_⟩:=I.sqB hq1;obtain ⟨its2,rv2,_,_,f2,_,_⟩:=I.sqB hq2;obtain ⟨u,hu,ru⟩:=rv1.get hx;obtain ⟨v,hv,rv⟩:=rv2.get hy;have fpl:∀b∈[z,TI,TO,i1,i2],b < s.heap.objs.size:=λb hb=>by
   obtain ⟨f0,b0,e1,_⟩:=a1;obtain ⟨p,q,e2⟩:=a2;obtain ⟨_,e4,_⟩:=a4.obj;obtain ⟨_,e5,_⟩:=a5.obj;simp only[ab0,aas,or_false] at hb;rcases hb with rfl | rfl | rfl | rfl | rfl
   ·exact Heap.lt_size e1
   ·exact Heap.lt_size a3
   ·exact Heap.lt_size e2
   ·exact Heap.lt_size e4
   ·exact Heap.lt_size e5
  refine pyItem (c1:=c1) (c2:=c2) (xs:=its1.toArray) (ys:=its2.toArray) (i:=i) (x:=u) (y:=v) D ⟨a1,a2,a3,f1 _ _ a4,f2 _ _ a5⟩ (by simpa using hu) (by simpa using hv) λh1 zs1 hT hz1 hk1=>⟨_,rfl,?_⟩;obtain ⟨⟨f0,b0,e0,g0⟩,⟨p,q,e2⟩,e3,e4,e5⟩:=zs1;refine go_zip ht e0 g0 λh2 f3 e0' g0' sb=>?_;have sb:Heap.SameBut z h1 h2:=sb;have hfr:H s.heap.objs.size=none:=I.hok.fresh (aa4 _);have I1:Inv X pins σ (upd H s.heap.objs.size (.tup [x,y])) { s with heap:=s.heap.push { cls:=.type "tuple",data:=.seq #[u,v] },toks:=s.toks }:=
   I.laid (λb o' e'=>Heap.get?_push_of_some _ e') (aa4 _) (show br X.prog X.w _ _ _ (.tup [x,y]) from ⟨by show (2:Nat)≤sizeLine;decide,[u,v],.cons ru (.cons rv .nil),⟨_,Heap.get?_push_size _ rfl,rfl,_,rfl,rfl⟩⟩)
  have nup:∀b,b < s.heap.objs.size→(upd H s.heap.objs.size (.tup [x,y])) b=H b:=λb hb=>af (aap hb);have zl:=fpl z (by simp);have I2:=Inv.pb (h':=h2) (t':=s.toks) (fp:=[z,TI,TO,i1,i2]) I1 (λb o' hb e'=>by
   simp only[ab0,aas,or_false,not_or] at hb;have e':(s.heap.push { cls:=.type "tuple",data:=.seq #[u,v] }).get? b=some o':=e';by_cases hbs:b=s.heap.objs.size
   ·subst hbs;rw[Heap.get?_push_size _ rfl] at e';cases e'
    exact (sb.2 _ hb.1).trans hT
   ·rw[Heap.get?_push_ne _ _ _ hbs] at e';exact (sb.2 _ hb.1).trans (hk1 b o' hb.1 hb.2.2.1 hb.2.2.2.1 hb.2.2.2.2 e')) λb hb=>by
   obtain ⟨f0,f⟩:=hf b hb;exact ⟨by rw[nup b (fpl b hb)];exact f0,f⟩
  exact ⟨.ref s.heap.objs.size,_,I2,rfl,⟨_,x,y,λzs hz=>by rw[I.Cq hz hq1];exact hx,λzs hz=>by rw[I.Cq hz hq2];exact hy,hfr,rfl,rfl⟩,⟨⟨⟨f3,b0,e0',g0'⟩,⟨p,q,sb.extBut _ _ D.TOz e2⟩,sb.extBut _ _ D.TIz e3⟩,(vx e4).keep λo e=>sb.extBut _ _ D.i1z e,(vx e5).keep λo e=>sb.extBut _ _ D.i2z e⟩,λb hb=>by rw[nup b (fpl b hb)];exact (hf b hb).1⟩
 done:=by
  intro X hP hw hK hc i pins s σ H E I hf st hg;subst hP hw hK;obtain ⟨xs,ys,hq1,hq2,hx⟩:=hg;obtain ⟨⟨a1,a2,a3⟩,a4,a5⟩:=st;obtain ⟨its1,rv1,_,_,f1,_,_⟩:=I.sqB hq1;obtain ⟨its2,rv2,_,_,f2,_,_⟩:=I.sqB hq2;have hl:=rv1.length;refine pyFin (c1:=c1) (c2:=c2) (xs:=its1.toArray) (ys:=its2.toArray) (i:=i) (I.ok.hd hc) D ⟨a1,a2,a3,f1 _ _ a4,f2 _ _ a5⟩ (by simp;omega) λh' hk=>⟨rfl,Inv.pb (t':=s.toks) (fp:=[z,TI,TO,i1,i2]) I (λb o hb e=>?_) hf⟩;simp only[ab0,aas,or_false,not_or] at hb;exact hk b o hb.1 hb.2.2.1 hb.2.2.2.1 hb.2.2.2.2 e
 self:=λ_ _ _ _ _ st h=>by
  obtain ⟨⟨⟨f0,b0,a1,_⟩,_⟩,_⟩:=st;refine wpAny_pyIter_slot ⟨_,a1,rfl⟩ F.slot_zip_iter (wpAny_call_entry F.slot_zip_iter ⟨_,a1,rfl⟩ F.entry_zip_iter ?_ (F.args_zip_iter_1 _));exact wpAny_pure ⟨_,rfl,"zip",_,⟨_,a1,rfl⟩,F.slot_zip_next.lookup,h⟩
def iZip (K:PySem.W.Frag) (c:Bool) (ta:TA):TI:=λσ H R=>ta σ H λvs H1=>∃l1 l2 xs ys,vs=[.ref l1,.ref l2]∧SqB K c H1 l1 xs∧SqL K H1 l2 ys∧R (Itz K c false l1 l2) H1
section
variable {X:Cx}
theorem Am {pins:List (Addr×Obj)} {σ:St} {H:Hp} {s:Shared} {c:Bool} {l1 l2:Addr} {xs ys:List V} {A:Around} {E:Value→Shared→Prop} {Q:Value→Shared→Prop} (I:Inv X pins σ H s) (h1:SqB X.K c H l1 xs) (h2:SqL X.K H l2 ys)
  (q:∀(u v:List Value) (h':Heap),Vals xs u→Vals ys v→Zst c false (s.heap.objs.size+4) (s.heap.objs.size+2) (s.heap.objs.size+3) s.heap.objs.size (s.heap.objs.size+1) l1 l2 u.toArray v.toArray 0 h'→h'.objs.size=s.heap.objs.size+5→(∀c o,s.heap.get? c=some o→h'.get? c=some o)→l1 < s.heap.objs.size→l2 < s.heap.objs.size→Q (.ref (s.heap.objs.size+4)) { s with heap:=h' }):
  wpAny (model X.prog X.w) A (call (.type "zip") [.ref l1,.ref l2]) Q E s:=by
 obtain ⟨u,ru,_,lt1,_,t1,g1⟩:=I.sqB h1;obtain ⟨v,rv,_,lt2,_,t2,g2⟩:=I.sqB (b:=false) h2;cases c with
 | true=>exact Lm (t1 rfl) (g2 rfl) λh' a b d=>q u v h' ru rv a b d lt1 lt2
 | false=>exact Kw (g1 rfl) (g2 rfl) λh' a b d=>q u v h' ru rv a b d lt1 lt2
theorem pi_zip {c:Bool} {a b:Expr} {ta:TA} {p pos:Pos} {tg:Expr} (hg:Gl X "zip") (hm:X.mg "zip"=none) (ht:(∃x pos,tg=.Name x pos)∨∃es k pos,tg=.Tuple es k pos) (ha:PA X [a,b] ta) (hs:starEach [a,b] X.env=(false,eval a X.env)::starEach [b] X.env:=by rfl) (hpl:(backTo pos (starEach [b] X.env)).any (·.1)=false:=by rfl):PI X tg (.Call (.Name "zip" p) [a,b] [] pos) (iZip X.K c ta):=by
 intro pins s σ H R I h;refine Call_ (il I hg hm b_zip0 (PyProof.Rows.callWith_type1 (thn (ha pos pins s σ H _ I h) λus s1 ⟨vs,H1,I1,r1,q1⟩=>?_) hs hpl));obtain ⟨l1,l2,xs,ys,rfl,e1,e2,q⟩:=q1;obtain ⟨u1,u2,rfl,ru1,ru2⟩:=vals2 r1;cases ru1
 cases ru2
 refine Am I1 e1 e2 λu v h' ru rv zs hz keep lt1 lt2=>?_;refine pySelf zs ?_;obtain ⟨a1,a2,a3,a4,a5⟩:=zs;refine ⟨s1.heap.objs.size+4,[s1.heap.objs.size+4,s1.heap.objs.size+2,s1.heap.objs.size+3,s1.heap.objs.size,s1.heap.objs.size+1],_,_,H1,rfl,I1.kept (t':=s1.toks) keep,Jp _ _ _ _ _ l1 l2 (zipApart_new lt1 lt2) ht,⟨⟨a1,a2,a3⟩,vx a4,vx a5⟩,λb hb=>?_,q⟩;simp only[ab0,aas,or_false] at hb;rcases hb with rfl | rfl | rfl | rfl | rfl
 ·exact I1.kg (abh _ _) (I1.hok.fresh (abh _ _))
 ·exact I1.kg (abh _ _) (I1.hok.fresh (abh _ _))
 ·exact I1.kg (abh _ _) (I1.hok.fresh (abh _ _))
 ·exact I1.kg (aa4 _) (I1.hok.fresh (aa4 _))
 ·exact I1.kg (abh _ _) (I1.hok.fresh (abh _ _))
end
end L2
namespace L2
open PySem PySem.Spec PyProof.Rows
section
variable {X:Cx} {pos:Pos} {tg:Expr}
theorem ur (n:Nat):Builtin.Range.rangeSize ((n:Int) - 1) (-1) (-1)=n:=by
 unfold Builtin.Range.rangeSize;cases n with
 | zero=>decide
 | succ n=>
  simp;omega
theorem Gp {n:Nat} (h:n < 2 ^ 62):Builtin.Range.small ((n:Int) - 1) (-1) (-1)=true:=by
 unfold Builtin.Range.small;rw[ur];have e1:Builtin.Range.rangeFitsLong ((n:Int) - 1)=true:=by
  unfold Builtin.Range.rangeFitsLong;rw[decide_eq_true (show -(2:Int) ^ 63≤(n:Int) - 1 by omega),decide_eq_true (show (n:Int) - 1 < (2:Int) ^ 63 by omega)];rfl
 have e2:Builtin.Range.rangeFitsLong (n:Int)=true:=by
  unfold Builtin.Range.rangeFitsLong;rw[decide_eq_true (show -(2:Int) ^ 63≤(n:Int) by omega),decide_eq_true (show (n:Int) < (2:Int) ^ 63 by omega)];rfl
 rw[e1,e2,show Builtin.Range.rangeFitsLong (-1)=true by decide,if_neg (by decide),show Builtin.Range.rangeFitsLong (-1+(-1+1))=true by decide];simp
def iDn (ta:TA):TI:=λσ H R=>ta σ H λvs H1=>∃n:Nat,vs=[.int ((n:Int) - 1),.int (-1),.int (-1)]∧n < 2 ^ 62∧R (Itd n) H1
theorem E7 {a b c:Expr} {ta:TA} {p pos:Pos} (hg:Gl X "range") (hm:X.mg "range"=none) (ha:PA X [a,b,c] ta) (hs:starEach [a,b,c] X.env=(false,eval a X.env)::starEach [b,c] X.env:=by rfl) (hpl:(backTo pos (starEach [b,c] X.env)).any (·.1)=false:=by rfl):
  PI X tg (.Call (.Name "range" p) [a,b,c] [] pos) (iDn ta):=by
 intro pins s σ H R I h;refine Call_ (il I hg hm boot_range (PyProof.Rows.callWith_type1 (thn (ha pos pins s σ H _ I h) λus s1 ⟨vs,H1,I1,r1,q1⟩=>?_) hs hpl));obtain ⟨n,rfl,hn,q⟩:=q1;cases r1 with
 | cons r rr=>
  cases rr with
  | cons r' rr=>
   cases rr with
   | cons r'' rr=>
    cases rr
    obtain ⟨t,rfl⟩:=r;obtain ⟨t',rfl⟩:=r';obtain ⟨t'',rfl⟩:=r'';refine call_range_3 (by decide) ?_ (.inl (PyProof.noPylong_small (by omega)));refine wpAny_pyIter_range (IsRange.new ..) (Gp hn) ?_;rw[ur];have I2:Inv X pins σ H1 { s1 with heap:=s1.heap.push { cls:=.type "range",data:=.fields #[.int ((n:Int) - 1) t,.int (-1) t',.int (-1) t''] },toks:=s1.toks }:=I1.kept λb o e=>Heap.get?_push_of_some _ e;refine ⟨(s1.heap.push { cls:=.type "range",data:=.fields #[.int ((n:Int) - 1) t,.int (-1) t',.int (-1) t''] }).objs.size,[(s1.heap.push { cls:=.type "range",data:=.fields #[.int ((n:Int) - 1) t,.int (-1) t',.int (-1) t''] }).objs.size],_,_,H1,rfl,I2.kept (t':=s1.toks) λb o e=>Heap.get?_push_of_some _ e,Fj _ n,?_,λb hb=>?_,q⟩
    ·have e1:(n:Int) - 1+((0:Nat):Int)*(-1)=(n:Int) - 1:=by omega
     have e2:(n:Int) - ((0:Nat):Int)=(n:Int):=by omega
     show IsRangeIter _ _ ((n:Int) - 1+((0:Nat):Int)*(-1)) ((n:Int) - ((0:Nat):Int)) (-1)
     rw[e1,e2];exact Heap.get?_push_size _ rfl
    ·have e:b=(s1.heap.push { cls:=.type "range",data:=.fields #[.int ((n:Int) - 1) t,.int (-1) t',.int (-1) t''] }).objs.size:=by simpa using hb
     subst e;exact I2.kg (aa4 _) (I2.hok.fresh (aa4 _))
end
theorem L5 {n:Nat} {g:TG} {tb:TS} {D:Ends} {σ:St} {H:Hp} (Pv:Nat→St→Hp→Prop) (h0:Pv n σ H)
  (hs:∀i σ H,i < n→Pv (i+1) σ H→g (.int (i:Int)) σ H λσ2 H2=>tb { D with nx:=Pv i,ct:=Pv i,bk:=D.nx } σ2 H2) (hd:∀σ H,Pv 0 σ H→D.nx σ H):vy g tb D (Itd n) σ H:=by
 refine ⟨λi m σ H=>m=n - i∧i≤n∧Pv (n - i) σ H,⟨n,by simp,aac _,by simpa using h0⟩,?_⟩;rintro i m σ H ⟨rfl,hi,p⟩;by_cases hlt:i < n
 ·refine .inr ⟨hlt,Pv (n - (i+1)),λσ' H' p'=>⟨n - (i+1),by omega,rfl,hlt,p'⟩,λx H' y=>?_⟩;obtain ⟨rfl,rfl⟩:=y;have e:(n:Int) - 1 - (i:Int)=((n - (i+1):Nat):Int):=by omega
  rw[e];exact hs (n - (i+1)) σ _ (by omega) (by rw[show n - (i+1)+1=n - i by omega];exact p)
 ·have e:i=n:=by omega
  subst e;exact .inl ⟨aa4 _,hd σ H (by simpa using p)⟩
namespace Zd
end Zd
namespace Zd
end Zd
end L2
namespace Sn
open PySem PySem.Spec L2 PyProof.Rows Pc Fm
abbrev FN:=Form×Nat
abbrev Phi:=Str→Option FN
def SS:Str→Prop:=λ_=>True
noncomputable def put (φ:Phi) (z:Str) (x:FN):Phi:=λy=>if y=z then some x else φ y
noncomputable def src (φ:Phi):V→Option FN
 | .int n=>if n.natAbs < 2 ^ 200 then some (bz (.int n),1) else none
 | .str z=>φ z
 | _=>none
noncomputable def r8 (φ:Phi):List V→Option (Str×FN)
 | [.str op,.str b,s]=>if arS op=0 then (src φ s).map λx=>(b,x) else if arS op=1 then (src φ s).bind λx=>if x.2+1≤12 then some (b,(opF op x.1 [],x.2+1)) else none else none
 | [.str op,.str b,s,t]=>if arS op=2 then (src φ s).bind λx=>(src φ t).bind λy=>if x.2+y.2+1≤12 then some (b,(opF op x.1 y.1,x.2+y.2+1)) else none else none
 | _=>none
noncomputable def cn (φ:Phi):List (List V)→Option Phi
 | []=>some φ
 | t::ts=>(r8 φ t).bind λp=>cn (put φ p.1 p.2) ts
theorem g5 (t:List V):∀(ts:List (List V)) (φ:Phi),cn φ (ts++[t])=(cn φ ts).bind λψ=>(r8 ψ t).bind λp=>some (put ψ p.1 p.2)
 | [],φ=>by
  show ((r8 φ t).bind λp=>some (put φ p.1 p.2))=_
  rfl
 | u::ts,φ=>by
  show ((r8 φ u).bind λp=>cn (put φ p.1 p.2) (ts++[t]))=((r8 φ u).bind λp=>cn (put φ p.1 p.2) ts).bind _
  cases r8 φ u with
  | none=>rfl
  | some p=>exact g5 t ts _
noncomputable def oh (zs:List Str):Phi:=λz=>if z∈zs then some (bz (.str z),1) else none
structure POk (φ:Phi):Prop where
 ok:∀z x,φ z=some x→FOk SS x.2 x.1∧1≤x.2∧x.2≤12
theorem POk.zero {zs:List Str} (h:∀z∈zs,arS z=0):POk (oh zs):=⟨λz x hx=>by
 unfold oh at hx;split at hx
 ·cases hx
  exact ⟨FOk.leaf (v:=.str z) (.inr trivial) (h z (by assumption)),aa4 _,by show 1≤12;decide⟩
 ·cases hx⟩
theorem j9 {φ:Phi} (h:POk φ) {v:V} {x:FN} (hx:src φ v=some x):FOk SS x.2 x.1∧1≤x.2∧x.2≤12:=by
 cases v with
 | int n=>
  have hx:(if n.natAbs < 2 ^ 200 then some (bz (.int n),1) else none)=some x:=hx;split at hx
  ·cases hx
   exact ⟨FOk.leaf (v:=.int n) (by assumption) rfl,aa4 _,by show 1≤12;decide⟩
  ·cases hx
 | str z=>exact h.ok z x hx
 | _=>cases hx
inductive oy (φ:Phi):List V→Str→FN→Prop
 | one (op b:Str) (s:V) (x:FN) (h0:arS op=0) (hs:src φ s=some x):oy φ [.str op,.str b,s] b x
 | neg (op b:Str) (s:V) (x:FN) (h1:arS op=1) (hs:src φ s=some x) (hb:x.2+1≤12):oy φ [.str op,.str b,s] b (opF op x.1 [],x.2+1)
 | two (op b:Str) (s t:V) (x y:FN) (h2:arS op=2) (hs:src φ s=some x) (ht:src φ t=some y) (hb:x.2+y.2+1≤12):oy φ [.str op,.str b,s,t] b (opF op x.1 y.1,x.2+y.2+1)
theorem Ed {φ:Phi} {t:List V} {b:Str} {x:FN} (h:r8 φ t=some (b,x)):oy φ t b x:=by
 unfold r8 at h;split at h
 ·rename_i op b' s
  split at h
  ·obtain ⟨y,h1,h2⟩:=Option.map_eq_some_iff.mp h;cases h2
   exact .one op b s x (by assumption) h1
  ·split at h
   ·obtain ⟨y,h1,h2⟩:=Option.bind_eq_some_iff.mp h;split at h2
    ·cases h2
     exact .neg op b s y (by assumption) h1 (by assumption)
    ·cases h2
   ·cases h
 ·rename_i op b' s t
  split at h
  ·obtain ⟨y,h1,h2⟩:=Option.bind_eq_some_iff.mp h;obtain ⟨w,h3,h4⟩:=Option.bind_eq_some_iff.mp h2;split at h4
   ·cases h4
    exact .two op b s t y w (by assumption) h1 h3 (by assumption)
   ·cases h4
  ·cases h
 ·cases h
theorem xf {φ:Phi} {t:List V} {b:Str} {x:FN} (h:oy φ t b x):r8 φ t=some (b,x):=by
 cases h with
 | one op _ s x h0 hs=>show (if arS op=0 then _ else _)=_;rw[if_pos h0,hs];rfl
 | neg op _ s x h1 hs hb=>show (if arS op=0 then _ else if arS op=1 then _ else _)=_;rw[if_neg (by omega),if_pos h1,hs];show (if x.2+1≤12 then _ else _)=_;rw[if_pos hb]
 | two op _ s t x y h2 hs ht hb=>show (if arS op=2 then _ else _)=_;rw[if_pos h2,hs,ht];show (if x.2+y.2+1≤12 then _ else _)=_;rw[if_pos hb]
theorem oy.ok {φ:Phi} (h:POk φ) {t:List V} {b:Str} {x:FN} (d:oy φ t b x):FOk SS x.2 x.1∧1≤x.2∧x.2≤12:=by
 cases d with
 | one op _ s x h0 hs=>exact j9 h hs
 | neg op _ s x h1 hs hb=>
  obtain ⟨f,n1,_⟩:=j9 h hs;exact ⟨FOk.one h1 n1 hb f,by show 1≤x.2+1;omega,hb⟩
 | two op _ s t x y h2 hs ht hb=>
  obtain ⟨f,n1,_⟩:=j9 h hs;obtain ⟨g,m1,_⟩:=j9 h ht;exact ⟨FOk.two h2 n1 m1 hb f g,by show 1≤x.2+y.2+1;omega,hb⟩
theorem POk.put {φ:Phi} (h:POk φ) {z:Str} {x:FN} (hx:FOk SS x.2 x.1∧1≤x.2∧x.2≤12):POk (put φ z x):=⟨λy w hw=>by
 unfold Sn.put at hw;split at hw
 ·cases hw;exact hx
 ·exact h.ok y w hw⟩
theorem jb_two {f g:Form} {n m:Nat} (hf:FOk SS n f) (hg:FOk SS m g) (hn:1≤n) (hm:1≤m) (h:n+m+1≤12):JB [f,g]:=m5.jb (st:=[f,g]) (.cons hf hn (.cons hg hm .nil)) (by omega) 2
theorem jb_one {f:Form} {n:Nat} (hf:FOk SS n f) (hn:1≤n) (h:n+1≤12):JB [f]:=m5.jb (st:=[f]) (.cons hf hn .nil) (by omega) 1
noncomputable def rj:V→List FN→List FN
 | .str z,st=>if 0 < arS z then (opF z (st.getD 0 ([],0)).1 (if arS z=1 then [] else (st.getD 1 ([],0)).1),(st.getD 0 ([],0)).2+(if arS z=1 then 0 else (st.getD 1 ([],0)).2)+1)::st.drop (arS z) else (bz (.str z),1)::st
 | v,st=>(bz v,1)::st
noncomputable def d9 (ws:List V):List FN:=ws.foldr rj []
theorem je (w:V) (r:List V):d9 (w::r)=rj w (d9 r):=rfl
theorem g8 {w:V} (h:arV w=0) (st:List FN):rj w st=(bz w,1)::st:=by
 cases w with
 | str z=>exact if_neg (by have:arS z=0:=h;omega)
 | _=>rfl
theorem nu {z:Str} (h:arS z=1) (x:FN) (st:List FN):rj (.str z) (x::st)=(opF z x.1 [],x.2+1)::st:=by
 show (if 0 < arS z then _ else _)=_
 rw[if_pos (by omega),if_pos h,if_pos h,h];rfl
theorem n0 {z:Str} (h:arS z=2) (x y:FN) (st:List FN):rj (.str z) (x::y::st)=(opF z x.1 y.1,x.2+y.2+1)::st:=by
 show (if 0 < arS z then _ else _)=_
 rw[if_pos (by omega),if_neg (by omega),if_neg (by omega),h];rfl
theorem jm:∀(ws:List V) (l:Nat),pend l (ws.map arV)=some 0→(∀v∈ws,isW v)→(d9 ws).length=l∧((d9 ws).map (·.2)).sum=ws.length∧(d9 ws).map (·.1)=oz ws
 | [],l,h,_=>by
  have h:some l=some 0:=h;cases h
  exact ⟨rfl,rfl,rfl⟩
 | w::r,0,h,_=>by cases h
 | w::r,l+1,h,hw=>by
  have h':pend (l+arV w) (r.map arV)=some 0:=h;obtain ⟨i1,i2,i3⟩:=jm r _ h' λv hv=>hw v (aa7 _ hv);rw[je,gc,←i3];rcases ac2 (arV w) with e | e
  ·rw[g8 e,fe e,aaa,aaj,aaj,ab6,aaa,i1,i2,e];exact ⟨rfl,by show 1+r.length=r.length+1;omega,rfl⟩
  ·obtain ⟨z,rfl,hz⟩:=lz e;have i1:(d9 r).length=l+arS z:=i1;have a2:=fu (z:=z);generalize d9 r=st at i1 i2 i3 ⊢;rw[mj hz];rcases abx 1 (arS z) with q | q
   ·have e2:arS z=2:=by omega
    match st,i1,i2 with
    | [],i1,_=>simp at i1;omega
    | [x],i1,_=>simp at i1;omega
    | x::y::st,i1,i2=>
     rw[n0 e2,e2];rw[e2,aaa,aaa] at i1;rw[aaj,aaj,ab6,ab6] at i2;refine ⟨by rw[aaa];omega,by rw[aaj,ab6,aaa];show x.2+y.2+1+_=_;omega,rfl⟩
   ·have e1:arS z=1:=by omega
    match st,i1,i2 with
    | [],i1,_=>simp at i1;omega
    | x::st,i1,i2=>
     rw[nu e1,e1];rw[e1,aaa] at i1;rw[aaj,ab6] at i2;refine ⟨by rw[aaa];omega,by rw[aaj,ab6,aaa];show x.2+1+_=_;omega,?_⟩;show opF z x.1 []::st.map (·.1)=opF z x.1 _::st.map (·.1)
     rw[Cp e1 x.1 [] _]
noncomputable def hd (z:Str):Option Nat:=z.cps.toList.head?
noncomputable def B4:List Str:=["out","t3","t2","t1"]
theorem Km:∀z∈B4,hd z≠some 104∧hd z≠some 110∧hd z≠some 118:=by decide+kernel
theorem By {z:Str} (h:hd z=some 104∨hd z=some 110∨hd z=some 118):z∉B4:=λm=>by
 obtain ⟨a,b,c⟩:=Km z m;rcases h with h | h | h
 ·exact a h
 ·exact b h
 ·exact c h
def gh (lv:List Str) (w:V):Prop:=(∃n:Int,w=.int n∧n.natAbs < 2 ^ 200)∨∃z,w=.str z∧(0 < arS z∨(arS z=0∧z∈lv∧(hd z=some 104∨hd z=some 110∨hd z=some 118)))
theorem gh.isW {lv:List Str} {w:V} (h:gh lv w):isW w:=by
 rcases h with ⟨n,rfl,_⟩ | ⟨z,rfl,_⟩
 ·exact isW.int n
 ·exact isW.str z
noncomputable def kx (w:V) (b:Str) (so:List Str):List V:=match w with
 | .str z=>if 0 < arS z then w::.str b::so.map V.str else if hd z=some 118 then [.str "load",.str b,w] else [.str "put",.str b,w]
 | _=>[.str "put",.str b,w]
structure DI (lv:List Str) (ls:List V) (k:Nat) (boxes hs:List Str) (ts:List (List V)):Prop where
 ex:∃φ,cn (oh lv) ts=some φ∧POk φ∧(∀z,z∉B4→φ z=oh lv z)∧hs.length=(d9 (ls.drop k)).length∧∀(i:Nat) (z:Str) (x:FN),hs[i]?=some z→(d9 (ls.drop k))[i]?=some x→φ z=some x
 hk:∀z∈hs,z∈B4∨(z∈lv∧hd z=some 104)
 bx:∀z∈boxes,z∈B4
 nd:boxes.Nodup
 hn:(hs.filter λz=>decide (z∈B4)).Nodup
 dj:∀z∈boxes,z∉hs
 al:∀z∈B4,z∈boxes∨z∈hs
theorem DI.nil {lv:List Str} {ls:List V} (h:∀z∈lv,arS z=0):DI lv ls ls.length B4 [] [] where
 ex:=⟨_,rfl,POk.zero h,λ_ _=>rfl,by rw[ac9];rfl,λi z x hz=>by simp at hz⟩
 hk:=λ_ h=>nomatch h
 bx:=λ_ h=>h
 nd:=by decide+kernel
 hn:=abo
 dj:=λ_ _ h=>nomatch h
 al:=λz h=>.inl h
section
variable {lv:List Str} {ls:List V} {k:Nat} {boxes hs:List Str} {ts:List (List V)} {w:V}
theorem p0 (hw:ls[k]?=some w):ls.drop k=w::ls.drop (k+1):=by
 obtain ⟨h,e⟩:=List.getElem?_eq_some_iff.mp hw;rw[aay h,e]
theorem DI.hole (D:DI lv ls (k+1) boxes hs ts) {z:Str} (hw:ls[k]?=some (.str z)) (ha:arS z=0) (hz:z∈lv) (h4:hd z=some 104):DI lv ls k boxes (z::hs) ts:=by
 have nb:z∉B4:=By (.inl h4);have er:d9 (ls.drop k)=(bz (.str z),1)::d9 (ls.drop (k+1)):=by rw[p0 hw,je,g8 (w:=.str z) ha]
 obtain ⟨φ,e1,e2,e3,e4,e5⟩:=D.ex;refine ⟨⟨φ,e1,e2,e3,by rw[er,aaa,aaa,e4],λi y x hy hx=>?_⟩,λy hy=>?_,D.bx,D.nd,?_,λy hy hm=>?_,λy hy=>?_⟩
 ·rw[er] at hx;cases i with
  | zero=>
   cases aa6 hy
   cases aa6 hx
   rw[e3 z nb];exact if_pos hz
  | succ i=>exact e5 i y x hy hx
 ·rcases List.mem_cons.mp hy with rfl | hy
  ·exact .inr ⟨hz,h4⟩
  ·exact D.hk y hy
 ·rw[ab4,if_neg (by rw[decide_eq_false nb];decide)];exact D.hn
 ·rcases List.mem_cons.mp hm with rfl | hm
  ·exact nb (D.bx _ hy)
  ·exact D.dj y hy hm
 ·exact (D.al y hy).imp id (aa7 _)
theorem sum_le {st:List FN} {x:FN} (h:x∈st):x.2≤(st.map (·.2)).sum:=by
 induction st with
 | nil=>cases h
 | cons y st ih=>
  rw[aaj,ab6];rcases List.mem_cons.mp h with rfl | h
  ·omega
  ·have:=ih h;omega
theorem DI.step (D:DI lv ls (k+1) boxes hs ts) (hT:isTerm ls) (hl:ls.length≤12) (hls:∀v∈ls,gh lv v) (hw:ls[k]?=some w) (nh:∀z,w=.str z→arS z=0→hd z≠some 104) {bs:List Str} {b:Str}
  (hb:∀z,z∈bs++[b]↔z∈boxes∨(z∈hs.take (arV w)∧z∈B4)) (hnd:(bs++[b]).Nodup):DI lv ls k bs (b::hs.drop (arV w)) (ts++[kx w b (hs.take (arV w))]):=by
 have hisW:∀v∈ls,isW v:=λv hv=>(hls v hv).isW;have hk:=(List.getElem?_eq_some_iff.mp hw).1;obtain ⟨φ,e1,e2,e3,e4,e5⟩:=D.ex;obtain ⟨m,hm⟩:∃m,pend m ((ls.drop k).map arV)=some 0:=by
  have:=jj (ls.map arV) 1 hT k;rw[←acp] at this;exact this
 rw[p0 hw,aaj] at hm;obtain ⟨m',rfl⟩:∃m',m=m'+1:=by
  cases m with
  | zero=>cases hm
  | succ m'=>exact ⟨m',rfl⟩
 have hm':pend (m'+arV w) ((ls.drop (k+1)).map arV)=some 0:=hm;obtain ⟨r1,r2,_⟩:=jm _ _ hm' λv hv=>hisW v (abd hv);have ld:(ls.drop (k+1)).length≤11:=by rw[aao];omega
 have er:d9 (ls.drop k)=rj w (d9 (ls.drop (k+1))):=by rw[p0 hw,je]
 have b4:b∈B4:=by
  rcases (hb b).mp (aaw _ (List.mem_singleton.mpr rfl)) with h | h
  ·exact D.bx b h
  ·exact h.2
 have bnr:b∉hs.drop (arV w):=λhm=>by
  rcases (hb b).mp (aaw _ (List.mem_singleton.mpr rfl)) with h | h
  ·exact D.dj b h (abd hm)
  ·have hn:=D.hn;rw[←ab3 (arV w) hs,ab2,acn] at hn;exact hn.2.2 b (List.mem_filter.mpr ⟨h.1,decide_eq_true b4⟩) b (List.mem_filter.mpr ⟨hm,decide_eq_true b4⟩) rfl
 obtain ⟨x,hdo,hst⟩:∃x,oy φ (kx w b (hs.take (arV w))) b x∧rj w (d9 (ls.drop (k+1)))=x::(d9 (ls.drop (k+1))).drop (arV w):=by
  rcases hls w (aam hw) with ⟨n,rfl,hn⟩ | ⟨z,rfl,hz | ⟨h0,hzl,hz⟩⟩
  ·exact ⟨(bz (.int n),1),.one "put" b (.int n) _ (by decide+kernel) (if_pos hn),rfl⟩
  ·have a2:=fu (z:=z);have r1:(d9 (ls.drop (k+1))).length=m'+arS z:=r1;have e5':=e5;have ed:kx (.str z) b (hs.take (arV (.str z)))=.str z::.str b::(hs.take (arS z)).map V.str:=if_pos hz;rw[ed];generalize d9 (ls.drop (k+1))=st at r1 r2 e4 e5';have le:∀y∈st,y.2≤(st.map (·.2)).sum:=λy hy=>sum_le hy;rcases abx 1 (arS z) with q | q
   ·have e:arS z=2:=by omega
    match st,hs,r1,e4,e5',r2 with
    | [],_,r1,_,_,_=>simp at r1;omega
    | [x],_,r1,_,_,_=>simp at r1;omega
    | x::y::st,[],_,e4,_,_=>simp at e4
    | x::y::st,[u],_,e4,_,_=>simp at e4
    | x::y::st,u::v::hs,_,_,e5',r2=>
     rw[aaj,aaj,ab6,ab6] at r2;refine ⟨(opF z x.1 y.1,x.2+y.2+1),?_,by rw[n0 e];show _=_::List.drop (arS z) _;rw[e];rfl⟩;rw[e];exact .two z b (.str u) (.str v) x y e (e5' 0 u x rfl rfl) (e5' 1 v y rfl rfl) (by omega)
   ·have e:arS z=1:=by omega
    match st,hs,r1,e4,e5',r2 with
    | [],_,r1,_,_,_=>simp at r1;omega
    | x::st,[],_,e4,_,_=>simp at e4
    | x::st,u::hs,_,_,e5',r2=>
     rw[aaj,ab6] at r2;refine ⟨(opF z x.1 [],x.2+1),?_,by rw[nu e];show _=_::List.drop (arS z) _;rw[e];rfl⟩;rw[e];exact .neg z b (.str u) x e (e5' 0 u x rfl rfl) (by omega)
  ·have sz:src φ (.str z)=some (bz (.str z),1):=by
    show φ z=_
    rw[e3 z (By hz)];exact if_pos hzl
   have e0:arV (.str z)=0:=h0;refine ⟨(bz (.str z),1),?_,by rw[g8 e0,e0];rfl⟩;show oy φ (if 0 < arS z then _ else if hd z=some 118 then _ else _) b _
   rw[if_neg (by omega)];split
   ·exact .one "load" b (.str z) _ (by decide+kernel) sz
   ·exact .one "put" b (.str z) _ (by decide+kernel) sz
 have er2:d9 (ls.drop k)=x::(d9 (ls.drop (k+1))).drop (arV w):=er.trans hst;refine ⟨⟨put φ b x,?_,e2.put (hdo.ok e2),λz hz=>?_,?_,λi z y hz hy=>?_⟩,λz hz=>?_,λz hz=>?_,?_,?_,λz hz hm=>?_,λz hz=>?_⟩
 ·rw[g5,e1];show (r8 φ _).bind _=_
  rw[xf hdo];rfl
 ·show (if z=b then _ else φ z)=_
  rw[if_neg (λ(e:z=b)=>hz (by rw[e];exact b4))];exact e3 z hz
 ·rw[er2,aaa,aaa,aao,aao,e4]
 ·rw[er2] at hy;cases i with
  | zero=>
   cases aa6 hz
   cases aa6 hy
   exact if_pos rfl
  | succ i=>
   rw[adl] at hz hy;have zm:=aam hz;rw[ace] at hz hy;show (if z=b then _ else φ z)=_
   rw[if_neg (λ(e:z=b)=>bnr (by rw[←e];exact zm))];exact e5 _ z y hz hy
 ·rcases List.mem_cons.mp hz with rfl | hz
  ·exact .inl b4
  ·exact D.hk z (abd hz)
 ·rcases (hb z).mp (abw _ hz) with h | h
  ·exact D.bx z h
  ·exact h.2
 ·exact (List.nodup_append.mp hnd).1
 ·rw[ab4,if_pos (decide_eq_true b4),List.nodup_cons];refine ⟨λh=>bnr (List.mem_filter.mp h).1,?_⟩;have hn:=D.hn;rw[←ab3 (arV w) hs,ab2,acn] at hn;exact hn.2.1
 ·rcases List.mem_cons.mp hm with rfl | hm
  ·exact (List.nodup_append.mp hnd).2.2 z hz z (List.mem_singleton.mpr rfl) rfl
  ·rcases (hb z).mp (abw _ hz) with h | h
   ·exact D.dj z h (abd hm)
   ·have hn:=D.hn;rw[←ab3 (arV w) hs,ab2,acn] at hn;exact hn.2.2 z (List.mem_filter.mpr ⟨h.1,decide_eq_true h.2⟩) z (List.mem_filter.mpr ⟨hm,decide_eq_true h.2⟩) rfl
 ·by_cases hr:z∈hs.drop (arV w)
  ·exact .inr (aa7 _ hr)
  ·have:z∈bs++[b]:=(hb z).mpr (by
    rcases D.al z hz with h | h
    ·exact .inl h
    ·rw[←ab3 (arV w) hs] at h;rcases List.mem_append.mp h with h | h
     ·exact .inr ⟨h,hz⟩
     ·exact absurd h hr)
   rcases List.mem_append.mp this with h | h
   ·exact .inl h
   ·exact .inr (by rw[List.mem_singleton.mp h];exact aa8)
theorem Mi {φ:Phi} {n:Int} (h:n.natAbs < 2 ^ 200):src φ (.int n)=some (bz (.int n),1):=if_pos h
theorem zt (φ:Phi) (z:Str) (x:FN):put φ z x z=some x:=if_pos rfl
def Comes (lv:List Str) (ls:List V) (ts:List (List V)):Prop:=∃φ n,cn (oh lv) ts=some φ∧φ "out"=some (i6 ls,n)
theorem DI.last (D:DI lv ls 0 boxes hs ts) (hT:isTerm ls) (hls:∀v∈ls,gh lv v):∃x,hs=[x]∧((x="out"→Comes lv ls ts)∧(x∉B4→Comes lv ls (ts++[[.str "put",.str "t1",.int 0],[.str "add",.str "out",.str x,.str "t1"]]))):=by
 obtain ⟨φ,e1,e2,e3,e4,e5⟩:=D.ex;rw[acg] at e4 e5;obtain ⟨r1,r2,r3⟩:=jm ls 1 hT λv hv=>(hls v hv).isW;rw[jf hT] at r3;match hst:d9 ls,r1 with
 | [y],_=>
  rw[hst] at e4 e5 r3;match hs,e4 with
  | [x],_=>
   have h0:=e5 0 x y rfl rfl;have hy:y.1=i6 ls:=(ab1 r3).1;refine ⟨x,rfl,λe=>⟨φ,y.2,e1,by rw[←e,h0,←hy]⟩,λnb=>?_⟩;have hy2:y.2=1:=by
    have:=e3 x nb;rw[h0] at this;unfold oh at this;split at this
    ·cases this;rfl
    ·cases this
   have k1:oy φ [.str "put",.str "t1",.int 0] "t1" (bz (.int 0),1):=.one "put" "t1" (.int 0) _ (by decide+kernel) (Mi (by decide+kernel));have ne1:x≠"t1":=λe=>nb (by rw[e];decide+kernel);have k2:oy (put φ "t1" (bz (.int 0),1)) [.str "add",.str "out",.str x,.str "t1"] "out" (opF "add" y.1 (bz (.int 0)),y.2+1+1):=.two "add" "out" (.str x) (.str "t1") y (bz (.int 0),1) (by decide+kernel) (by show (if x="t1" then _ else φ x)=_;rw[if_neg ne1];exact h0) (zt _ _ _) (by rw[hy2];decide);refine ⟨put (put φ "t1" (bz (.int 0),1)) "out" (opF "add" y.1 (bz (.int 0)),y.2+1+1),y.2+1+1,?_,?_⟩
   ·rw[show ts++[[V.str "put",.str "t1",.int 0],[.str "add",.str "out",.str x,.str "t1"]]=(ts++[[V.str "put",.str "t1",.int 0]])++[[.str "add",.str "out",.str x,.str "t1"]] by rw[ab5];rfl,g5,g5,e1];simp only[Option.bind_some,xf k1,xf k2]
   ·have z0:bz (.int 0)=[]:=by decide+kernel
    have:opF "add" y.1 (bz (.int 0))=y.1:=by
     rw[z0];show yg y.1 []=y.1
     unfold yg;rw[aaz];exact (Cw Au (rn.self (e2.ok x y h0).1.nf)).symm
    rw[zt,this,hy]
end
noncomputable def Cd:V:=.str (Str.ofString "any")
noncomputable def As:V:=.str (Str.ofString "var")
noncomputable def lN:Str:=Str.ofString "n"
noncomputable def lV:Str:=Str.ofString "v"
noncomputable def lH:Str:=Str.ofString "h"
noncomputable def lO:Str:=Str.ofString ""
noncomputable def ao (kinds:List Str) (v:V):Str:=if v=Cd then lN else if v=As then lV else if inV v (kinds.map V.str)=true then lH else lO
theorem ic (kinds:List Str) (v:V):ao kinds v=lN∨ao kinds v=lV∨ao kinds v=lH∨ao kinds v=lO:=by
 unfold ao;split
 ·exact .inl rfl
 ·split
  ·exact .inr (.inl rfl)
  ·split
   ·exact .inr (.inr (.inl rfl))
   ·exact .inr (.inr (.inr rfl))
noncomputable def gf (l:Str) (n:Nat):Str:=l++uk (.int (n:Int))
noncomputable def labN (l:Str) (n:Nat):Str:=(Str.empty++l)++Str.ofString (toString ((n:Nat):Int))
theorem Ex:∀l∈[lN,lV,lH],∀n < 14,labN l n=gf l n∧arS (gf l n)=0∧gf l n≠lO∧hd (gf l n)=hd l∧(gf l n).length≤3:=by decide+kernel
theorem l_hd:hd lN=some 110∧hd lV=some 118∧hd lH=some 104:=by decide+kernel
theorem l_ne:lN≠lO∧lV≠lO∧lH≠lO:=by decide+kernel
noncomputable def dk (kinds:List Str) (l:Str) (pre:List V):Nat:=(pre.filter λv=>decide (ao kinds v=l)).length
theorem dv (kinds:List Str) (l:Str) (pre:List V) (w:V):dk kinds l (pre++[w])=dk kinds l pre+if ao kinds w=l then 1 else 0:=by
 unfold dk;rw[ab2,aa5];congr 1
 by_cases h:ao kinds w=l
 ·rw[if_pos h,ab4,if_pos (decide_eq_true h)];rfl
 ·rw[if_neg h,ab4,if_neg (by rw[decide_eq_false h];decide)];rfl
theorem ma (kinds:List Str) (l:Str) (pre:List V):dk kinds l pre≤pre.length:=abb _ _
noncomputable def nmW (kinds:List Str) (pre:List V) (w:V):Str:=if ao kinds w=lO then lO else gf (ao kinds w) (dk kinds (ao kinds w) pre+1)
noncomputable def n6 (kinds:List Str):List V→List V→List Str
 | _,[]=>[]
 | pre,w::r=>nmW kinds pre w::n6 kinds (pre++[w]) r
theorem vk (kinds:List Str) (w:V):∀(ws pre:List V),n6 kinds pre (ws++[w])=n6 kinds pre ws++[nmW kinds (pre++ws) w]
 | [],pre=>by rw[aaz];rfl
 | v::ws,pre=>by
  show nmW kinds pre v::n6 kinds (pre++[v]) (ws++[w])=nmW kinds pre v::(n6 kinds (pre++[v]) ws++_)
  rw[vk kinds w ws,ab5];rfl
noncomputable def nms (kinds:List Str) (ws:List V):List Str:=n6 kinds [] ws
theorem yh (kinds:List Str) (ws:List V) (w:V):nms kinds (ws++[w])=nms kinds ws++[nmW kinds ws w]:=vk kinds w ws []
theorem xr (kinds:List Str):∀(ws pre:List V),(n6 kinds pre ws).length=ws.length
 | [],_=>rfl
 | w::r,pre=>by
  show (n6 kinds (pre++[w]) r).length+1=r.length+1
  rw[xr kinds r]
theorem mf (kinds:List Str) (ws:List V):(nms kinds ws).length=ws.length:=xr kinds ws []
theorem Ec (kinds:List Str):∀(ws pre:List V) (i:Nat) (w:V),ws[i]?=some w→(n6 kinds pre ws)[i]?=some (nmW kinds (pre++ws.take i) w)
 | [],_,i,w,h=>by simp at h
 | v::r,pre,0,w,h=>by
  cases aa6 h
  show some (nmW kinds pre v)=some (nmW kinds (pre++[]) v)
  rw[aaz]
 | v::r,pre,i+1,w,h=>by
  have:=Ec kinds r (pre++[v]) i w h;rw[ab5] at this;exact this
theorem Jm {kinds:List Str} {ws:List V} {i:Nat} {w:V} (h:ws[i]?=some w):(nms kinds ws)[i]?=some (nmW kinds (ws.take i) w):=by
 have:=Ec kinds ws [] i w h;exact this
noncomputable def fo (kinds:List Str) (pre:List V) (w:V):V:=if ao kinds w=lO then w else .str (nmW kinds pre w)
noncomputable def e9 (kinds:List Str):List V→List V→List V
 | _,[]=>[]
 | pre,w::r=>fo kinds pre w::e9 kinds (pre++[w]) r
noncomputable def du (kinds:List Str) (ws:List V):List V:=e9 kinds [] ws
theorem qi (kinds:List Str) (w:V):∀(ws pre:List V),e9 kinds pre (ws++[w])=e9 kinds pre ws++[fo kinds (pre++ws) w]
 | [],pre=>by rw[aaz];rfl
 | v::ws,pre=>by
  show fo kinds pre v::e9 kinds (pre++[v]) (ws++[w])=fo kinds pre v::(e9 kinds (pre++[v]) ws++_)
  rw[qi kinds w ws,ab5];rfl
theorem Fb (kinds:List Str) (ws:List V) (w:V):du kinds (ws++[w])=du kinds ws++[fo kinds ws w]:=qi kinds w ws []
theorem vg (kinds:List Str):∀(ws pre:List V),(e9 kinds pre ws).length=ws.length
 | [],_=>rfl
 | w::r,pre=>by
  show (e9 kinds (pre++[w]) r).length+1=r.length+1
  rw[vg kinds r]
theorem kq (kinds:List Str) (ws:List V):(du kinds ws).length=ws.length:=vg kinds ws []
noncomputable def lvs (kinds:List Str) (ws:List V):List Str:=(nms kinds ws).filter λz=>decide (z≠lO)
def ju (kinds:List Str) (w:V):Prop:=(∃n:Int,w=.int n∧n.natAbs < 2 ^ 200)∨∃z,w=.str z∧((0 < arS z∧ao kinds w=lO)∨(arS z=0∧ao kinds w≠lO))
theorem ju.isW {kinds:List Str} {w:V} (h:ju kinds w):isW w:=by
 rcases h with ⟨n,rfl,_⟩ | ⟨z,rfl,_⟩
 ·exact isW.int n
 ·exact isW.str z
theorem Mp (kinds:List Str) (n:Int):ao kinds (.int n)=lO:=by
 unfold ao;rw[if_neg (by intro h;cases h),if_neg (by intro h;cases h),if_neg];intro h;obtain ⟨v,hv,e⟩:=List.any_eq_true.mp h;obtain ⟨z,_,rfl⟩:=List.mem_map.mp hv;cases e
theorem qc {kinds:List Str} {w:V} (hw:ao kinds w≠lO) {n:Nat} (hn:n < 14):labN (ao kinds w) n=gf (ao kinds w) n∧arS (gf (ao kinds w) n)=0∧gf (ao kinds w) n≠lO∧(hd (gf (ao kinds w) n)=some 104∨hd (gf (ao kinds w) n)=some 110∨hd (gf (ao kinds w) n)=some 118)∧(gf (ao kinds w) n).length≤3:=by
 have k:ao kinds w∈[lN,lV,lH]:=by
  rcases ic kinds w with h | h | h | h
  ·rw[h];decide+kernel
  ·rw[h];decide+kernel
  ·rw[h];decide+kernel
  ·exact absurd h hw
 obtain ⟨a,b,c,d,e⟩:=Ex _ k n hn;refine ⟨a,b,c,?_,e⟩;rw[d];rcases ic kinds w with h | h | h | h
 ·rw[h];exact .inr (.inl l_hd.1)
 ·rw[h];exact .inr (.inr l_hd.2.1)
 ·rw[h];exact .inl l_hd.2.2
 ·exact absurd h hw
theorem Cs {kinds:List Str} {pre:List V} {w:V} (hw:ao kinds w≠lO) (hl:pre.length≤12):nmW kinds pre w=gf (ao kinds w) (dk kinds (ao kinds w) pre+1)∧nmW kinds pre w≠lO:=by
 have e:nmW kinds pre w=gf (ao kinds w) (dk kinds (ao kinds w) pre+1):=if_neg hw;have:=ma kinds (ao kinds w) pre;exact ⟨e,by rw[e];exact (qc hw (by omega)).2.2.1⟩
theorem Ft {kinds:List Str} {pre:List V} {w:V} (hl:pre.length≤12):fo kinds pre w=if nmW kinds pre w=lO then w else .str (nmW kinds pre w):=by
 unfold fo;by_cases h:ao kinds w=lO
 ·rw[if_pos h,if_pos (show nmW kinds pre w=lO from if_pos h)]
 ·rw[if_neg h,if_neg (Cs h hl).2]
theorem Ac {kinds:List Str} {lv:List Str}:∀(ws pre:List V),(∀w∈ws,ju kinds w)→pre.length+ws.length≤12→(∀z∈n6 kinds pre ws,z≠lO→z∈lv)→(∀v∈e9 kinds pre ws,gh lv v)∧(e9 kinds pre ws).map arV=ws.map arV
 | [],_,_,_,_=>⟨(λ_ h=>nomatch h),rfl⟩
 | w::r,pre,hw,hl,hz=>by
  rw[aaa] at hl;obtain ⟨i1,i2⟩:=Ac r (pre++[w]) (λv hv=>hw v (aa7 _ hv)) (by rw[aa5,aat];omega) λz hm h=>hz z (aa7 _ hm) h;have key:gh lv (fo kinds pre w)∧arV (fo kinds pre w)=arV w:=by
   unfold fo;rcases hw w aa8 with ⟨n,rfl,hn⟩ | ⟨z,rfl,⟨h1,h2⟩ | ⟨h1,h2⟩⟩
   ·rw[if_pos (Mp kinds n)];exact ⟨.inl ⟨n,rfl,hn⟩,rfl⟩
   ·rw[if_pos h2];exact ⟨.inr ⟨z,rfl,.inl h1⟩,rfl⟩
   ·rw[if_neg h2];obtain ⟨e,ne⟩:=Cs (pre:=pre) h2 (by omega);have:=ma kinds (ao kinds (.str z)) pre;obtain ⟨_,a,_,b,_⟩:=qc h2 (n:=dk kinds (ao kinds (.str z)) pre+1) (by omega);rw[←e] at a b;exact ⟨.inr ⟨_,rfl,.inr ⟨a,hz _ aa8 ne,b⟩⟩,a.trans h1.symm⟩
  refine ⟨λv hv=>?_,?_⟩
  ·rcases List.mem_cons.mp hv with rfl | hv
   ·exact key.1
   ·exact i1 v hv
  ·show arV (fo kinds pre w)::(e9 kinds (pre++[w]) r).map arV=arV w::r.map arV
   rw[key.2,i2]
theorem Ef {kinds:List Str} {ws:List V} (hw:∀w∈ws,ju kinds w) (hl:ws.length≤12):(∀v∈du kinds ws,gh (lvs kinds ws) v)∧(du kinds ws).map arV=ws.map arV:=
 Ac ws [] hw (by rw[ac1];omega) λz hz h=>List.mem_filter.mpr ⟨hz,decide_eq_true h⟩
theorem Ic {kinds:List Str} {ws:List V} (hl:ws.length≤12):∀z∈lvs kinds ws,arS z=0∧z.length≤3:=λz hz=>by
 obtain ⟨h1,h2⟩:=List.mem_filter.mp hz;obtain ⟨i,hi⟩:=List.mem_iff_getElem?.mp h1;have hil:i < ws.length:=by rw[←mf kinds ws];exact (List.getElem?_eq_some_iff.mp hi).1
 rw[Jm (aa2 hil)] at hi;have e:=aa6 hi;have hn:ao kinds ws[i]≠lO:=λh=>of_decide_eq_true h2 (by rw[←e];exact if_pos h);obtain ⟨e1,_⟩:=Cs (pre:=ws.take i) hn (by rw[aad];omega);have:=ma kinds (ao kinds ws[i]) (ws.take i);rw[aad] at this;obtain ⟨_,a,_,_,b⟩:=qc hn (n:=dk kinds (ao kinds ws[i]) (ws.take i)+1) (by omega);rw[←e,e1];exact ⟨a,b⟩
structure Snd (kinds:List Str) (sh:List V) (ts:List (List V)):Prop where
 word:∀w∈sh,ju kinds w
 term:isTerm sh
 len:sh.length≤12
 out:Comes (lvs kinds sh) (du kinds sh) ts
theorem Az (f:Form):ik f f=[]:=by
 refine (h9 Au _).none Au λn=>?_;rw[Ii,mn,Hs];omega
noncomputable def fh (n:Nat):Nat:=[0,1,1,2,2,3,3,4,4,6,6,9,9].getD n 0
theorem Iw:((aak 13).all λn=>(aak 13).all λm=>n==0||m==0||decide (12 < n+m+1)||(decide (fh n+fh m≤fh (n+m+1))&&decide (fh n*fh m≤fh (n+m+1))))=true:=by decide+kernel
theorem L4 (n:Nat) (h1:n < 13) (m:Nat) (h2:m < 13) (h3:1≤n) (h4:1≤m) (h5:n+m+1≤12):fh n+fh m≤fh (n+m+1)∧fh n*fh m≤fh (n+m+1):=by
 have:=List.all_eq_true.mp (List.all_eq_true.mp Iw n (List.mem_range.mpr h1)) m (List.mem_range.mpr h2);simp only[adn,abf,decide_eq_true_eq,beq_iff_eq] at this;omega
theorem Ku:∀n < 12,1≤n→fh n≤fh (n+1):=by decide+kernel
theorem cap_le:∀n < 13,fh n≤9:=by decide+kernel
theorem La {z:Str} (hz:arS z=2) (f g:Form) {n m:Nat} (hn:1≤n) (hm:1≤m) (h:n+m+1≤12) (hf:f.length≤fh n) (hg:g.length≤fh m):(opF z f g).length≤fh (n+m+1):=by
 obtain ⟨c1,c2⟩:=L4 n (by omega) m (by omega) hn hm h;unfold opF;split
 ·refine aal (eh _) ?_;rw[aa5];omega
 ·split
  ·refine aal (eh _) ?_;rw[aa5,mn,aa3];omega
  ·split
   ·refine aal (eh _) ?_;rw[ij jS g f];exact aal (ac8 hf hg) c2
   ·rename_i h1 h2 h3
    rcases cq (z:=z) (by omega) with k | k | k | k
    ·exact absurd k h1
    ·exact absurd k h2
    ·exact absurd k h3
    ·rw[k,qq] at hz;cases hz
theorem M9 {z:Str} (hz:arS z=1) (f g:Form) {n:Nat} (hn:1≤n) (h:n+1≤12) (hf:f.length≤fh n):(opF z f g).length≤fh (n+1):=by
 have c:=Ku n (by omega) hn;have e:opF z f g=ik [] f:=by
  unfold opF;rw[if_neg (λe=>by rw[e] at hz;exact absurd hz (by decide+kernel)),if_neg (λe=>by rw[e] at hz;exact absurd hz (by decide+kernel)),if_neg (λe=>by rw[e] at hz;exact absurd hz (by decide+kernel))]
 rw[e];refine aal (eh _) ?_;rw[acw,mn,aa3];omega
theorem Jh (w:V):(bz w).length≤fh 1:=by
 cases w with
 | str z=>exact aa4 _
 | int n=>exact eh _
 | _=>exact aac _
theorem Aa:∀(ws:List V) (l:Nat),pend l (ws.map arV)=some 0→(∀v∈ws,isW v)→ws.length≤12→∀x∈d9 ws,1≤x.2∧x.1.length≤fh x.2
 | [],_,_,_,_=>λ_ h=>nomatch h
 | w::r,0,h,_,_=>by cases h
 | w::r,l+1,h,hw,hl=>by
  have h':pend (l+arV w) (r.map arV)=some 0:=h;rw[aaa] at hl;have ih:=Aa r _ h' (λv hv=>hw v (aa7 _ hv)) (by omega);obtain ⟨i1,i2,_⟩:=jm r _ h' λv hv=>hw v (aa7 _ hv);rw[je];rcases ac2 (arV w) with e | e
  ·rw[g8 e];intro x hx;rcases List.mem_cons.mp hx with rfl | hx
   ·exact ⟨aa4 _,Jh w⟩
   ·exact ih x hx
  ·obtain ⟨z,rfl,hz⟩:=lz e;have i1:(d9 r).length=l+arS z:=i1;have a2:=fu (z:=z);generalize d9 r=st at i1 i2 ih ⊢;rcases abx 1 (arS z) with q | q
   ·have e2:arS z=2:=by omega
    match st,i1,i2,ih with
    | [],i1,_,_=>simp at i1;omega
    | [x],i1,_,_=>simp at i1;omega
    | x::y::st,i1,i2,ih=>
     rw[n0 e2];rw[aaj,aaj,ab6,ab6] at i2;have hx:=ih x aa8;have hy:=ih y (aa7 _ aa8);intro u hu;rcases List.mem_cons.mp hu with rfl | hu
     ·exact ⟨by show 1≤x.2+y.2+1;omega,La e2 _ _ hx.1 hy.1 (by omega) hx.2 hy.2⟩
     ·exact ih u (aa7 _ (aa7 _ hu))
   ·have e1:arS z=1:=by omega
    match st,i1,i2,ih with
    | [],i1,_,_=>simp at i1;omega
    | x::st,i1,i2,ih=>
     rw[nu e1];rw[aaj,ab6] at i2;have hx:=ih x aa8;intro u hu;rcases List.mem_cons.mp hu with rfl | hu
     ·exact ⟨by show 1≤x.2+1;omega,M9 e1 _ _ hx.1 (by omega) hx.2⟩
     ·exact ih u (aa7 _ hu)
theorem J5 {ws:List V} (hT:isTerm ws) (hw:∀v∈ws,isW v) (hl:ws.length≤12):(i6 ws).length≤9:=by
 obtain ⟨i1,i2,i3⟩:=jm ws 1 hT hw;have c:=Aa ws 1 hT hw hl;rw[jf hT] at i3;match h:d9 ws,i1 with
 | [y],_=>
  rw[h] at i2 i3 c;have:=c y aa8;have e:y.1=i6 ws:=(ab1 i3).1;rw[←e];refine aal this.2 (cap_le _ ?_);simp at i2;omega
theorem Snd.form {kinds:List Str} {sh:List V} {ts:List (List V)} (h:Snd kinds sh ts):isTerm (du kinds sh)∧(∀v∈du kinds sh,oo SS v)∧(du kinds sh).length≤12∧(i6 (du kinds sh)).length≤9:=by
 obtain ⟨a,b⟩:=Ef h.word h.len;have t:isTerm (du kinds sh):=by
  unfold isTerm;rw[b];exact h.term
 have l:(du kinds sh).length≤12:=by rw[kq];exact h.len
 refine ⟨t,λv hv=>?_,l,J5 t (λv hv=>(a v hv).isW) l⟩;rcases a v hv with ⟨n,rfl,hn⟩ | ⟨z,rfl,_⟩
 ·exact hn
 ·exact .inr trivial
theorem Dk {kinds:List Str}:∀(ws pre:List V) (i:Nat) (w:V),ws[i]?=some w→(e9 kinds pre ws)[i]?=some (fo kinds (pre++ws.take i) w)
 | [],_,i,w,h=>by simp at h
 | v::r,pre,0,w,h=>by
  cases aa6 h
  show some (fo kinds pre v)=some (fo kinds (pre++[]) v)
  rw[aaz]
 | v::r,pre,i+1,w,h=>by
  have:=Dk (kinds:=kinds) r (pre++[v]) i w h;rw[ab5] at this;exact this
end Sn
namespace Sn
open PySem PySem.Spec L2 PyProof.Rows Pc Fm Bk
noncomputable def cpL (z:Str):List Nat:=z.cps.toList
theorem gy (a b:Str):cpL (a++b)=cpL a++cpL b:=ad2
theorem Cr (k:Int):∃c:Nat,atI uc.cps.toList (k % 26)=some (97+c)∧(c:Int)=k % 26:=by
 have h0:0≤k % 26:=abt _ (by decide);have h1:k % 26 < 26:=abr _ (by decide);obtain ⟨n,hn⟩:∃n:Nat,k % 26=(n:Int):=⟨(k % 26).toNat,by omega⟩;rw[hn] at h1 ⊢;have hl:∀n:_root_.Fin 26,uc.cps.toList[n.val]?=some (97+n.val):=by decide+kernel
 exact ⟨n,cb (hl ⟨n,by omega⟩),rfl⟩
theorem Jj {f:Nat→Str} {n:Nat} (h:∀i j,i < j→j < n→f i≠f j):((aak n).map f).Nodup:=by
 refine List.pairwise_map.mpr (List.pairwise_iff_getElem.mpr λi j hi hj hij=>?_);rw[aea,aea];rw[aba] at hj;exact h i j hij hj
noncomputable def nmZ (A B:Str) (sh:Int) (k:Nat):Str:=A++((⟨#[97+(((k:Int)+sh) % 26).toNat]⟩:Str)++⟨#[97+(((k:Int) / 26+sh) % 26).toNat]⟩)++B
noncomputable def nmN (A B:Str) (sh:Int) (k:Nat):Str:=if inV (.str (nmZ A B sh k)) ft=true then nmZ A B sh k++Str.ofString "x" else nmZ A B sh k
theorem nmN_nd (A B:Str) (sh:Int):((aak 48).map (nmN A B sh)).Nodup:=by
 refine Jj λi j hij hj e=>?_;have h1:∀k,∃T,cpL (nmN A B sh k)=cpL A++((97+(((k:Int)+sh) % 26).toNat)::((97+(((k:Int) / 26+sh) % 26).toNat)::T)):=λk=>by
  unfold nmN;split
  ·refine ⟨cpL B++cpL (Str.ofString "x"),?_⟩;unfold nmZ;rw[gy,gy,gy,gy];simp[cpL]
  ·refine ⟨cpL B,?_⟩;unfold nmZ;rw[gy,gy,gy];simp[cpL]
 obtain ⟨T1,e1⟩:=h1 i;obtain ⟨T2,e2⟩:=h1 j;rw[e,e2] at e1;have e3:=List.append_cancel_left e1;have e4:=(ab1 e3).1;have e5:=(ab1 (ab1 e3).2).1;have q1:((i:Int)+sh) % 26=((j:Int)+sh) % 26:=by omega
 have q2:((i:Int) / 26+sh) % 26=((j:Int) / 26+sh) % 26:=by omega
 clear e e1 e2 e3 e4 e5 h1;have q3:(j:Int)=i+26:=by omega
 have q4:(i:Int) / 26=0:=by omega
 have q5:(j:Int) / 26=1:=by omega
 rw[q4,q5] at q2;omega
def Kinds (kinds:List Str):Prop:=1≤kinds.length∧kinds.length≤8∧kinds.Nodup∧∀z∈kinds,fw z=true
theorem yd {z:Str} (h:fw z=true) {y:Str} (hy:V.str y∈ft):z≠y:=λe=>by
 unfold fw at h;simp only[abf,Bool.not_eq_true'] at h;rw[e,pk hy] at h;cases h.2.2.2
theorem gb {kinds:List Str} {z:Str} (hz:fw z=true) (hm:z∈kinds):ao kinds (.str z)=lH:=by
 unfold ao;rw[if_neg,if_neg,if_pos (pk (List.mem_map.mpr ⟨z,hm,rfl⟩))]
 ·intro h;exact yd hz (y:="var") (by unfold ft;simp) (V.str.inj h)
 ·intro h;exact yd hz (y:="any") (by unfold ft;simp) (V.str.inj h)
theorem jh {kinds:List Str} (hk:Kinds kinds) {z:Str} (hm:z∈kinds):ju kinds (.str z):=by
 have hz:=hk.2.2.2 z hm;refine .inr ⟨z,rfl,.inr ⟨ia hz,?_⟩⟩;rw[gb hz hm];exact l_ne.2.2
theorem Be (kinds:List Str):ju kinds Cd∧arV Cd=0:=by
 refine ⟨.inr ⟨_,rfl,.inr ⟨by decide+kernel,?_⟩⟩,by decide+kernel⟩;have:ao kinds Cd=lN:=if_pos rfl;show ao kinds Cd≠lO
 rw[this];exact l_ne.1
theorem Gk (kinds:List Str):ju kinds As∧arV As=0:=by
 refine ⟨.inr ⟨_,rfl,.inr ⟨by decide+kernel,?_⟩⟩,by decide+kernel⟩;have:ao kinds As=lV:=by
  unfold ao;rw[if_neg (by decide+kernel),if_pos rfl]
 show ao kinds As≠lO
 rw[this];exact l_ne.2.1
theorem va {kinds:List Str} (hk:Kinds kinds) {z:Str} (hz:0 < arS z):ju kinds (.str z):=by
 refine .inr ⟨z,rfl,.inl ⟨hz,?_⟩⟩;unfold ao;rw[if_neg (λh=>by rw[V.str.inj h] at hz;exact absurd hz (by decide+kernel)),if_neg (λh=>by rw[V.str.inj h] at hz;exact absurd hz (by decide+kernel)),if_neg];intro h;obtain ⟨y,hy,e⟩:=List.mem_map.mp (pz h);cases e
 rw[ia (hk.2.2.2 z hy)] at hz;omega
theorem op_hd {z:Str} (h:0 < arS z):∃c,hd z=some c∧c≠104∧z.length≤3:=by
 rcases cq (z:=z) h with rfl | rfl | rfl | rfl
 ·exact ⟨97,by decide+kernel,by decide,by decide+kernel⟩
 ·exact ⟨115,by decide+kernel,by decide,by decide+kernel⟩
 ·exact ⟨109,by decide+kernel,by decide,by decide+kernel⟩
 ·exact ⟨110,by decide+kernel,by decide,by decide+kernel⟩
theorem lab_hd {lv:List Str} {z:Str} (hv:∀z∈lv,arS z=0∧z.length≤3) (h:gh lv (.str z)):∃c,hd z=some c∧z.length≤3∧(c=104→arS z=0∧z∈lv):=by
 rcases h with ⟨n,e,_⟩ | ⟨y,e,h⟩
 ·cases e
 ·cases e
  rcases h with h | ⟨h0,hm,h⟩
  ·obtain ⟨c,h1,h2,h3⟩:=op_hd h;exact ⟨c,h1,h3,λe=>absurd e h2⟩
  ·rcases h with h | h | h
   ·exact ⟨_,h,(hv z hm).2,λ_=>⟨h0,hm⟩⟩
   ·exact ⟨_,h,(hv z hm).2,λe=>by cases e⟩
   ·exact ⟨_,h,(hv z hm).2,λe=>by cases e⟩
theorem b4_ok:∀z∈B4,(∃c,hd z=some c)∧z.length≤3:=by
 intro z hz;have:z∈(["out","t3","t2","t1"]:List Str):=hz;simp only[ab0,aas,or_false] at this;rcases this with rfl | rfl | rfl | rfl
 ·exact ⟨⟨111,by decide+kernel⟩,by decide+kernel⟩
 ·exact ⟨⟨116,by decide+kernel⟩,by decide+kernel⟩
 ·exact ⟨⟨116,by decide+kernel⟩,by decide+kernel⟩
 ·exact ⟨⟨116,by decide+kernel⟩,by decide+kernel⟩
section
variable {lv:List Str} {ls:List V} {k:Nat} {boxes hs:List Str} {ts:List (List V)} {w:V}
theorem DI.hds (D:DI lv ls k boxes hs ts) (hv:∀z∈lv,arS z=0∧z.length≤3) {z:Str} (hz:z∈hs):∃c,hd z=some c∧z.length≤3:=by
 rcases D.hk z hz with h | ⟨h1,h2⟩
 ·obtain ⟨⟨c,h1⟩,h2⟩:=b4_ok z h;exact ⟨c,h1,h2⟩
 ·exact ⟨104,h2,(hv z h1).2⟩
theorem DI.room (D:DI lv ls (k+1) boxes hs ts) (hT:isTerm ls) (hls:∀v∈ls,gh lv v) (hw:ls[k]?=some w):arV w≤hs.length∧(k=0→hs.length=arV w):=by
 have hisW:∀v∈ls,isW v:=λv hv=>(hls v hv).isW;obtain ⟨φ,e1,e2,e3,e4,e5⟩:=D.ex;obtain ⟨m,hm,h0⟩:∃m,pend m ((ls.drop k).map arV)=some 0∧(k=0→m=1):=by
  by_cases hk:k=0
  ·subst hk;exact ⟨1,hT,λ_=>rfl⟩
  ·have:=jj (ls.map arV) 1 hT k;rw[←acp] at this;obtain ⟨m,hm⟩:=this;exact ⟨m,hm,λh=>absurd h hk⟩
 rw[p0 hw,aaj] at hm;obtain ⟨m',rfl⟩:∃m',m=m'+1:=by
  cases m with
  | zero=>cases hm
  | succ m'=>exact ⟨m',rfl⟩
 have hm':pend (m'+arV w) ((ls.drop (k+1)).map arV)=some 0:=hm;obtain ⟨r1,r2,_⟩:=jm _ _ hm' λv hv=>hisW v (abd hv);rw[e4,r1];refine ⟨by omega,λhk=>?_⟩;have:=h0 hk;omega
noncomputable def dn (boxes so:List Str):List Str:=boxes++so.filter λz=>decide (hd z≠some 104)
theorem DI.free (D:DI lv ls k boxes hs ts) (a:Nat):(dn boxes (hs.take a)).Nodup∧∀z,z∈dn boxes (hs.take a)↔z∈boxes∨(z∈hs.take a∧z∈B4):=by
 have key:∀z∈hs.take a,hd z≠some 104↔z∈B4:=λz hz=>by
  rcases D.hk z (abj hz) with h | ⟨_,h⟩
  ·exact ⟨λ_=>h,λ_=>(Km z h).1⟩
  ·exact ⟨λn=>absurd h n,λm=>absurd h (Km z m).1⟩
 have ef:(hs.take a).filter (λz=>decide (hd z≠some 104))=(hs.take a).filter λz=>decide (z∈B4):=List.filter_congr λz hz=>decide_eq_decide.mpr (key z hz);unfold dn;rw[ef];refine ⟨List.nodup_append.mpr ⟨D.nd,?_,λx hx y hy e=>?_⟩,λz=>?_⟩
 ·have hn:=D.hn;rw[←ab3 a hs,ab2,acn] at hn;exact hn.1
 ·rw[e] at hx;exact D.dj y hx (abj (List.mem_filter.mp hy).1)
 ·rw[acx,aes,decide_eq_true_eq]
noncomputable def outB (bs:List Str):List Str:=bs.filter (λz=>decide (z≠(Str.ofString "out")))++[Str.ofString "out"]
theorem Ie {bs:List Str} (hn:bs.Nodup) (ho:("out":Str)∈bs):(outB bs).Nodup∧∀z,z∈outB bs↔z∈bs:=by
 unfold outB;refine ⟨List.nodup_append.mpr ⟨hn.filter _,List.nodup_cons.mpr ⟨aas,abo⟩,λx hx y hy e=>?_⟩,λz=>?_⟩
 ·rw[e,List.mem_singleton.mp hy] at hx;exact of_decide_eq_true (List.mem_filter.mp hx).2 rfl
 ·rw[acx,aes,ad7,decide_eq_true_eq];constructor
  ·rintro (h | h)
   ·exact h.1
   ·rw[h];exact ho
  ·intro h;by_cases e:z="out"
   ·exact .inr e
   ·exact .inl ⟨h,e⟩
theorem DI.out (D:DI lv ls 1 boxes hs ts) (hT:isTerm ls) (hls:∀v∈ls,gh lv v) (hw:ls[0]?=some w):("out":Str)∈dn boxes (hs.take (arV w)):=by
 have h:=(D.room (k:=0) hT hls hw).2 rfl;rw[(D.free _).2];have ob:("out":Str)∈B4:=aa8;rcases D.al "out" ob with m | m
 ·exact .inl m
 ·refine .inr ⟨?_,ob⟩;rw[←h,aau];exact m
end
theorem ig {lv:List Str} {ls:List V} {ts:List (List V)} {n:Nat} (h:((cn (oh lv) ts).bind λφ=>φ "out")=some (i6 ls,n)):Comes lv ls ts:=by
 obtain ⟨φ,h1,h2⟩:=Option.bind_eq_some_iff.mp h;exact ⟨φ,n,h1,h2⟩
noncomputable def sv (z:String):V:=.str (Str.ofString z)
noncomputable def H3:List Str:=[Str.ofString "h1",Str.ofString "h2",Str.ofString "h3"]
noncomputable def H2:List Str:=[Str.ofString "h1",Str.ofString "h2"]
noncomputable def spA (w:V):List (List V):=[[sv "mul",sv "t1",sv "h1",sv "h2"],[sv "mul",sv "out",sv "h3",sv "h1"],[w,sv "out",sv "t1",sv "out"]]
noncomputable def spB (u:V):List (List V):=[[sv "neg",sv "t1",sv "h2"],[u,sv "out",sv "h1",sv "t1"]]
theorem Ap:Comes H3 [sv "mul",sv "h1",sv "add",sv "h2",sv "h3"] (spA (sv "add")):=ig (n:=7) (by decide+kernel)
theorem Bv:Comes H3 [sv "mul",sv "h1",sv "sub",sv "h2",sv "h3"] (spA (sv "sub")):=ig (n:=7) (by decide+kernel)
theorem Bi:Comes H2 [sv "add",sv "h1",sv "h2"] (spB (sv "sub")):=ig (n:=4) (by decide+kernel)
theorem Ci:Comes H2 [sv "sub",sv "h1",sv "h2"] (spB (sv "add")):=ig (n:=4) (by decide+kernel)
theorem Fq:Comes [Str.ofString "n1"] [sv "n1"] [[sv "put",sv "out",sv "n1"]]:=ig (n:=1) (by decide+kernel)
theorem Ar:gf lH 1=Str.ofString "h1"∧gf lH 2=Str.ofString "h2"∧gf lH 3=Str.ofString "h3"∧gf lN 1=Str.ofString "n1":=by decide+kernel
theorem l_hO:(lH=lO)=False∧(lO=lH)=False∧(lN=lO)=False∧(lO=lN)=False:=⟨eq_false (by decide+kernel),eq_false (by decide+kernel),eq_false (by decide+kernel),eq_false (by decide+kernel)⟩
theorem h_ne:(Str.ofString "h1"=lO)=False∧(Str.ofString "h2"=lO)=False∧(Str.ofString "h3"=lO)=False∧(Str.ofString "n1"=lO)=False:=⟨eq_false (by decide+kernel),eq_false (by decide+kernel),eq_false (by decide+kernel),eq_false (by decide+kernel)⟩
theorem Ay {kinds:List Str} (hk:Kinds kinds) {z:Str} (hz:0 < arS z):ao kinds (.str z)=lO:=by
 rcases va hk hz with ⟨n,e,_⟩ | ⟨y,e,h | h⟩
 ·cases e
 ·exact h.2
 ·cases e
  omega
theorem snd3 {kinds:List Str} (hk:Kinds kinds) {a c:Str} {w:Str} (ha:a∈kinds) (hc:c∈kinds) (hw:w=Str.ofString "add"∨w=Str.ofString "sub"):Snd kinds [sv "mul",.str a,.str w,.str a,.str c] (spA (.str w)):=by
 have la:=gb (hk.2.2.2 a ha) ha;have lc:=gb (hk.2.2.2 c hc) hc;have wa:arS w=2:=by rcases hw with rfl | rfl <;> decide+kernel
 have lw:=Ay hk (z:=w) (by omega);have lm:=Ay hk (z:=Str.ofString "mul") (by decide+kernel);have a0:=ia (hk.2.2.2 a ha);have c0:=ia (hk.2.2.2 c hc);obtain ⟨t1,t2,t3,_⟩:=Ar;obtain ⟨o1,o2,_,_⟩:=l_hO;obtain ⟨g1,g2,g3,_⟩:=h_ne;have el:du kinds [sv "mul",.str a,.str w,.str a,.str c]=[sv "mul",sv "h1",.str w,sv "h2",sv "h3"]:=by
  simp[du,e9,fo,nmW,dk,sv,la,lc,lw,lm,t1,t2,t3,o1,o2]
 have ev:lvs kinds [sv "mul",.str a,.str w,.str a,.str c]=H3:=by
  simp[lvs,nms,n6,nmW,dk,sv,la,lc,lw,lm,t1,t2,t3,o1,o2,g1,g2,g3,H3]
 refine ⟨λv hv=>?_,?_,by show (5:Nat)≤12;decide,?_⟩
 ·simp only[ab0,aas,or_false] at hv;rcases hv with rfl | rfl | rfl | rfl | rfl
  ·exact va hk (by decide+kernel)
  ·exact jh hk ha
  ·exact va hk (by omega)
  ·exact jh hk ha
  ·exact jh hk hc
 ·show pend 1 [arS (Str.ofString "mul"),arS a,arS w,arS a,arS c]=some 0
  rw[a0,c0,wa,show arS (Str.ofString "mul")=2 by decide+kernel];rfl
 ·rw[el,ev];rcases hw with rfl | rfl
  ·exact Ap
  ·exact Bv
theorem snd2 {kinds:List Str} (hk:Kinds kinds) {a c w u:Str} (ha:a∈kinds) (hc:c∈kinds) (hw:(w=Str.ofString "add"∧u=Str.ofString "sub")∨(w=Str.ofString "sub"∧u=Str.ofString "add")):Snd kinds [.str w,.str a,.str c] (spB (.str u)):=by
 have la:=gb (hk.2.2.2 a ha) ha;have lc:=gb (hk.2.2.2 c hc) hc;have wa:arS w=2:=by rcases hw with ⟨rfl,_⟩ | ⟨rfl,_⟩ <;> decide+kernel
 have lw:=Ay hk (z:=w) (by omega);have a0:=ia (hk.2.2.2 a ha);have c0:=ia (hk.2.2.2 c hc);obtain ⟨t1,t2,t3,_⟩:=Ar;obtain ⟨o1,o2,_,_⟩:=l_hO;obtain ⟨g1,g2,g3,_⟩:=h_ne;have el:du kinds [.str w,.str a,.str c]=[.str w,sv "h1",sv "h2"]:=by
  simp[du,e9,fo,nmW,dk,sv,la,lc,lw,t1,t2,t3,o1,o2]
 have ev:lvs kinds [.str w,.str a,.str c]=H2:=by
  simp[lvs,nms,n6,nmW,dk,sv,la,lc,lw,t1,t2,t3,o1,o2,g1,g2,g3,H2]
 refine ⟨λv hv=>?_,?_,by show (3:Nat)≤12;decide,?_⟩
 ·simp only[ab0,aas,or_false] at hv;rcases hv with rfl | rfl | rfl
  ·exact va hk (by omega)
  ·exact jh hk ha
  ·exact jh hk hc
 ·show pend 1 [arS w,arS a,arS c]=some 0
  rw[a0,c0,wa];rfl
 ·rw[el,ev];rcases hw with ⟨rfl,rfl⟩ | ⟨rfl,rfl⟩
  ·exact Bi
  ·exact Ci
theorem Mu (kinds:List Str):Snd kinds [sv "any"] [[sv "put",sv "out",sv "n1"]]:=by
 have ln:ao kinds (.str (Str.ofString "any"))=lN:=if_pos rfl;obtain ⟨_,_,_,t1⟩:=Ar;obtain ⟨_,_,o1,o2⟩:=l_hO;obtain ⟨_,_,_,g1⟩:=h_ne;have el:du kinds [sv "any"]=[sv "n1"]:=by simp[du,e9,fo,nmW,dk,sv,ln,t1,o1,o2]
 have ev:lvs kinds [sv "any"]=[Str.ofString "n1"]:=by simp[lvs,nms,n6,nmW,dk,sv,ln,t1,o1,o2,g1]
 refine ⟨λv hv=>?_,by show pend 1 [arS (Str.ofString "any")]=some 0;decide+kernel,by show (1:Nat)≤12;decide,?_⟩
 ·rw[List.mem_singleton.mp hv];exact (Be kinds).1
 ·rw[el,ev];exact Fq
theorem pw {φ:Phi} {v:V} {x:FN} (h:src φ v=some x):isW v:=by
 cases v with
 | int n=>exact isW.int n
 | str z=>exact isW.str z
 | _=>cases h
theorem uj:∀(ts:List (List V)) (φ ψ:Phi),cn φ ts=some ψ→∀d∈ts,d.length≤1000∧∀v∈d,isW v
 | [],_,_,_=>λ_ h=>nomatch h
 | t::ts,φ,ψ,h=>by
  obtain ⟨⟨b,x⟩,h1,h2⟩:=Option.bind_eq_some_iff.mp (show ((r8 φ t).bind λp=>cn (put φ p.1 p.2) ts)=some ψ from h);intro d hd;rcases List.mem_cons.mp hd with rfl | hd
  ·cases Ed h1 with
   | one op _ s _ _ hs=>
    refine ⟨by show (3:Nat)≤1000;decide,λv hv=>?_⟩;simp only[ab0,aas,or_false] at hv;rcases hv with rfl | rfl | rfl
    ·exact isW.str _
    ·exact isW.str _
    ·exact pw hs
   | neg op _ s _ _ hs _=>
    refine ⟨by show (3:Nat)≤1000;decide,λv hv=>?_⟩;simp only[ab0,aas,or_false] at hv;rcases hv with rfl | rfl | rfl
    ·exact isW.str _
    ·exact isW.str _
    ·exact pw hs
   | two op _ s t _ _ _ hs ht _=>
    refine ⟨by show (4:Nat)≤1000;decide,λv hv=>?_⟩;simp only[ab0,aas,or_false] at hv;rcases hv with rfl | rfl | rfl | rfl
    ·exact isW.str _
    ·exact isW.str _
    ·exact pw hs
    ·exact pw ht
  ·exact uj ts _ _ h2 d hd
theorem Snd.fit {kinds:List Str} {r:Rd5} (h:Snd kinds r.shape r.cn) (hl:r.cn.length≤6):r.fit:=by
 obtain ⟨φ,n,h1,_⟩:=h.out;exact ⟨λv hv=>(h.word v hv).isW,h.len,by omega,uj _ _ _ h1⟩
end Sn
namespace L2
open PySem PySem.Spec PyProof.Rows PySem.SeqAt Pc
def rEq00:R2:=λx y H Q=>∃a b m n m' n',x=.ref a∧y=.ref b∧H a=some (.tup [.ref m,.ref n])∧H b=some (.tup [.ref m',.ref n'])∧H m=some (.tup [])∧H n=some (.tup [])∧H m'=some (.tup [])∧H n'=some (.tup [])∧Q (.bl true) H
section
variable {X:Cx}
theorem Lu (hu:X.A.units+8 < cLine):OpR X (compareOp .Eq) rEq00:=by
 intro pins s σ H x y v u Q I rx ry h;obtain ⟨a,b,m,n,m',n',rfl,rfl,ha,hb,h1,h2,h3,h4,q⟩:=h;cases rx
 cases ry
 obtain ⟨_,i1,r1,p1⟩:=(dq I.hok ha);obtain ⟨_,i2,r2,p2⟩:=(dq I.hok hb);obtain ⟨a1,b1,rfl,ra1,rb1⟩:=vals2 r1;obtain ⟨a2,b2,rfl,ra2,rb2⟩:=vals2 r2;cases ra1
 cases ra2
 cases rb1
 cases rb2
 refine eq_tupleAt (e:=λ_=>true) p1 p2 (by omega) (λj g1 g2=>?_) ?_
 ·match j,g1,g2 with
  | 0,_,_=>exact sj (n:=[]) I.hok h1 h3 (show X.A.units+1 < cLine by omega)
  | 1,_,_=>exact sj (n:=[]) I.hok h2 h4 (show X.A.units+1 < cLine by omega)
 ·exact az I q rfl
end
end L2
namespace K34
open PySem PySem.Spec L2 PyProof.Rows Pc Fm Bk Sn
set_option hygiene false
set_option compiler.extract_closed false
local macro_rules | `(tactic| push_cast [$xs,*])=>`(tactic| simp only [↓Ge,↓Mb,↓Ld,↓L7,↓exists_eq_left,↓exists_eq_left',↓int_ex,↓ref_ex,↓bl_ex,↓Mv,vj,yo,rID,rUD,tBD,Aq,Hk,G9,Jw,tSeq,tIfS,tRet,tRetN,tNext,tVar,tC,Kf,tB,tOp,tUn,rI,rI0,rU,rEq,rNe,Gq,tCB,tCons,tNil,tAnd,tOr,tNot,tAndV,tOrV,tNotV,tIf,cm,tAsg,tBM,tBM0,tSl,Dx,Ih,rSlS,rSlL,tLst,tTup,tDrop,tNoIf,iStr,iList,iTup,Ki,iRng2,tLC,Ib,ud,List.set_cons_zero,List.set_cons_succ,List.getElem?_cons_zero,List.getElem?_cons_succ,Option.some.injEq,V.int.injEq,V.str.injEq,V.bl.injEq,V.ref.injEq,List.cons.injEq,exists_eq_left,exists_eq_left',exists_eq_right,exists_eq_right',exists_and_left,exists_and_right,and_true,true_and,List.cons_append,List.nil_append,List.append_nil,reduceCtorEq,false_and,exists_false,false_or,or_false,decide_eq_true_eq,eq_self,if_true,if_false,Bool.false_eq_true,Bool.true_eq_false,cxOf_K,cxOf_P,cxOf_w,Me,cxOf_b,List.map_cons,List.map_nil,Option.getD_some,Option.getD_none,exists_const,nox_K,and_assoc,exists_eq,exists_eq',V.ty.injEq,tVals,Int.reduceLT,Int.reduceLE,Int.reduceNeg,Int.reducePow,Nat.reduceLT,Nat.reduceLeDiff,Lw,Mk,CDiv,Hz,tDIn,Em,tDGet,iRev,Hi,sDPut,and_self,exists_prop,$xs,*])
set_option hygiene true
set_option compiler.extract_closed true
noncomputable def top (i:Nat):Stmt:=PySem.Challenge.pw_pricecover_k34_sound_books.main.body.getD i (.Pass ⟨0,0,0,0⟩)
structure Gs (w:World) (K:PySem.W.Frag) (mg:Str→Option Value):Prop where
 m_all:mg "all"=none
 m_bool:mg "bool"=none
 m_enumerate:mg "enumerate"=none
 m_int:mg "int"=none
 m_isinstance:mg "isinstance"=none
 m_len:mg "len"=none
 m_max:mg "max"=none
 m_range:mg "range"=none
 m_reversed:mg "reversed"=none
 m_sorted:mg "sorted"=none
 m_str:mg "str"=none
 m_sum:mg "sum"=none
 m_tuple:mg "tuple"=none
 m_zip:mg "zip"=none
 m_PARTS_BELOW:∃a,mg "PARTS_BELOW"=some (.ref a)∧ModD w K a [(Sum.inr "add",.int 2),(Sum.inr "sub",.int 2),(Sum.inr "mul",.int 2),(Sum.inr "neg",.int 1)]
def Dc (K:PySem.W.Frag):Sp:=λvs H Q _=>∃(a:Addr) (ns:List Int),vs=[.ref a]∧SqL K H a (ns.map V.int)∧ns.length≤63∧∀H',Q (.bl true) H'
def b9:Sp:=λ_ _ _ _=>False
def gw (K:PySem.W.Frag):Sp:=λvs H Q _=>∃(v:V) (kt:Addr) (kinds:List Str),vs=[v,.ref kt]∧isW v∧SqT K H kt (kinds.map V.str)∧Q (.str (ao kinds v)) H
theorem Br {v:V} (h:isW v) (z:Str):scal v (.str z)=true:=by
 obtain ⟨k,rfl⟩:=h;cases k <;> rfl
theorem qf {v:V} (h:isW v):gi v=true:=by
 obtain ⟨k,rfl⟩:=h;cases k <;> rfl
def i7 (K:PySem.W.Frag):Sp:=λvs H Q _=>∃(v:V) (kt:Addr) (kinds:List Str),vs=[v,.ref kt]∧ju kinds v∧SqT K H kt (kinds.map V.str)∧Q (.bl true) H
def jo (K:PySem.W.Frag):Sp:=λvs H Q _=>∃(st kt:Addr) (sh:List V) (kinds:List Str),vs=[.ref st,.ref kt]∧SqT K H st sh∧SqT K H kt (kinds.map V.str)∧(∀w∈sh,ju kinds w)∧isTerm sh∧sh.length≤12∧∀H',ag H H'→Q (.bl true) H'
def mq (K:PySem.W.Frag):Sp:=λvs H Q _=>∃(st kt:Addr) (sh:List V) (kinds:List Str),vs=[.ref st,.ref kt]∧SqT K H st sh∧SqT K H kt (kinds.map V.str)∧(∀w∈sh,isW w)∧sh.length≤12∧∀(l:Addr) (H':Hp),ag H H'→H l=none→H' l=some (.lst ((nms kinds sh).map V.str))→Q (.ref l) H'
def qj:Sp:=λvs H Q _=>∃(z:Str) (d:Addr) (zs:List Str),vs=[.str z,.ref d]∧H d=some (.dK (zs.map λy=>(Sum.inr y,V.bl true)))∧z∉zs∧zs.length≤100∧∀H',av d H H'→H' d=some (.dK ((zs++[z]).map λy=>(Sum.inr y,V.bl true)))→Q .non H'
def FD (H:Hp) (d:Addr) (φ:Phi) (n:Nat):Prop:=∃kvs:List (Key×V),H d=some (.dK kvs)∧kvs.length≤n∧∀z:Str,(φ z=none∧cp kvs (Sum.inr z)=none)∨∃(x:FN) (a:Addr),φ z=some x∧cp kvs (Sum.inr z)=some (.ref a)∧au H a x.1
theorem FD.same {H H':Hp} {d:Addr} {φ:Phi} {n:Nat} (h:FD H d φ n) (s:ag H H'):FD H' d φ n:=by
 obtain ⟨kvs,h1,h2,h3⟩:=h;refine ⟨kvs,s _ _ h1,h2,λz=>?_⟩;rcases h3 z with h | ⟨x,a,e1,e2,e3⟩
 ·exact .inl h
 ·exact .inr ⟨x,a,e1,e2,e3.keep (TK.of s)⟩
theorem FD.put {H:Hp} {d a:Addr} {φ:Phi} {n:Nat} (h:FD H d φ n) (hn:n≤1000) (z:Str) (x:FN) (ha:au H a x.1):∃H',sf H d (.str z) (.ref a) H'∧FD H' d (Sn.put φ z x) (n+1)∧∃o,H'=upd H d o:=by
 obtain ⟨kvs,h1,h2,h3⟩:=h;have sz:=sizeLine_eq;have tk:TK H (upd H d (.dK (putK kvs (Sum.inr z) (.ref a)))):=TK.put h1 λxs e=>by cases e
 refine ⟨_,sf.k (k:=Sum.inr z) h1 (by omega),⟨_,aa,by have:=d7 kvs (Sum.inr z) (V.ref a);omega,λy=>?_⟩,_,rfl⟩;rw[p8];by_cases e:y=z
 ·rw[if_pos (by rw[e]),e];exact .inr ⟨x,a,if_pos rfl,rfl,ha.keep tk⟩
 ·rw[if_neg (λh=>e (Sum.inr.inj h))];have ep:Sn.put φ z x y=φ y:=if_neg e;rw[ep];rcases h3 y with h | ⟨w,b,e1,e2,e3⟩
  ·exact .inl h
  ·exact .inr ⟨w,b,e1,e2,e3.keep tk⟩
theorem FD.get {H:Hp} {d:Addr} {φ:Phi} {n:Nat} (h:FD H d φ n) {z:Str} {x:FN} (hx:φ z=some x):∃a,fj H d (.str z) (some (.ref a))∧au H a x.1:=by
 obtain ⟨kvs,h1,h2,h3⟩:=h;rcases h3 z with ⟨h,_⟩ | ⟨w,a,e1,e2,e3⟩
 ·rw[h] at hx;cases hx
 ·rw[hx] at e1;cases e1
  have g:=fj.k (k:=Sum.inr z) h1;rw[e2] at g;exact ⟨a,g,e3⟩
theorem ui {z:Str}:∀zs:List Str,z∉zs→cp (zs.map λy=>((Sum.inr y:Key),V.bl true)) (Sum.inr z)=none
 | [],_=>rfl
 | y::r,h=>by
  rw[aaj,ax (λe=>h (by rw[←Sum.inr.inj e];exact aa8))];exact ui r λm=>h (aa7 _ m)
theorem FD.new {H:Hp} {d:Addr} (h:H d=some (.dK [])):FD H d (oh []) 0:=⟨[],h,aa4 _,λz=>.inl ⟨if_neg (λh=>nomatch h),rfl⟩⟩
theorem Fi (zs:List Str) (z:Str):Sn.put (oh zs) z (bz (.str z),1)=oh (zs++[z]):=by
 funext y
 unfold Sn.put oh;by_cases e:y=z
 ·rw[if_pos e,e,if_pos (aaw _ (List.mem_singleton.mpr rfl))]
 ·rw[if_neg e];by_cases h:y∈zs
  ·rw[if_pos h,if_pos (abw _ h)]
  ·rw[if_neg h,if_neg];intro m;rcases List.mem_append.mp m with m | m
   ·exact h m
   ·exact e (List.mem_singleton.mp m)
theorem Fg {w:V} (h:arV w=0):i6 [w]=bz w:=by
 have ht:isTerm [w]:=by
  show pend 1 [arV w]=some 0
  rw[h];rfl
 have:=jf ht;rw[gc,fe h] at this;exact (ab1 this).1.symm
def tm (K:PySem.W.Frag):Sp:=λvs H Q _=>∃(r:Str) (v:V) (d:Addr) (φ:Phi) (x:FN) (n:Nat),vs=[.str r,v,.ref d]∧FD H d φ n∧POk φ∧src φ v=some x∧∀(a:Addr) (H':Hp),ag H H'→au H' a x.1→Q (.ref a) H'
def pq (K:PySem.W.Frag):Sp:=λvs H Q _=>∃(r:Str) (t d:Addr) (ts:List V) (φ:Phi) (b:Str) (x:FN) (n:Nat),vs=[.str r,.ref t,.ref d]∧H t=some (.tup ts)∧FD H d φ n∧POk φ∧oy φ ts b x∧∀(a:Addr) (H':Hp),ag H H'→au H' a x.1→Q (.ref a) H'
def we (K:PySem.W.Frag):Sp:=λvs H Q _=>∃(r:Str) (l da:Addr) (zs:List Str) (as:List Addr) (ts:List (List V)) (φ:Phi) (f:Form) (n:Nat),vs=[.str r,.ref l,.ref da]∧H l=some (.lst (zs.map V.str))∧zs.length≤12∧(∀z∈zs,arS z=0)∧H da=some (.tup (as.map V.ref))∧b8 H as ts∧ts.length≤12∧cn (oh zs) ts=some φ∧φ "out"=some (f,n)∧∀(a:Addr) (H':Hp),ag H H'→au H' a f→Q (.ref a) H'
def C0 (K:PySem.W.Frag):Sp:=λvs H Q _=>∃(r:Str) (st da kt:Addr) (sh:List V) (as:List Addr) (ts:List (List V)) (kinds:List Str),vs=[.str r,.ref st,.ref da,.ref kt]∧H st=some (.tup sh)∧H da=some (.tup (as.map V.ref))∧b8 H as ts∧ts.length≤12∧H kt=some (.tup (kinds.map V.str))∧Snd kinds sh ts∧∀H',ag H H'→Q .non H'
def pd:Sp:=λvs H Q _=>∃(a b:Addr) (f:Form),vs=[.ref a,.ref b]∧au H a f∧au H b f∧f.length < 32∧∀H',ag H H'→Q .non H'
def ph:Sp:=λvs H Q _=>∃(b:Addr) (kinds:List Str) (rs:List Rd5),vs=[.ref b]∧xq H b kinds rs∧(kinds++rs.map (·.name)).Nodup∧kinds.length≤8∧rs.length≤63∧(∀r∈rs,r.kind∈kinds∧Snd kinds r.shape r.cn∧r.cn.length≤12)∧∀H',ag H H'→Q (.ref b) H'
def nq:Sp:=λvs H Q _=>∃(h:Addr),vs=[.ref h,.int 48]∧bc H h 0∧∀(l:Addr) (zs:List Str) (H':Hp),av h H H'→H l=none→H' l=some (.lst (zs.map V.str))→zs.length=48→zs.Nodup→(∀z∈zs,fw z=true)→bc H' h 10→Q (.ref l) H'
theorem yn {H:Hp} {h a:Addr} {n:Nat} {o:HO} (hh:bc H h n) (ne:h≠a):bc (upd H a o) h n:=let ⟨x,y,z,h1,r⟩:=hh;⟨x,y,z,by rw[af ne];exact h1,r⟩
def o7:Sp:=λvs H Q _=>∃(h kt:Addr) (n:Nat) (kinds:List Str),vs=[.ref h,.ref kt]∧bc H h n∧n≤9000∧H kt=some (.tup (kinds.map V.str))∧Sn.Kinds kinds∧∀(v:V) (H':Hp),av h H H'→bc H' h (n+6)→ju kinds v→arV v=0→Q v H'
def t4:Sp:=λvs H Q _=>∃(h kt:Addr) (n:Nat) (kinds:List Str) (m:Int),vs=[.ref h,.ref kt,.int m]∧bc H h n∧n≤100∧H kt=some (.tup (kinds.map V.str))∧Sn.Kinds kinds∧1≤m∧m≤9∧∀(t:Addr) (sh:List V) (H':Hp),av h H H'→bc H' h (n+100)→H' t=some (.tup sh)→(∀w∈sh,ju kinds w)→isTerm sh→sh.length≤11→Q (.ref t) H'
def qt:Sp:=λvs H Q _=>∃(kt st:Addr) (kinds:List Str) (sh:List V),vs=[.ref kt,.ref st]∧H kt=some (.tup (kinds.map V.str))∧Sn.Kinds kinds∧H st=some (.tup sh)∧(∀w∈sh,ju kinds w)∧sh.length≤11∧∀(l:Addr) (H':Hp),ag H H'→H l=none→H' l=some (.lst (du kinds sh))→Q (.ref l) H'
def wu:Sp:=λvs H Q _=>∃(w:V) (b:Str) (l:Addr) (so lv:List Str),vs=[w,.str b,.ref l]∧gh lv w∧(∀z,w=.str z→arS z=0→hd z≠some 104)∧H l=some (.lst (so.map V.str))∧so.length≤2∧(∀z∈lv,z.length≤3)∧∀(t:Addr) (H':Hp),ag H H'→H' t=some (.tup (kx w b so))→Q (.ref t) H'
def sx:Sp:=λvs H Q _=>∃(l:Addr) (ls:List V) (lv:List Str),vs=[.ref l]∧H l=some (.lst ls)∧(∀v∈ls,gh lv v)∧(∀z∈lv,arS z=0∧z.length≤3)∧isTerm ls∧ls.length≤11∧(∀H',ag H H'→Q .non H')∧∀(t:Addr) (as:List Addr) (ts:List (List V)) (H':Hp),ag H H'→H' t=some (.tup (as.map V.ref))→b8 H' as ts→Comes lv ls ts→ts.length≤6→Q (.ref t) H'
def RuleAt (H:Hp) (kinds:List Str) (p:Addr):Prop:=∃(st da:Addr) (sh:List V) (as:List Addr) (ts:List (List V)),H p=some (.tup [.ref st,.ref da])∧H st=some (.tup sh)∧H da=some (.tup (as.map V.ref))∧b8 H as ts∧Snd kinds sh ts∧ts.length≤6
def jg (n:Nat):Sp:=λvs H Q _=>∃(kt h:Addr) (kinds:List Str),vs=[.ref kt,.ref h]∧bc H h n∧H kt=some (.tup (kinds.map V.str))∧Sn.Kinds kinds∧∀(p:Addr) (H':Hp),av h H H'→bc H' h 200→RuleAt H' kinds p→Q (.ref p) H'
noncomputable def sm (kinds:List Str) (pre:List V):List V:=[lH,lN,lV].map λl=>V.int ((dk kinds l pre:Nat):Int)
theorem l_df:lH≠lN∧lH≠lV∧lN≠lV:=by decide+kernel
theorem Md {kinds:List Str} (pre:List V) {x:V} {so:Nat} (h:[lH,lN,lV][so]?=some (ao kinds x)):(sm kinds pre).set so (.int (((dk kinds (ao kinds x) pre:Nat):Int)+1))=sm kinds (pre++[x]):=by
 obtain ⟨d1,d2,d3⟩:=l_df;unfold sm;match so,h with
 | 0,h=>
  have h:lH=ao kinds x:=aa6 h;simp[dv,←h,d1,d2]
 | 1,h=>
  have h:lN=ao kinds x:=aa6 h;simp[dv,←h,d1.symm,d3]
 | 2,h=>
  have h:lV=ao kinds x:=aa6 h;simp[dv,←h,d2.symm,d3.symm]
 | n+3,h=>cases h
theorem cnt_no {kinds:List Str} (pre:List V) {x:V} (h:ao kinds x=lO):sm kinds (pre++[x])=sm kinds pre:=by
 obtain ⟨n1,n2,n3⟩:=l_ne;unfold sm;simp[dv,h,n1.symm,n2.symm,n3.symm]
theorem Ho {kinds:List Str} (pre:List V) {z:Str} {so:Nat} (h:[lH,lN,lV][so]?=some z):atI (sm kinds pre) (so:Int)=some (.int ((dk kinds z pre:Nat):Int)):=by
 refine cb ?_;unfold sm;rw[aae,h];rfl
theorem hnv_at {z:Str} {so:Nat} (h:[lH,lN,lV][so]?=some z):∃c:Nat,atI (Str.ofString "hnv").cps.toList (so:Int)=some c∧(⟨#[c]⟩:Str)=z:=by
 match so,h with
 | 0,h=>exact ⟨104,by decide+kernel,by rw[←aa6 h];decide+kernel⟩
 | 1,h=>exact ⟨110,by decide+kernel,by rw[←aa6 h];decide+kernel⟩
 | 2,h=>exact ⟨118,by decide+kernel,by rw[←aa6 h];decide+kernel⟩
 | n+3,h=>cases h
def Sort3 (kinds:List Str) (x:V) (so:Nat):Prop:=[lH,lN,lV][so]?=some (ao kinds x)∨(so=3∧ao kinds x=lO)
noncomputable def t5:List (Key×V):=[(Sum.inr (Str.ofString "add"),.int 2),(Sum.inr (Str.ofString "sub"),.int 2),(Sum.inr (Str.ofString "mul"),.int 2),(Sum.inr (Str.ofString "neg"),.int 1)]
theorem op_get {H:Hp} {cd:Addr} {lv:List Str} {w:V} (h:H cd=some (.dK (cy [] t5))) (hw:gh lv w):∃o,fj H cd w o∧o.getD (.int 0)=.int ((arV w:Nat):Int):=by
 have e:cy [] t5=t5:=by decide+kernel
 rw[e] at h;rcases hw with ⟨n,rfl,_⟩ | ⟨z,rfl,hz⟩
 ·refine ⟨_,fj.k (k:=Sum.inl n) h,?_⟩;unfold t5;rw[ax (λh=>by cases h),ax (λh=>by cases h),ax (λh=>by cases h),ax (λh=>by cases h)];rfl
 ·refine ⟨_,fj.k (k:=Sum.inr z) h,?_⟩;rcases hz with hz | ⟨h0,_⟩
  ·rcases cq (z:=z) hz with rfl | rfl | rfl | rfl <;> decide+kernel
  ·have ne:∀y:Str,0 < arS y→¬(Sum.inr y:Key)=Sum.inr z:=λy hy e=>by
    rw[Sum.inr.inj e] at hy;omega
   unfold t5;rw[ax (ne _ (by decide+kernel)),ax (ne _ (by decide+kernel)),ax (ne _ (by decide+kernel)),ax (ne _ (by decide+kernel))];show V.int 0=V.int ((arS z:Nat):Int)
   rw[h0];rfl
set_option hygiene false
local macro_rules
 | `(A0 $a $b)=>`(@pvD _ $a _ _ (by rfl) $b (by decide) (by decide))
 | `(A1 $a $b)=>`(@wj _ _ _ _ _ $a $b (by rfl))
 | `(A2 $_)=>`(@Jk _)
 | `(A3 $_)=>`(@Kn _ _ _ _)
 | `(A4 $a $b)=>`(@Jo _ _ _ _ _ $a $b)
 | `(A5 $a)=>`(@K4 _ _ _ $a)
 | `(A6 $a $b $c)=>`(@pe_has _ _ _ _ _ _ _ _ _ _ $a $b $c (by rfl) (by decide+kernel) (by rfl) (by rfl))
 | `(A7 $a $b $c $d $e)=>`(@ps_set _ _ $a _ _ _ _ $b rfl $c $d (by rfl) $e)
 | `(A8 $a)=>`(@ps_ret _ _ _ _ $a)
 | `(A9 $_)=>`(@Hj _ _ _ _)
 | `(AA $a $b $c)=>`(@pe_op _ _ _ _ _ _ _ _ $a $b $c)
 | `(AB $a $b $c)=>`(@pe_ix _ _ _ _ _ _ _ $a $b $c (λ_ _=>rfl))
 | `(AC $_)=>`(@nomark _ _ (by decide) (by decide))
 | `(AD $a $b $c)=>`(@ps_if _ _ _ _ _ _ _ _ $a $b $c)
 | `(AE $a)=>`(@pe_tup _ _ _ _ _ $a)
 | `(AF $_)=>`(@Lq _)
 | `(AG $a $b $c $d)=>`(@Jz _ _ _ _ _ _ _ _ _ $a rfl $b $c $d (by decide) (by decide) (by rfl) (by rfl))
 | `(AH $a $b $c $d)=>`(@yk _ _ _ _ _ _ _ _ $a $b $c $d)
 | `(AI $a)=>`(@jd.str _ _ _ _ _ $a)
 | `(AJ $_)=>`(@Lb _)
 | `(AK $a $b $c $d)=>`(@Ei _ _ $a _ $b rfl $c $d)
 | `(AL $_)=>`(@op_eq _)
 | `(AM $a)=>`(@pe_lst _ _ _ _ $a)
 | `(AN $a $b)=>`(@Ja _ _ _ _ _ $a $b (by rfl))
 | `(AO $_)=>`(@Mq _)
 | `(AQ $a $b $c $d $e $f)=>`(@pe_bm _ _ _ _ _ _ _ _ _ _ _ _ $a $b $c $d $e $f (by rfl) (by rfl) (by rfl) (by rfl) (by rfl))
 | `(AR $a)=>`(@M7 _ _ _ _ $a (by rfl))
 | `(AS $a $b $c)=>`(@ps_for _ _ _ _ _ _ _ _ PassesOwn.never rfl $a $b $c (by intro _;rfl))
 | `(AT $_)=>`(@zb _)
 | `(AU $a $b)=>`(@pe_gty _ _ _ _ $a $b (by rfl) (by decide+kernel) (by decide+kernel))
 | `(AV $a $b $c)=>`(@Ei _ _ $a _ $b rfl (aa1 rfl) $c)
 | `(AW $_)=>`(@u4 _)
 | `(AX $_)=>`(@ue _)
 | `(AY $a $b $c $d)=>`(@Ga _ _ _ _ _ _ _ _ _ $a rfl $b $c $d (by decide) (by decide) (by rfl) (by rfl))
 | `(AZ $a $b $c $d $e)=>`(@ie.mk _ _ $a $b $c _ rfl rfl rfl rfl $d rfl $e)
 | `(B5 $a)=>`(@pi_tup _ _ _ _ $a)
 | `(B6 $a $b $c $d $e)=>`(@pe_lc _ _ _ _ _ _ _ _ _ _ _ _ _ _ _ $a rfl $b $c $d $e (by intro _;rfl))
 | `(B7 $a)=>`(@Ly _ _ _ $a (by intro _;rfl))
 | `(B8 $a $b $c $d)=>`(@Mf _ _ _ _ _ _ _ _ $a $b $c $d)
 | `(B9 $_)=>`(@L9 _)
 | `(BA $_)=>`(@qy _)
 | `(BB $a $b)=>`(@pe_and _ _ _ _ _ _ _ $a $b)
 | `(BC $a)=>`(@PW.pt _ _ _ $a)
 | `(BD $a)=>`(@Jy _ _ _ $a)
 | `(BE $a)=>`(@pe_one _ _ _ _ _ $a)
 | `(BF $a $b $c)=>`(@Jf _ _ _ _ _ _ _ _ _ $a $b $c)
 | `(BG $a $b)=>`(@J7 _ _ _ _ _ $a rfl $b (by rfl) (by rfl))
 | `(BH $a $b $c $d)=>`(@L8 _ _ _ _ _ _ _ _ _ $a $b $c $d rfl)
 | `(BI $a $b)=>`(@E9 _ _ _ _ _ _ rfl $a $b (by rfl))
 | `(BJ $a $b $c)=>`(@yk _ _ _ _ _ _ _ _ $a $b $c (by with_unfolding_all rfl))
 | `(BK $a $b)=>`(@Li _ _ _ _ _ $a $b)
 | `(BL $a $b)=>`(@pe_un _ _ _ _ _ _ $a $b)
 | `(BM $a $b $c)=>`(@Nb _ _ _ _ _ _ $a $b $c (λ_ _=>rfl))
 | `(BN $a $b)=>`(@L3 _ _ _ _ _ _ $a $b)
 | `(BO $a $b $c $d)=>`(@Gn _ _ _ _ _ _ _ _ _ _ $a $b $c $d)
 | `(BP $a)=>`(@Gv _ _ _ $a)
 | `(BQ $a)=>`(@K2 _ _ _ _ $a)
 | `(BR $a $b)=>`(@pw_or _ _ _ _ _ _ _ $a $b)
 | `(BS $a)=>`(@pw_or1 _ _ _ _ $a)
 | `(BT $a $b)=>`(@ps_asg _ _ _ _ _ _ $a $b (by rfl) (by rfl) (by rfl))
 | `(BU $a $b $c)=>`(@pg_sub _ _ _ _ _ _ _ $a $b $c (by intro _;rfl))
 | `(BV $a $b)=>`(@pw_and _ _ _ _ _ _ _ $a $b)
 | `(BW $a)=>`(@jd.int _ _ _ _ _ $a)
 | `(BX $a $b)=>`(@Io _ _ $a rfl _ _ _ _ rfl $b (by rfl) (by rfl))
 | `(BY $a $b $c $d $e)=>`(@pe_bm0 _ _ _ _ _ _ _ _ _ $a $b $c $d $e (by rfl) (by rfl))
 | `(BZ $a $b $c)=>`(@Jg _ _ _ _ _ _ _ _ $a $b $c)
set_option hygiene true
section
variable {P:Program} {w:World} {K:PySem.W.Frag} {mg:Str→Option Value} {base:Heap} {k:Nat}
noncomputable abbrev Cb:Stmt:=top 9
theorem scHow:aj ["word"] ["word"] (ae Cb):=⟨rfl,rfl,rfl,by decide+kernel,rfl,by decide+kernel,by decide+kernel⟩
theorem hasHow (G:Gs w K mg) (D:Def K mg "how_many_below" Cb ["word"]):Has P w K mg base (k+1) "how_many_below" ["word"] cz:=by
 refine D.has scHow (λvs H Q E h=>?_) (λf cdv A outer s H vs Q E hr h=>?_)
 ·obtain ⟨_,rfl,_⟩:=h;rfl
 have nd:=scHow.nd;have hu:=bu hr;have hu0:=aab hu;have hu8:=sq hr;obtain ⟨v,rfl,h⟩:=h;obtain ⟨a_PARTS_BELOW,m_PARTS_BELOW,s_PARTS_BELOW⟩:=G.m_PARTS_BELOW;refine ⟨_,(A5 (A8 (@G5 _ _ _ _ _ _ _ _ _ _ hu8 (@Ej _ _ _ _ m_PARTS_BELOW (by rfl) (by decide+kernel)) s_PARTS_BELOW (A0 0 (by first | exact aa1 rfl | exact aa0 (aa1 rfl) | exact aa0 (aa0 rfl))) (A3 0) (@M2.mk _ _ _ _ _ _ _ rfl rfl rfl rfl)))),?_⟩;rw[show start ["word"] [v]=[some (v)] from rfl];clear hu hu0 nd hr;push_cast [Jq];rcases h with ⟨hw,q⟩ | ⟨a,xs,rfl,ha,hx,q⟩
 ·obtain ⟨k',rfl⟩:=hw;refine .inl ⟨k',rfl,?_⟩;show Q ((cp parts k').getD (V.int 0)) H
  rw[Ey];exact q
 ·exact .inr ⟨a,rfl,xs,ha,hx,q⟩
noncomputable abbrev rg:Stmt:=top 13
theorem Hb:aj ["rows","factors","names","factor"] ["rows"] (ae rg):=⟨rfl,rfl,rfl,by decide+kernel,rfl,by decide+kernel,by decide+kernel⟩
theorem Ms (G:Gs w K mg) (D:Def K mg "gathered" rg ["rows"]):Has P w K mg base (k+1) "gathered" ["rows"] eo:=by
 refine D.has Hb (λvs H Q E h=>?_) (λf cdv A outer s H vs Q E hr h=>?_)
 ·obtain ⟨_,_,_,rfl,_,_,_,_⟩:=h;rfl
 have nd:=Hb.nd;have hu:=bu hr;have hu0:=aab hu;have hu8:=sq hr;obtain ⟨a,rs,rows,rfl,ha,hw,hl,q⟩:=h;have m_sorted:=G.m_sorted;have m_tuple:=G.m_tuple;refine ⟨_,(A4 (A7 1 nd (by first | exact aa1 rfl | exact aa0 rfl) (@Kb _ _) (by first | exact .inl rfl | exact .inr rfl | assumption)) (A4 (AS (@pi_seq _ _ _ _ (A0 0 (by first | exact aa1 rfl | exact aa0 (aa1 rfl) | exact aa0 (aa0 rfl)))) (BG 2 (AN (AK 2 nd (by first | exact aa1 rfl | exact aa0 rfl) (by first | exact .inl rfl | exact .inr rfl | assumption)) (AN (AK 3 nd (by first | exact aa1 rfl | exact aa0 rfl) (by first | exact .inl rfl | exact .inr rfl | assumption)) (B9 0)))) (A5 (BH hu (A0 1 (by first | exact aa1 rfl | exact aa0 (aa1 rfl) | exact aa0 (aa0 rfl))) (A0 2 (by first | exact aa1 rfl | exact aa0 (aa1 rfl) | exact aa0 (aa0 rfl))) (AA (AO 0) (AQ PySem.F.plainAttrs_dict PySem.F.slot_dict_get PySem.F.type_dict_get (@zo _ hu) (A0 1 (by first | exact aa1 rfl | exact aa0 (aa1 rfl) | exact aa0 (aa0 rfl))) (A1 (A0 2 (by first | exact aa1 rfl | exact aa0 (aa1 rfl) | exact aa0 (aa0 rfl))) (A1 (A3 0) (A2 0)))) (A0 3 (by first | exact aa1 rfl | exact aa0 (aa1 rfl) | exact aa0 (aa0 rfl))))))) (A5 (A8 (AY (BA 0) m_tuple cu (A1 (AG (@km _) m_sorted xx (A1 (@Ij _ _ _ (B6 (AZ ["names","factor"] [] [] trivial trivial) (@Iu _ _ _ _ _ _ _ _ (A0 1 (by first | exact aa1 rfl | exact aa0 (aa1 rfl) | exact aa0 (aa0 rfl))) (by rfl) (by rfl)) (λ_ _ _=>(BX K (AN (AV 0 (show abe (["names","factor"]:List Str) by decide+kernel) (by first | exact .inl rfl | exact .inr rfl | assumption)) (AN (AV 1 (show abe (["names","factor"]:List Str) by decide+kernel) (by first | exact .inl rfl | exact .inr rfl | assumption)) (B9 0))))) (λ_ _ _=>(@pif1 _ _ _ (AH (@kz _) (A0 1 (by first | exact aa1 rfl | exact aa0 (aa1 rfl) | exact aa0 (aa0 rfl))) (A3 0) (AC 0)))) (λ_ _ _=>(AE (A1 (A0 0 (by first | exact aa1 rfl | exact aa0 (aa1 rfl) | exact aa0 (aa0 rfl))) (A1 (A0 1 (by first | exact aa1 rfl | exact aa0 (aa1 rfl) | exact aa0 (aa0 rfl))) (A2 0))))))) (A2 0))) (A2 0))))))),?_⟩;rw[show start ["rows","factors","names","factor"] [.ref a]=[some (.ref a),none,none,none] from rfl];clear hu hu0 nd hr;push_cast [and_true];have sz:=sizeLine_eq;push_cast [Gz,iSeq];intro d hd;have ha':upd H d (.dT []) a=some (.lst rs)∨upd H d (.dT []) a=some (.tup rs):=by
  rcases ha with h | h
  ·exact .inl (ab hd _ _ _ h)
  ·exact .inr (ab hd _ _ _ h)
 have nad:a≠d:=by
  rcases ha with h | h
  ·exact ah h hd
  ·exact ah h hd
 have lrs:rs.length=rows.length:=hw.1;refine Iq ha' (λi σ H'=>∃v2 v3,σ=[some (.ref a),some (.ref d),v2,v3]∧ag H H'∧H' d=some (.dT (trK (Fm.cf (rows.take i))))) ⟨none,none,rfl,ab hd _,aa⟩ (λi σ H' _ h o ho=>?_) ?_ ?_
 ·obtain ⟨_,_,_,s1,_⟩:=h;rw[af nad] at ho;exact s1 _ _ ho
 ·rintro i x σ H' hx ⟨v2,v3,rfl,s1,hD⟩;have hi:i < rows.length:=by rw[←lrs];exact (List.getElem?_eq_some_iff.mp hx).1
  obtain ⟨t,m,r1,r2,r3⟩:=hw.2 i rows[i].1 rows[i].2 (aa2 hi);rw[hx] at r1;cases r1
  push_cast [ub,dz,xm,Av];have hm:=s1 _ _ r3;have hm':H' m=some (.tup ((rows[i].1.map (Sum.inr:Str→Key)).map kV)):=by rw[C3];exact hm
  have nd:((Fm.cf (rows.take i)).map (·.1)).Nodup:=(Fm.foldI (rows.take i) [] abo).1;have gl:=Fm.nj (rows.take i);rw[aad] at gl;have tl:(trK (Fm.cf (rows.take i))).length=(Fm.cf (rows.take i)).length:=aa3 _;have tv:=Dv rows[i].1 (show ((Fm.cf (rows.take i)).map (·.1)).Nodup from nd);have g0:fj H' d (.ref m) (cp (trK (Fm.cf (rows.take i))) (rows[i].1.map Sum.inr)):=fj.t hD hm';refine ⟨_,SqT.of (s1 _ _ r2),rfl,_,_,rfl,_,_,rfl,rfl,vc hD,_,g0,?_⟩;rw[tv];refine ⟨_,sf.t hD hm' (by rw[tl];omega),s1.upd hd _,?_⟩;rw[aa,Dh rows[i].1 rows[i].2 nd,aan,aa2 hi];show some (HO.dT (trK (Fm.cw (Fm.cf (rows.take i)) rows[i].1 rows[i].2)))=some (HO.dT (trK (Fm.cf (rows.take i++[rows[i]]))))
  rw[Fm.Cg]
 ·rintro σ H' ⟨v2,v3,rfl,s1,hD⟩;rw[lrs,aau] at hD;push_cast [Ji,J8];have nd':((Fm.cf rows).map (·.1)).Nodup:=(Fm.foldI rows [] abo).1;have gl:=Fm.nj rows;refine ⟨d,trK (Fm.cf rows),hD,trK (Fm.cf rows),hD,λo D' hDn=>Jn (λi ys H1=>bj H1 ys (((Fm.cf rows).take i).filter λp=>decide (p.2≠0))) (λi ys H1 H2 k' h=>h.keep k') aa (by omega) hDn (bj.nil _) (λi n c m ys H1 G' K' hi hm hP hl2 hS hG hK=>?_) λys H2 hP hl2 hS hD2=>?_⟩
  ·push_cast [and_true];refine ⟨rfl,?_⟩;have et:((Fm.cf rows).take (i+1)).filter (λp=>decide (p.2≠0))=((Fm.cf rows).take i).filter (λp=>decide (p.2≠0))++[(n,c)].filter (λp=>decide (p.2≠0)):=by
    rw[aan,hi,ab2];rfl
   by_cases c0:c=0
   ·subst c0;rw[if_neg (by decide)];refine hG _ (ag.refl _) ?_;rw[et,show [(n,(0:Int))].filter (λp=>decide (p.2≠0))=[] from rfl,aaz];exact hP
   ·rw[if_pos (by rw[decide_eq_false c0];rfl)];refine ⟨by show (2:Nat)≤sizeLine;decide,λp hp=>hK _ _ (ab hp _) ?_⟩;rw[et,show [(n,c)].filter (λp=>decide (p.2≠0))=[(n,c)] by rw[ab4,if_pos (decide_eq_true c0)];rfl];exact (hP.keep (TK.of (ab hp _))).app (bj.one aa (ab hp _ _ _ hm))
  ·rw[aau] at hP;generalize ef:(Fm.cf rows).filter (λp=>decide (p.2≠0))=f0 at hP;have ndf:(f0.map (·.1)).Nodup:=by
    rw[←ef];exact ae7 (aen _ ae2) nd'
   have lf:f0.length≤rows.length:=by
    rw[←ef];exact aal (abb _ _) gl
   have hz2:H2 d=some (.frz o (.dT (trK (Fm.cf rows)))):=hS _ _ aa;have nDd:D'≠d:=λe=>by
    rw[e,aa] at hDn;cases hDn
   have hP3:bj (upd H2 d (.dT (trK (Fm.cf rows)))) ys f0:=hP.keep (TK.put hz2 λxs e=>by cases e);have ly:=hP.1;refine ⟨⟨o,hz2⟩,ys,.inl (SqL.of (by rw[af nDd];exact hD2)),by omega,_,Fd hP3.at ndf (abc (ad1 (by decide:2≤8) _) hu8) (abc (ad1 (by decide:3≤8) _) hu8),λl is hp hi hl3=>⟨_,.inl ⟨SqL.of aa,λl1 hl1=>?_⟩⟩⟩;rw[ly] at hp hi;have hin:∀i∈is,i < f0.length:=λi h=>List.mem_range.mp (hp.mem_iff.mp h);obtain ⟨k1,k2⟩:=yr hp hi;have ge:=Fm.Cw Au (Fm.C8 Au (rows:=rows) (by rw[ef];exact k1) k2);refine q l1 _ (((s1.trans (E8 hD hS)).trans (ab hl3 _)).trans (ab hl1 _)) ⟨_,aa,?_⟩;rw[←ge];exact (hP3.pick hin).keep (TK.of ((ab hl3 _).trans (ab hl1 _)))
noncomputable abbrev r9:Stmt:=top 14
theorem Jd:aj ["one","other"] ["one","other"] (ae r9):=⟨rfl,rfl,rfl,by decide+kernel,rfl,by decide+kernel,by decide+kernel⟩
theorem M0 (G:Gs w K mg) (h_gathered:Has P w K mg base k "gathered" ["rows"] eo) (D:Def K mg "plus" r9 ["one","other"]):Has P w K mg base (k+1) "plus" ["one","other"] w6:=by
 refine D.has Jd (λvs H Q E h=>?_) (λf cdv A outer s H vs Q E hr h=>?_)
 ·obtain ⟨_,_,_,_,rfl,_,_,_,_⟩:=h;rfl
 have nd:=Jd.nd;have hu:=bu hr;have hu0:=aab hu;obtain ⟨a,b,f,g,rfl,ha,hb,hl,q⟩:=h;refine ⟨_,(A5 (A8 (A6 h_gathered hr (A1 (AA (@jq _) (A0 0 (by first | exact aa1 rfl | exact aa0 (aa1 rfl) | exact aa0 (aa0 rfl))) (A0 1 (by first | exact aa1 rfl | exact aa0 (aa1 rfl) | exact aa0 (aa0 rfl)))) (A2 0))))),?_⟩;rw[show start ["one","other"] [.ref a,.ref b]=[some (.ref a),some (.ref b)] from rfl];clear hu hu0 nd hr;push_cast [eo];have sz:=sizeLine_eq;obtain ⟨ra,a1,a2⟩:=ha;obtain ⟨rb,b1,b2⟩:=hb;have la:=a2.1;have lb:=b2.1;exact m7 a1 b1 (by omega) λp H1 s1 h1=>⟨p,rfl,_,.inr h1,f++g,(a2.keep (TK.of s1)).app (b2.keep (TK.of s1)),by rw[aa5];exact hl,λc H' s2 hc=>q c H' (s1.trans s2) hc⟩
noncomputable abbrev j5:Stmt:=top 15
theorem Ct:aj ["one","other"] ["one","other"] (ae j5):=⟨rfl,rfl,rfl,by decide+kernel,rfl,by decide+kernel,by decide+kernel⟩
theorem Jr (G:Gs w K mg) (h_gathered:Has P w K mg base k "gathered" ["rows"] eo) (D:Def K mg "minus" j5 ["one","other"]):Has P w K mg base (k+1) "minus" ["one","other"] jr:=by
 refine D.has Ct (λvs H Q E h=>?_) (λf cdv A outer s H vs Q E hr h=>?_)
 ·obtain ⟨_,_,_,_,rfl,_,_,_,_⟩:=h;rfl
 have nd:=Ct.nd;have hu:=bu hr;have hu0:=aab hu;obtain ⟨a,b,f,g,rfl,ha,hb,hl,q⟩:=h;have m_tuple:=G.m_tuple;refine ⟨_,(A5 (A8 (A6 h_gathered hr (A1 (AA (@jq _) (A0 0 (by first | exact aa1 rfl | exact aa0 (aa1 rfl) | exact aa0 (aa0 rfl))) (AY (BA 0) m_tuple cu (A1 (B6 (AZ ["names","factor"] [] [] trivial trivial) (B5 (A0 1 (by first | exact aa1 rfl | exact aa0 (aa1 rfl) | exact aa0 (aa0 rfl)))) (λ_ _ _=>(BX K (AN (AV 0 (show abe (["names","factor"]:List Str) by decide+kernel) (by first | exact .inl rfl | exact .inr rfl | assumption)) (AN (AV 1 (show abe (["names","factor"]:List Str) by decide+kernel) (by first | exact .inl rfl | exact .inr rfl | assumption)) (B9 0))))) (λ_ _ _=>(@zg _)) (λ_ _ _=>(AE (A1 (A0 0 (by first | exact aa1 rfl | exact aa0 (aa1 rfl) | exact aa0 (aa0 rfl))) (A1 (BL (@m6 _) (A0 1 (by first | exact aa1 rfl | exact aa0 (aa1 rfl) | exact aa0 (aa0 rfl)))) (A2 0)))))) (A2 0)))) (A2 0))))),?_⟩;rw[show start ["one","other"] [.ref a,.ref b]=[some (.ref a),some (.ref b)] from rfl];clear hu hu0 nd hr;push_cast [eo];have sz:=sizeLine_eq;obtain ⟨ra,a1,a2⟩:=ha;obtain ⟨rb,b1,b2⟩:=id hb;have la:=a2.1;have ln:(mn g).length=g.length:=aa3 _;refine ⟨⟨rb,SqT.of b1⟩,λD hD=>Mg (λi ys H'=>bj H' ys ((mn g).take i)) (λi ys H1 H2 k h=>h.keep k) hb (by omega) hD (bj.nil _) (λi n c m ys H1 G' K' hi hm hP hl2 hS hG hK=>?_) λys H2 hP hl2 hS hD2=>?_⟩
 ·push_cast [and_true];refine ⟨by show (2:Nat)≤sizeLine;decide,λp hp=>hK _ _ (ab hp _) ?_⟩;have e:(mn g)[i]?=some (n,-c):=by
   unfold mn;rw[aae,hi];rfl
  rw[aan,e];exact (hP.keep (TK.of (ab hp _))).app (bj.one aa (ab hp _ _ _ hm))
 ·have hP:bj H2 ys (mn g):=by
   rw[←ln,aau] at hP;exact hP
  have ly:=hP.1;refine ⟨ys,.inl ⟨SqL.of hD2,λl hl3=>m7 (ab hl3 _ _ _ (hS _ _ a1)) aa (by omega) λp H3 s3 h3=>⟨p,rfl,_,.inr h3,f++mn g,?_,by rw[aa5];omega,λc H4 s4 hc=>q c H4 (((hS.trans (ab hl3 _)).trans s3).trans s4) hc⟩⟩⟩;exact (a2.keep (TK.of ((hS.trans (ab hl3 _)).trans s3))).app (hP.keep (TK.of ((ab hl3 _).trans s3)))
noncomputable abbrev ke:Stmt:=top 16
theorem Dt:aj ["one","other","rows","names","factor","more_names","more"] ["one","other"] (ae ke):=⟨rfl,rfl,rfl,by decide+kernel,rfl,by decide+kernel,by decide+kernel⟩
theorem Kd (G:Gs w K mg) (h_gathered:Has P w K mg base k "gathered" ["rows"] eo) (D:Def K mg "times" ke ["one","other"]):Has P w K mg base (k+1) "times" ["one","other"] p6:=by
 refine D.has Dt (λvs H Q E h=>?_) (λf cdv A outer s H vs Q E hr h=>?_)
 ·obtain ⟨_,_,_,_,rfl,_,_,_,_,_,_,_,_⟩:=h;rfl
 have nd:=Dt.nd;have hu:=bu hr;have hu0:=aab hu;have hu8:=sq hr;obtain ⟨a,b,f,g,rfl,ha,hb,hl,hf,hg,bf,bg,q⟩:=h;have m_sorted:=G.m_sorted;have m_tuple:=G.m_tuple;refine ⟨_,(A4 (A7 2 nd (by first | exact aa1 rfl | exact aa0 rfl) (AM (A2 0)) (by first | exact .inl rfl | exact .inr rfl | assumption)) (A4 (AS (B5 (A0 0 (by first | exact aa1 rfl | exact aa0 (aa1 rfl) | exact aa0 (aa0 rfl)))) (BG 2 (AN (AK 3 nd (by first | exact aa1 rfl | exact aa0 rfl) (by first | exact .inl rfl | exact .inr rfl | assumption)) (AN (AK 4 nd (by first | exact aa1 rfl | exact aa0 rfl) (by first | exact .inl rfl | exact .inr rfl | assumption)) (B9 0)))) (A5 (AS (B5 (A0 1 (by first | exact aa1 rfl | exact aa0 (aa1 rfl) | exact aa0 (aa0 rfl)))) (BG 2 (AN (AK 5 nd (by first | exact aa1 rfl | exact aa0 rfl) (by first | exact .inl rfl | exact .inr rfl | assumption)) (AN (AK 6 nd (by first | exact aa1 rfl | exact aa0 rfl) (by first | exact .inl rfl | exact .inr rfl | assumption)) (B9 0)))) (A5 (AR (AQ PySem.F.plainAttrs_list PySem.F.slot_list_append PySem.F.type_list_append (AW 0) (A0 2 (by first | exact aa1 rfl | exact aa0 (aa1 rfl) | exact aa0 (aa0 rfl))) (A1 (AE (A1 (AY (BA 0) m_tuple cu (A1 (AG (@km _) m_sorted xx (A1 (AA (@jq _) (A0 3 (by first | exact aa1 rfl | exact aa0 (aa1 rfl) | exact aa0 (aa0 rfl))) (A0 5 (by first | exact aa1 rfl | exact aa0 (aa1 rfl) | exact aa0 (aa0 rfl)))) (A2 0))) (A2 0))) (A1 (AA (@C4 _) (A0 4 (by first | exact aa1 rfl | exact aa0 (aa1 rfl) | exact aa0 (aa0 rfl))) (A0 6 (by first | exact aa1 rfl | exact aa0 (aa1 rfl) | exact aa0 (aa0 rfl)))) (A2 0)))) (A2 0)))))))) (A5 (A8 (A6 h_gathered hr (A1 (A0 2 (by first | exact aa1 rfl | exact aa0 (aa1 rfl) | exact aa0 (aa0 rfl))) (A2 0))))))),?_⟩;rw[show start ["one","other","rows","names","factor","more_names","more"] [.ref a,.ref b]=[some (.ref a),some (.ref b),none,none,none,none,none] from rfl];clear hu hu0 nd hr;push_cast [eo];have sz:=sizeLine_eq;obtain ⟨ra,a1,a2⟩:=ha;obtain ⟨rb,b1,b2⟩:=hb;have la:=a2.1;have lb:=b2.1;refine ⟨aac _,λp hp=>⟨⟨ra,SqT.of (ab hp _ _ _ a1)⟩,dm (xs:=ra) (λi σ H'=>∃(v3 v4 v5 v6:Option V) (ys:List V),σ=[some (.ref a),some (.ref b),some (.ref p),v3,v4,v5,v6]∧ag H H'∧H' p=some (.lst ys)∧bj H' ys (Fm.prod jS (f.take i) g)) ⟨none,none,none,none,[],rfl,ab hp _,aa,bj.nil _⟩ (λi σ H' _ h=>?_) ?_ ?_⟩⟩
 ·obtain ⟨_,_,_,_,_,_,s1,_⟩:=h;exact SqT.of (s1 _ _ a1)
 ·rintro i x σ H' hx ⟨v3,v4,v5,v6,ys,rfl,s1,hy,hY⟩;have hi:i < f.length:=by rw[←la];exact (List.getElem?_eq_some_iff.mp hx).1
  have hfi:f[i]?=some (f[i].1,f[i].2):=aa2 hi;obtain ⟨t,m,r1,r2,r3⟩:=a2.2 i f[i].1 f[i].2 hfi;rw[hx] at r1;cases r1
  obtain ⟨bf1,bf2⟩:=bf f[i] (abg hi);push_cast [ub,dz,xm];refine ⟨_,SqT.of (s1 _ _ r2),rfl,_,_,rfl,_,_,rfl,rfl,⟨rb,SqT.of (s1 _ _ b1)⟩,?_⟩;refine dm (xs:=rb) (λj σ H1=>∃(v5 v6:Option V) (ys:List V),σ=[some (.ref a),some (.ref b),some (.ref p),some (.ref m),some (.int f[i].2),v5,v6]∧ag H H1∧H1 p=some (.lst ys)∧bj H1 ys (Fm.prod jS (f.take i) g++(g.take j).map λq=>(jS f[i].1 q.1,f[i].2*q.2))) ⟨v5,v6,ys,rfl,s1,hy,by rw[ach,ac6,aaz];exact hY⟩ (λj σ H1 _ h=>?_) ?_ ?_
  ·obtain ⟨_,_,_,_,s2,_⟩:=h;exact SqT.of (s2 _ _ b1)
  ·rintro j x σ H1 hx2 ⟨v5,v6,ys,rfl,s2,hy2,hY2⟩;have hj:j < g.length:=by rw[←lb];exact (List.getElem?_eq_some_iff.mp hx2).1
   have hgj:g[j]?=some (g[j].1,g[j].2):=aa2 hj;obtain ⟨t2,m2,u1,u2,u3⟩:=b2.2 j g[j].1 g[j].2 hgj;rw[hx2] at u1;cases u1
   obtain ⟨bg1,bg2⟩:=bg g[j] (abg hj);push_cast [ub,dz,xm];refine ⟨_,SqT.of (s2 _ _ u2),rfl,_,_,rfl,_,_,rfl,rfl,bq hy2,?_⟩;have ll:(f[i].1.map V.str).length=f[i].1.length:=aa3 _;have lg:(g[j].1.map V.str).length=g[j].1.length:=aa3 _;refine m7 (s2 _ _ r3) (s2 _ _ u3) (by omega) λpc H3 s3 h3=>⟨pc,rfl,(f[i].1++g[j].1).map V.str,.inr (SqT.of (by rw[h3,aag])),by rw[aa3,aa5];omega,_,G4,λl is hpm hin hl3=>⟨_,.inl ⟨SqL.of aa,λl1 hl1=>⟨g[j].2,rfl,⟨bf2,bg2⟩,by show (2:Nat)≤sizeLine;decide,λp2 hp2=>?_⟩⟩⟩⟩;rw[xj hpm hin] at hl1 hp2 ⊢;have sA:ag H1 (upd H3 l (.lst ((gp (f[i].1++g[j].1)).map V.str))):=s3.trans (ab hl3 _);have sB:=(sA.trans (ab hl1 (.tup ((gp (f[i].1++g[j].1)).map V.str)))).trans (ab hp2 (.tup [.ref l1,.int (f[i].2*g[j].2)]));have ly:ys.length < sizeLine:=by
    rw[hY2.1,aa5,ij,aa3,aad,aad];have:min i f.length*g.length≤64*64:=ac8 (by omega) (by omega);omega
   have h4:=sB _ _ hy2;refine (bh (K:=K) h4 ly ⟨(s2.trans sB).upd hp _,_,aa,?_⟩).2;rw[aan,hgj,aag,←ab5];have tk:=TK.put (o':=.lst (ys++[.ref p2])) h4 λxs e=>by cases e
   exact ((hY2.keep (TK.of sB)).app (bj.one aa (ab hp2 _ _ _ aa))).keep tk
  ·rintro σ H1 ⟨v5,v6,ys,rfl,s2,hy2,hY2⟩;rw[lb,aau,←Eu hfi] at hY2;exact ⟨⟨_,_,_,_,rfl⟩,s2,ys,hy2,hY2⟩
 ·rintro σ H' ⟨v3,v4,v5,v6,ys,rfl,s1,hy,hY⟩;rw[la,aau] at hY;push_cast [eo];exact ⟨ys,.inl hy,Fm.prod jS f g,hY,by rw[ij];exact hl,λc H1 s2 hc=>q c H1 (s1.trans s2) hc⟩
noncomputable abbrev rf:Stmt:=top 17
theorem Ks:aj ["word"] ["word"] (ae rf):=⟨rfl,rfl,rfl,by decide+kernel,rfl,by decide+kernel,by decide+kernel⟩
theorem Mo (G:Gs w K mg) (h_gathered:Has P w K mg base k "gathered" ["rows"] eo) (h_how_many_below:Has P w K mg base k "how_many_below" ["word"] cz) (D:Def K mg "leaf_form" rf ["word"]):Has P w K mg base (k+1) "leaf_form" ["word"] rp:=by
 refine D.has Ks (λvs H Q E h=>?_) (λf cdv A outer s H vs Q E hr h=>?_)
 ·obtain ⟨_,rfl,_,_,_⟩:=h;rfl
 have nd:=Ks.nd;have hu:=bu hr;have hu0:=aab hu;obtain ⟨v,rfl,hv,q1,q2⟩:=h;have m_isinstance:=G.m_isinstance;have m_str:=G.m_str;refine ⟨_,(A4 (AD (AH (@og _) (A6 h_how_many_below hr (A1 (A0 0 (by first | exact aa1 rfl | exact aa0 (aa1 rfl) | exact aa0 (aa0 rfl))) (A2 0))) (A3 0) (AC 0)) (A5 (A8 (A0 0 (by first | exact aa1 rfl | exact aa0 (aa1 rfl) | exact aa0 (aa0 rfl))))) (AF 0)) (A4 (AD (B7 (AG (AT 0) m_isinstance aq (A1 (A0 0 (by first | exact aa1 rfl | exact aa0 (aa1 rfl) | exact aa0 (aa0 rfl))) (A1 (AU m_str lx) (A2 0))))) (A5 (A8 (AE (A1 (AE (A1 (AE (A1 (A0 0 (by first | exact aa1 rfl | exact aa0 (aa1 rfl) | exact aa0 (aa0 rfl))) (A2 0))) (A1 (A3 0) (A2 0)))) (A2 0))))) (AF 0)) (A5 (A8 (A6 h_gathered hr (A1 (AM (A1 (AE (A1 (AE (A2 0)) (A1 (A0 0 (by first | exact aa1 rfl | exact aa0 (aa1 rfl) | exact aa0 (aa0 rfl))) (A2 0)))) (A2 0))) (A2 0))))))),?_⟩;rw[show start ["word"] [v]=[some (v)] from rfl];clear hu hu0 nd hr;push_cast [eo,cz];refine .inl ⟨hv,cx (λh=>q1 (by omega)) λh=>?_⟩;have h0:arV v=0:=by omega
 obtain ⟨k',rfl⟩:=hv;cases k' with
 | inl n=>
  refine ⟨_,.int n,false,rfl,jv ⟨aac _,λp hp=>⟨by show (2:Nat)≤sizeLine;decide,λp1 hp1=>⟨by show (1:Nat)≤sizeLine;decide,λp2 hp2=>⟨_,.inl aa,[([],n)],bj.one (ab hp2 _ _ _ aa) (ab hp2 _ _ _ (ab hp1 _ _ _ aa)),by show (1:Nat) < 64;decide,λb H' s1 hb=>q2 h0 b H' (((ab hp _).trans (ab hp1 _)).trans ((ab hp2 _).trans s1)) hb⟩⟩⟩⟩⟩
 | inr z=>
  refine ⟨_,.str z,true,rfl,iy ⟨by show (1:Nat)≤sizeLine;decide,λp hp=>⟨by show (2:Nat)≤sizeLine;decide,λp1 hp1=>⟨by show (1:Nat)≤sizeLine;decide,λp2 hp2=>?_⟩⟩⟩⟩;exact q2 h0 p2 _ (((ab hp _).trans (ab hp1 _)).trans (ab hp2 _)) ⟨_,aa,bj.one (ab hp2 _ _ _ aa) (ab hp2 _ _ _ (ab hp1 _ _ _ aa))⟩
noncomputable abbrev j0:Stmt:=top 18
theorem C5:aj ["word","parts"] ["word","parts"] (ae j0):=⟨rfl,rfl,rfl,by decide+kernel,rfl,by decide+kernel,by decide+kernel⟩
theorem G3 (G:Gs w K mg) (h_minus:Has P w K mg base k "minus" ["one","other"] jr) (h_plus:Has P w K mg base k "plus" ["one","other"] w6) (h_times:Has P w K mg base k "times" ["one","other"] p6) (D:Def K mg "joined_forms" j0 ["word","parts"]):Has P w K mg base (k+1) "joined_forms" ["word","parts"] eg:=by
 refine D.has C5 (λvs H Q E h=>?_) (λf cdv A outer s H vs Q E hr h=>?_)
 ·obtain ⟨_,_,_,_,rfl,_,_,_,_,_,_⟩:=h;rfl
 have nd:=C5.nd;have hu:=bu hr;have hu0:=aab hu;obtain ⟨z,pl,rs,fs,rfl,hz,hp,hF,hl,hb,q⟩:=h;refine ⟨_,(A4 (AD (AH (AL 0) (A0 0 (by first | exact aa1 rfl | exact aa0 (aa1 rfl) | exact aa0 (aa0 rfl))) (A9 0) (AC 0)) (A5 (A8 (A6 h_plus hr (A1 (AB (AJ 0) (A0 1 (by first | exact aa1 rfl | exact aa0 (aa1 rfl) | exact aa0 (aa0 rfl))) (A3 0)) (A1 (AB (AJ 0) (A0 1 (by first | exact aa1 rfl | exact aa0 (aa1 rfl) | exact aa0 (aa0 rfl))) (A3 0)) (A2 0)))))) (AF 0)) (A4 (AD (AH (AL 0) (A0 0 (by first | exact aa1 rfl | exact aa0 (aa1 rfl) | exact aa0 (aa0 rfl))) (A9 0) (AC 0)) (A5 (A8 (A6 h_minus hr (A1 (AB (AJ 0) (A0 1 (by first | exact aa1 rfl | exact aa0 (aa1 rfl) | exact aa0 (aa0 rfl))) (A3 0)) (A1 (AB (AJ 0) (A0 1 (by first | exact aa1 rfl | exact aa0 (aa1 rfl) | exact aa0 (aa0 rfl))) (A3 0)) (A2 0)))))) (AF 0)) (A4 (AD (AH (AL 0) (A0 0 (by first | exact aa1 rfl | exact aa0 (aa1 rfl) | exact aa0 (aa0 rfl))) (A9 0) (AC 0)) (A5 (A8 (A6 h_times hr (A1 (AB (AJ 0) (A0 1 (by first | exact aa1 rfl | exact aa0 (aa1 rfl) | exact aa0 (aa0 rfl))) (A3 0)) (A1 (AB (AJ 0) (A0 1 (by first | exact aa1 rfl | exact aa0 (aa1 rfl) | exact aa0 (aa0 rfl))) (A3 0)) (A2 0)))))) (AF 0)) (A5 (A8 (A6 h_minus hr (A1 (AE (A2 0)) (A1 (AB (AJ 0) (A0 1 (by first | exact aa1 rfl | exact aa0 (aa1 rfl) | exact aa0 (aa0 rfl))) (A3 0)) (A2 0))))))))),?_⟩;rw[show start ["word","parts"] [.str z,.ref pl]=[some (.str z),some (.ref pl)] from rfl];clear hu hu0 nd hr;push_cast [jr,w6,p6];have lr:=hF.1;have two:arS z=2→∃a b f g,rs=[.ref a,.ref b]∧fs=[f,g]∧au H a f∧au H b g:=λh2=>by
  rw[h2] at hl;match fs,hl with
  | [f,g],_=>
   obtain ⟨a,h1,h3⟩:=hF.2 0 f rfl;obtain ⟨b,h4,h5⟩:=hF.2 1 g rfl;match rs,lr with
   | [x,y],_=>
    cases h1
    cases h4
    exact ⟨a,b,f,g,rfl,rfl,h3,h5⟩
 refine ⟨rfl,cx (λe=>?_) λn1=>⟨rfl,cx (λe=>?_) λn2=>⟨rfl,cx (λe=>?_) λn3=>⟨aac _,λp hp0=>?_⟩⟩⟩⟩
 ·obtain ⟨a,b,f,g,rfl,rfl,h1,h2⟩:=two (by rw[e];decide+kernel);refine aw hp rfl (aw hp rfl ⟨a,rfl,b,rfl,f,h1,g,h2,(hb.2 f g rfl).1,λc H' s1 hc=>q c H' s1 ?_⟩);show au H' c (opF z f g)
  rw[show opF z f g=yg f g from if_pos e];exact hc
 ·obtain ⟨a,b,f,g,rfl,rfl,h1,h2⟩:=two (by rw[e];decide+kernel);refine aw hp rfl (aw hp rfl ⟨a,rfl,b,rfl,f,h1,g,h2,(hb.2 f g rfl).1,λc H' s1 hc=>q c H' s1 ?_⟩);show au H' c (opF z f g)
  rw[show opF z f g=ik f g by unfold opF;rw[if_neg n1,if_pos e]];exact hc
 ·obtain ⟨a,b,f,g,rfl,rfl,h1,h2⟩:=two (by rw[e];decide+kernel);have k1:=hb.1 f aa8;have k2:=hb.1 g (aa7 _ aa8);refine aw hp rfl (aw hp rfl ⟨a,rfl,b,rfl,f,h1,g,h2,(hb.2 f g rfl).2,k1.1,k2.1,k1.2,k2.2,λc H' s1 hc=>q c H' s1 ?_⟩);show au H' c (opF z f g)
  rw[show opF z f g=Bo f g by unfold opF;rw[if_neg n1,if_neg n2,if_pos e]];exact hc
 ·have h1:arS z=1:=by
   rcases cq hz with k | k | k | k
   ·exact absurd k n1
   ·exact absurd k n2
   ·exact absurd k n3
   ·rw[k];exact qq
  rw[h1] at hl;match fs,hl with
  | [f],_=>
   obtain ⟨a,h2,h3⟩:=hF.2 0 f rfl;match rs,lr with
   | [x],_=>
    cases h2
    have k1:=hb.1 f aa8;refine aw (ab hp0 _ _ _ hp) rfl ⟨a,rfl,[],⟨[],aa,bj.nil _⟩,f,h3.keep (TK.of (ab hp0 _)),by show 0+f.length < 64;omega,λc H' s1 hc=>q c H' ((ab hp0 _).trans s1) ?_⟩;show au H' c (opF z f [])
    rw[show opF z f []=ik [] f by unfold opF;rw[if_neg n1,if_neg n2,if_neg n3]];exact hc
noncomputable abbrev tf:Stmt:=top 11
theorem Ir:aj ["words","joined","done","word","parts","part"] ["words","joined"] (ae tf):=⟨rfl,rfl,rfl,by decide+kernel,rfl,by decide+kernel,by decide+kernel⟩
theorem M4 (G:Gs w K mg) (h_how_many_below:Has P w K mg base k "how_many_below" ["word"] cz) (hk3:3≤k) (D:Def K mg "folded" tf ["words","joined"]):Has P w K mg base (k+1) "folded" ["words","joined"] (xb P w K mg base):=by
 refine D.has Ir (λvs H Q E h=>?_) (λf cdv A outer s H vs Q E hr h=>?_)
 ·rcases h with ⟨_,_,_,rfl,_,_,_,_,_,_⟩ | ⟨_,_,_,_,_,rfl,_,_,_,_,_,_,_⟩ <;> rfl
 have nd:=Ir.nd;have hu:=bu hr;have hu0:=aab hu;have m_len:=G.m_len;have m_range:=G.m_range;have m_reversed:=G.m_reversed;refine ⟨_,(A4 (A7 2 nd (by first | exact aa1 rfl | exact aa0 rfl) (AM (A2 0)) (by first | exact .inl rfl | exact .inr rfl | assumption)) (A4 (AS (@pi_rev _ _ _ _ _ _ rfl m_reversed (A1 (A0 0 (by first | exact aa1 rfl | exact aa0 (aa1 rfl) | exact aa0 (aa0 rfl))) (A2 0)) (by rfl)) (AK 3 nd (by first | exact aa1 rfl | exact aa0 rfl) (by first | exact .inl rfl | exact .inr rfl | assumption)) (A4 (A7 4 nd (by first | exact aa1 rfl | exact aa0 rfl) (AM (A2 0)) (by first | exact .inl rfl | exact .inr rfl | assumption)) (A4 (AS (BI m_range (A1 (A6 h_how_many_below hr (A1 (A0 3 (by first | exact aa1 rfl | exact aa0 (aa1 rfl) | exact aa0 (aa0 rfl))) (A2 0))) (A2 0))) (AK 5 nd (by first | exact aa1 rfl | exact aa0 rfl) (by first | exact .inl rfl | exact .inr rfl | assumption)) (A5 (AR (AQ PySem.F.plainAttrs_list PySem.F.slot_list_append PySem.F.type_list_append (AW 0) (A0 4 (by first | exact aa1 rfl | exact aa0 (aa1 rfl) | exact aa0 (aa0 rfl))) (A1 (BY PySem.F.plainAttrs_list PySem.F.slot_list_pop PySem.F.type_list_pop (@Bl _) (A0 2 (by first | exact aa1 rfl | exact aa0 (aa1 rfl) | exact aa0 (aa0 rfl)))) (A2 0)))))) (A5 (AR (AQ PySem.F.plainAttrs_list PySem.F.slot_list_append PySem.F.type_list_append (AW 0) (A0 2 (by first | exact aa1 rfl | exact aa0 (aa1 rfl) | exact aa0 (aa0 rfl))) (A1 (BZ (AH (@og _) (AG (AX 0) m_len d8 (A1 (A0 4 (by first | exact aa1 rfl | exact aa0 (aa1 rfl) | exact aa0 (aa0 rfl))) (A2 0))) (A3 0) (AC 0)) (@Ko _ _ _ _ _ _ _ _ 1 ["word","parts"] rfl (by first | exact aa1 rfl | exact aa0 (aa1 rfl) | exact aa0 (aa0 rfl)) hr (A1 (A0 3 (by first | exact aa1 rfl | exact aa0 (aa1 rfl) | exact aa0 (aa0 rfl))) (A1 (A0 4 (by first | exact aa1 rfl | exact aa0 (aa1 rfl) | exact aa0 (aa0 rfl))) (A2 0))) (by decide+kernel) (by decide+kernel) (by rfl) (by rfl)) (A0 3 (by first | exact aa1 rfl | exact aa0 (aa1 rfl) | exact aa0 (aa0 rfl)))) (A2 0)))))))) (A5 (A8 (AB (AJ 0) (A0 2 (by first | exact aa1 rfl | exact aa0 (aa1 rfl) | exact aa0 (aa0 rfl))) (A3 0)))))),?_⟩;rcases h with ⟨l,fv,ws,rfl,hF,hL,hw,hT,hlen,q⟩ | ⟨l,fv,us,ws,S,rfl,hF,hL,hU,hw,hT,hlen,q⟩
 ·rw[show start ["words","joined","done","word","parts","part"] [.ref l,fv]=[some (.ref l),some (fv),none,none,none,none] from rfl];clear hu hu0 nd hr;push_cast [cz];have sz:=sizeLine_eq;have hF':=hF.up (aal (by decide) hk3);refine ⟨aac _,λp hp=>⟨ws,(ab hp _).seq hL,?_⟩⟩;have sub:∀i,∃m,pend m ((ws.drop i).map arV)=some 0:=λi=>by
   have:=jj (ws.map arV) 1 hT i;rw[←acp] at this;exact this
  have hwd:∀i,∀v∈ws.drop i,numW v∧xt v:=λi v hv=>hw v (abd hv);refine zh (xs:=ws) (λi σ H'=>∃(v1 v2 v3:Option V),σ=[some (.ref l),some fv,some (.ref p),v1,v2,v3]∧ag H H'∧H' p=some (.lst ((runN (ws.drop (ws.length - i))).reverse.map V.int))) ⟨none,none,none,rfl,ab hp _,?_⟩ (λi σ H' _ h=>?_) ?_ ?_
  ·rw[adi,ac9];exact aa
  ·obtain ⟨_,_,_,_,s1,_⟩:=h;exact s1.seq hL
  ·rintro i x σ H' hi hx ⟨v1,v2,v3,rfl,s1,hd⟩;push_cast [cz];have e1:ws.drop (ws.length - (i+1))=x::ws.drop (ws.length - i):=by
    rw[show ws.length - (i+1)=ws.length - 1 - i by omega,aay (by omega),show ws.length - 1 - i+1=ws.length - i by omega];congr 1
    rw[aa2 (by omega)] at hx;exact aa6 hx
   obtain ⟨m,hm⟩:=sub (ws.length - (i+1));rw[e1] at hm ⊢;obtain ⟨m',rfl⟩:∃m',m=m'+1:=by
    cases m with
    | zero=>cases hm
    | succ m'=>exact ⟨m',rfl⟩
   have hm':pend (m'+arV x) ((ws.drop (ws.length - i)).map arV)=some 0:=hm;have hx':=hw x (aam hx);have hst:=lq _ _ (λv hv=>(hwd (ws.length - i) v hv).1) hm';have hbits:=λy hy=>yz (x:=y) (hwd (ws.length - i)) hm' (by rw[aao];omega) hy;have hmle:=wx _ _ hm';rw[aa3,aao] at hmle;replace hmle:m'+arV x≤i:=by omega
   rw[nv];generalize runN (ws.drop (ws.length - i))=st at hd hst hbits ⊢;have hisW:isW x:=by
    cases x with
    | int n=>exact isW.int n
    | str z=>exact isW.str z
    | _=>exact hx'.1.elim
   refine ⟨aac _,λp1 hp1=>.inl ⟨hisW,by omega,by have:=Jl x;omega,?_⟩⟩;have hpn:H p1=none:=s1.free hp1;have npp:p≠p1:=ah hd hp1;refine e7 (lo:=0) (λj σ H1=>∃v,σ=[some (.ref l),some fv,some (.ref p),some x,some (.ref p1),v]∧ag H H1∧H1 p=some (.lst ((st.drop j).reverse.map V.int))∧H1 p1=some (.lst ((st.take j).map V.int))) ⟨v3,rfl,s1.upd hpn _,by rw[af npp];exact hd,aa⟩ ?_ ?_
   ·rintro j σ H1 hj ⟨v,rfl,s2,hp2,hq2⟩;push_cast [and_true];have hj':j < st.length:=by omega
    have ed:(st.drop j).reverse.map V.int=(st.drop (j+1)).reverse.map V.int++[V.int st[j]]:=by
     rw[aay hj',abl,aag];rfl
    rw[ed] at hp2;refine ⟨bq hq2,?_⟩;refine xi hp2 ?_;refine (bh (K:=K) (by rw[af npp.symm];exact hq2) (by rw[aa3,aad];omega) ⟨(s2.upd hp _).upd hpn _,by rw[af npp,aa],?_⟩).2;rw[aa,aan,aa2 hj',aag];rfl
   ·rintro σ H1 ⟨v,rfl,s2,hp2,hq2⟩;push_cast [and_true];have hA:(((arV x:Nat):Int)).toNat=arV x:=abk _;rw[hA] at hp2 hq2;have fin:∀(y:Int) (H2:Hp),Ek x st=y::st.drop (arV x)→ag H1 H2→m4 (.ref p) [.int y] H2 λ_ H3=>ag H H3∧H3 p=some (.lst ((Ek x st).reverse.map V.int)):=by
     intro y H2 ey s3;refine (bh (K:=K) (s3 _ _ hp2) (by rw[aa3,aby,aao];omega) ⟨(s2.trans s3).upd hp _,?_⟩).2;rw[aa,ey,abl,aag];rfl
    refine ⟨bq hp2,(st.take (arV x)).map V.int,.inl (SqL.of hq2),?_⟩;have htl:(((st.take (arV x)).map V.int).length:Int)=(arV x:Int):=by rw[aa3,aad];omega
    rw[htl];cases x with
    | int n=>
     rw[if_neg (by show ¬(0:Int) < ((0:Nat):Int);omega)];exact fin n H1 rfl (ag.refl _)
    | str z=>
     have hz:0 < arS z:=hx'.1;rw[if_pos (by show (0:Int) < ((arS z:Nat):Int);omega)];refine ⟨C6,hF',z,p1,st.take (arS z),rfl,hz,hq2,by rw[aad];have:arV (.str z)=arS z:=rfl;omega,λy hy=>hbits y (abj hy),?_⟩;refine fin _ H1 ?_ (ag.refl _);show opN z (st.getD 0 0) (st.getD 1 0)::st.drop (arS z)=_
     rw[Mx hz];rfl
    | _=>exact hx'.1.elim
  ·rintro σ H' ⟨v1,v2,v3,rfl,s1,hd⟩;push_cast [and_true];rw[abq,acg] at hd;have h1:=lq ws 1 (λv hv=>(hw v hv).1) hT;obtain ⟨x,hx⟩:∃x,runN ws=[x]:=by
    match runN ws,h1 with
    | [x],_=>exact ⟨x,rfl⟩
   rw[hx] at hd;have q':=q H' s1;rw[hx] at q';exact aw hd rfl q'
 ·rw[show start ["words","joined","done","word","parts","part"] [.ref l,fv]=[some (.ref l),some (fv),none,none,none,none] from rfl];clear hu hu0 nd hr;push_cast [cz];have sz:=sizeLine_eq;have hF':=hF.up hk3;have lu:=hU.1;refine ⟨aac _,λp hp=>⟨us,(ab hp _).seq hL,?_⟩⟩;have sub:∀i,∃m,pend m ((ws.drop i).map arV)=some 0:=λi=>by
   have:=jj (ws.map arV) 1 hT i;rw[←acp] at this;exact this
  have hwd:∀i,∀v∈ws.drop i,oo S v:=λi v hv=>hw v (abd hv);refine zh (xs:=us) (λi σ H'=>∃(v1 v2 v3:Option V) (ss:List V),σ=[some (.ref l),some fv,some (.ref p),v1,v2,v3]∧ag H H'∧H' p=some (.lst ss.reverse)∧bt H' ss (oz (ws.drop (ws.length - i)))) ⟨none,none,none,[],rfl,ab hp _,aa,?_⟩ (λi σ H' _ h=>?_) ?_ ?_
  ·rw[adi,ac9];exact bt.nil _
  ·obtain ⟨_,_,_,_,_,s1,_⟩:=h;exact s1.seq hL
  ·rintro i x σ H' hi hx ⟨v1,v2,v3,ss,rfl,s1,hd,hFs⟩;push_cast [cz];rw[lu] at hi hx;have hlt:ws.length - 1 - i < ws.length:=by omega
   obtain ⟨u1,u2⟩:=hU.2 (ws.length - 1 - i) ws[ws.length - 1 - i] (aa2 hlt);have hy:=hw ws[ws.length - 1 - i] (abg hlt);have e1:ws.drop (ws.length - (i+1))=ws[ws.length - 1 - i]::ws.drop (ws.length - i):=by
    rw[show ws.length - (i+1)=ws.length - 1 - i by omega,aay (by omega),show ws.length - 1 - i+1=ws.length - i by omega]
   rw[hx] at u1 u2;generalize ws[ws.length - 1 - i]=y at u1 u2 hy e1;obtain ⟨m,hm⟩:=sub (ws.length - (i+1));rw[e1] at hm ⊢;obtain ⟨m',rfl⟩:∃m',m=m'+1:=by
    cases m with
    | zero=>cases hm
    | succ m'=>exact ⟨m',rfl⟩
   have hm':pend (m'+arV y) ((ws.drop (ws.length - i)).map arV)=some 0:=hm;have ld:(ws.drop (ws.length - i)).length≤11:=by rw[aao];omega
   have hst:=nc _ _ hm';have hjb:=m5.jb (m5.run (hwd (ws.length - i)) hm' (by omega)) ld;have hmle:=wx _ _ hm';rw[aa3,aao] at hmle;replace hmle:m'+arV y≤i:=by omega
   rw[gc];generalize oz (ws.drop (ws.length - i))=st at hFs hst hjb ⊢;have lss:ss.length=st.length:=hFs.1;rcases ac2 (arV y) with h0 | h0
   ·obtain ⟨a,ha,hfa⟩:=u2 h0;cases ha
    refine ⟨aac _,λp1 hp1=>?_⟩;have hpn:H p1=none:=s1.free hp1;have npp:p≠p1:=ah hd hp1;have hfa':au (upd H' p1 (.lst [])) a (bz y):=hfa.keep (TK.of (s1.trans (ab hp1 _)));obtain ⟨rs,r1,r2⟩:=id hfa';refine .inr ⟨a,rfl,rs,r1,r2.nst,?_⟩;refine e7 (lo:=0) (λj σ H1=>∃v,σ=[some (.ref l),some fv,some (.ref p),some (.ref a),some (.ref p1),v]∧H1=upd H' p1 (.lst [])) ⟨v3,rfl,rfl⟩ ?_ ?_
    ·rintro j σ H1 hj _;exact absurd hj (by show ¬j < 0;omega)
    ·rintro σ H1 ⟨v,rfl,rfl⟩;push_cast [and_true];have hd2:upd H' p1 (.lst []) p=some (.lst ss.reverse):=ab hp1 _ _ _ hd;refine ⟨bq hd2,[],.inl (SqL.of aa),?_⟩;rw[if_neg (by decide)];refine (bh (K:=K) hd2 (by rw[aby];omega) ⟨(s1.upd hpn _).upd hp _,.ref a::ss,by rw[aa,abl],?_⟩).2;rw[fe h0];have tk:=TK.put (o':=.lst (ss.reverse++[.ref a])) hd2 λxs e=>by cases e
     exact ((hFs.keep (TK.of (ab hp1 _))).cons hfa').keep tk
   ·obtain ⟨z,rfl,hz⟩:=lz h0;cases u1 h0
    have ar2:=fu (z:=z);have ez:arV (.str z)=arS z:=rfl;refine ⟨aac _,λp1 hp1=>.inl ⟨isW.str z,by omega,by omega,?_⟩⟩;have hpn:H p1=none:=s1.free hp1;have npp:p≠p1:=ah hd hp1;refine e7 (lo:=0) (λj σ H1=>∃v,σ=[some (.ref l),some fv,some (.ref p),some (.str z),some (.ref p1),v]∧ag H H1∧H1 p=some (.lst (ss.drop j).reverse)∧H1 p1=some (.lst (ss.take j))∧bt H1 ss st) ⟨v3,rfl,s1.upd hpn _,by rw[af npp];exact hd,aa,hFs.keep (TK.of (ab hp1 _))⟩ ?_ ?_
    ·rintro j σ H1 hj ⟨v,rfl,s2,hp2,hq2,hF2⟩;push_cast [and_true];have hj':j < ss.length:=by omega
     have ed:(ss.drop j).reverse=(ss.drop (j+1)).reverse++[ss[j]]:=by
      rw[aay hj',abl]
     rw[ed] at hp2;refine ⟨bq hq2,?_⟩;have hq3:upd H1 p (.lst (ss.drop (j+1)).reverse) p1=some (.lst (ss.take j)):=by rw[af npp.symm];exact hq2
     refine xi hp2 ?_;refine (bh (K:=K) hq3 (by rw[aad];omega) ⟨(s2.upd hp _).upd hpn _,by rw[af npp,aa],?_,(hF2.keep (TK.put hp2 λxs e=>by cases e)).keep (TK.put hq3 λxs e=>by cases e)⟩).2;rw[aa,aan,aa2 hj'];rfl
    ·rintro σ H1 ⟨v,rfl,s2,hp2,hq2,hF2⟩;push_cast [and_true];have hA:(((arV (.str z):Nat):Int)).toNat=arS z:=abk _;rw[hA] at hp2 hq2;refine ⟨bq hp2,ss.take (arS z),.inl (SqL.of hq2),?_⟩;have htl:(((ss.take (arS z)).length:Nat):Int)=(arS z:Int):=by rw[aad];omega
     rw[htl,if_pos (by omega)];refine ⟨eg,hF',z,p1,ss.take (arS z),st.take (arS z),rfl,hz,hq2,hF2.take _,by rw[aad];omega,hjb _,λb H3 s3 hb=>?_⟩;rw[Hn hz] at hb;refine (bh (K:=K) (s3 _ _ hp2) (by rw[aby,aao];omega) ⟨(s2.trans s3).upd hp _,.ref b::ss.drop (arS z),by rw[aa,abl],?_⟩).2;rw[mj hz];exact (((hF2.keep (TK.of s3)).drop _).cons hb).keep (TK.put (s3 _ _ hp2) λxs e=>by cases e)
  ·rintro σ H' ⟨v1,v2,v3,ss,rfl,s1,hd,hFs⟩;push_cast [and_true];rw[lu,abq,acg,jf hT] at hFs;obtain ⟨a,h1,h2⟩:=hFs.2 0 _ rfl;have lss:=hFs.1;match ss,lss,h1 with
   | [y],_,h1=>
    cases h1
    exact aw hd rfl (q a H' s1 h2)
noncomputable abbrev h7:Stmt:=top 19
theorem yq:aj ["words"] ["words"] (ae h7):=⟨rfl,rfl,rfl,by decide+kernel,rfl,by decide+kernel,by decide+kernel⟩
theorem Gf (G:Gs w K mg) (h_folded:Has P w K mg base k "folded" ["words","joined"] (xb P w K mg base)) (h_joined_forms:Has P w K mg base k "joined_forms" ["word","parts"] eg) (h_leaf_form:Has P w K mg base k "leaf_form" ["word"] rp) (hj3:Has P w K mg base 3 "joined_forms" ["word","parts"] eg) (D:Def K mg "form_of" h7 ["words"]):Has P w K mg base (k+1) "form_of" ["words"] (dw K):=by
 refine D.has yq (λvs H Q E h=>?_) (λf cdv A outer s H vs Q E hr h=>?_)
 ·obtain ⟨_,_,_,rfl,_,_,_,_,_⟩:=h;rfl
 have nd:=yq.nd;have hu:=bu hr;have hu0:=aab hu;obtain ⟨t,ws,S,rfl,hT,hw,hi,hl,q⟩:=h;obtain ⟨a_joined_forms,m_joined_forms,v_joined_forms⟩:=hj3.val;refine ⟨_,(A5 (A8 (A6 h_folded hr (A1 (B6 (AZ ["word"] [] [] trivial trivial) (B5 (A0 0 (by first | exact aa1 rfl | exact aa0 (aa1 rfl) | exact aa0 (aa0 rfl)))) (λ_ _ _=>(AV 0 (show abe (["word"]:List Str) by decide+kernel) (by first | exact .inl rfl | exact .inr rfl | assumption))) (λ_ _ _=>(@zg _)) (λ_ _ _=>(A6 h_leaf_form hr (A1 (A0 0 (by first | exact aa1 rfl | exact aa0 (aa1 rfl) | exact aa0 (aa0 rfl))) (A2 0))))) (A1 (@Ej _ _ _ _ m_joined_forms (by rfl) (by decide+kernel)) (A2 0)))))),?_⟩;rw[show start ["words"] [.ref t]=[some (.ref t)] from rfl];clear hu hu0 nd hr;push_cast [xb,eg,rp,Dy,Eg];have sz:=sizeLine_eq;refine ⟨⟨ws,hT⟩,λD hD=>Dr (λi ys H'=>tp H' ys (ws.take i)) (λi ys H1 H2 k h=>⟨h.1,λj w' hj=>⟨(h.2 j w' hj).1,λh0=>?_⟩⟩) hT (by omega) hD ⟨rfl,λj w' hj=>by simp at hj⟩ (λi x ys H1 G' K' hx hP hl2 hS hG hK=>?_) λys H2 hP hl2 hS hD2=>?_⟩
 ·obtain ⟨a,h1,h2⟩:=(h.2 j w' hj).2 h0;exact ⟨a,h1,h2.keep k⟩
 ·push_cast [rp];have hi:i < ws.length:=(List.getElem?_eq_some_iff.mp hx).1;have lt':(ws.take i).length=i:=by rw[aad];omega
  have ly:ys.length=i:=hP.1.trans lt';have more:∀(y:V) (H4:Hp),ag H1 H4→(0 < arV x→y=x)→(arV x=0→∃a,y=.ref a∧au H4 a (bz x))→tp H4 (ys++[y]) (ws.take (i+1)):=λy H4 s4 k1 k2=>by
   rw[aan,hx];refine ⟨by rw[aa5,aa5,hP.1];rfl,λj w' hj=>?_⟩;by_cases hji:j < i
   ·rw[aax (by omega)] at hj;rw[aax (by omega)];refine ⟨(hP.2 j w' hj).1,λh0=>?_⟩;obtain ⟨a,h1,h2⟩:=(hP.2 j w' hj).2 h0;exact ⟨a,h1,h2.keep (TK.of s4)⟩
   ·have hl3:=(List.getElem?_eq_some_iff.mp hj).1;rw[aa5,lt'] at hl3;have e:j=i:=by
     have:j < i+1:=hl3;omega
    subst e;rw[aar (by omega),lt',abq] at hj;have e:x=w':=aa6 hj;subst e;rw[aar (by omega),ly,abq];refine ⟨λh=>by rw[k1 h];rfl,λh=>?_⟩;obtain ⟨a,rfl,h2⟩:=k2 h;exact ⟨a,rfl,h2⟩
  refine ⟨(hw x (aam hx)).isW,λh=>hK _ _ (ag.refl _) (more x _ (ag.refl _) (λ_=>rfl) λh0=>absurd h (by omega)),λh b H4 s4 hb=>hK _ _ s4 (more (.ref b) H4 s4 (λh0=>absurd h0 (by omega)) λ_=>⟨b,rfl,hb⟩)⟩
 ·rw[aau] at hP;exact .inr ⟨v_joined_forms,ys,SqL.of hD2,ws,hP,⟨S,hw⟩,hi,hl,λb H3 s3 hb=>q b H3 (hS.trans s3) hb⟩
noncomputable abbrev Bu:Stmt:=top 10
theorem scOne:aj ["words","lacking","word"] ["words"] (ae Bu):=⟨rfl,rfl,rfl,by decide+kernel,rfl,by decide+kernel,by decide+kernel⟩
theorem hasOne (G:Gs w K mg) (h_how_many_below:Has P w K mg base k "how_many_below" ["word"] cz) (D:Def K mg "is_one_term" Bu ["words"]):Has P w K mg base (k+1) "is_one_term" ["words"] (Eb K):=by
 refine D.has scOne (λvs H Q E h=>?_) (λf cdv A outer s H vs Q E hr h=>?_)
 ·obtain ⟨_,_,rfl,_,_,_,_⟩:=h;rfl
 have nd:=scOne.nd;have hu:=bu hr;have hu0:=aab hu;obtain ⟨t,ws,rfl,hT,hw,hl,q⟩:=h;refine ⟨_,(A4 (A7 1 nd (by first | exact aa1 rfl | exact aa0 rfl) (A3 0) (by first | exact .inl rfl | exact .inr rfl | assumption)) (A4 (AS (B5 (A0 0 (by first | exact aa1 rfl | exact aa0 (aa1 rfl) | exact aa0 (aa0 rfl)))) (AK 2 nd (by first | exact aa1 rfl | exact aa0 rfl) (by first | exact .inl rfl | exact .inr rfl | assumption)) (A4 (AD (AH (AL 0) (A0 1 (by first | exact aa1 rfl | exact aa0 (aa1 rfl) | exact aa0 (aa0 rfl))) (A3 0) (AC 0)) (A5 (A8 (@Dj _ _ _ _))) (AF 0)) (A5 (A7 1 nd (by first | exact aa1 rfl | exact aa0 rfl) (AA (AO 0) (AA (@ky _) (A0 1 (by first | exact aa1 rfl | exact aa0 (aa1 rfl) | exact aa0 (aa0 rfl))) (A3 0)) (A6 h_how_many_below hr (A1 (A0 2 (by first | exact aa1 rfl | exact aa0 (aa1 rfl) | exact aa0 (aa0 rfl))) (A2 0)))) (by first | exact .inl rfl | exact .inr rfl | assumption))))) (A5 (A8 (B8 (AL 0) (A0 1 (by first | exact aa1 rfl | exact aa0 (aa1 rfl) | exact aa0 (aa0 rfl))) (A3 0) (AC 0)))))),?_⟩;rw[show start ["words","lacking","word"] [.ref t]=[some (.ref t),none,none] from rfl];clear hu hu0 nd hr;push_cast [cz,scal];refine ⟨⟨ws,hT⟩,dm (xs:=ws) (λi σ H'=>∃(d:Nat) (v:Option V),σ=[some (.ref t),some (.int (d:Int)),v]∧H'=H∧pend 1 ((ws.take i).map arV)=some d) ⟨1,none,rfl,rfl,rfl⟩ (λi σ H' _ h=>?_) ?_ ?_⟩
 ·obtain ⟨_,_,_,rfl,_⟩:=h;exact hT
 ·rintro i x σ H' hx ⟨d,v,rfl,rfl,hp⟩;push_cast [cz,scal];have ht:ws.take (i+1)=ws.take i++[x]:=by rw[aan,hx];rfl
  have hm:ws.map arV=(ws.take i).map arV++(ws.drop i).map arV:=by rw[←aag,ab3]
  have hi:i < ws.length:=(List.getElem?_eq_some_iff.mp hx).1;refine cx (λc=>?_) λc=>.inl ⟨hw x (aam hx),d - 1+arV x,by omega,?_⟩
  ·have d0:d=0:=by omega
   subst d0;have e:decide (pend 1 (ws.map arV)=some 0)=false:=by
    apply decide_eq_false
    rw[hm,kn,hp];have hne:(ws.drop i).map arV≠[]:=by
     intro z;have:=congrArg aeg z;rw[aa3,aao] at this;simp at this;omega
    obtain ⟨a,r,e⟩:=abv hne;rw[e];simp[pend]
   rw[e] at q;exact q
  ·rw[ht,aag];exact vo _ _ _ _ hp (by omega)
 ·rintro σ H' ⟨d,v,rfl,rfl,hp⟩;push_cast [scal];rw[aau] at hp;rw[hp] at q;have e:decide (some d=some 0)=decide ((d:Int)=0):=by
   apply decide_eq_decide.mpr
   rw[aef];omega
  rw[e] at q;exact q
noncomputable abbrev j4:Stmt:=top 26
theorem Ee:aj ["word","kinds"] ["word","kinds"] (ae j4):=⟨rfl,rfl,rfl,by decide+kernel,rfl,by decide+kernel,by decide+kernel⟩
theorem Iv (G:Gs w K mg) (D:Def K mg "leaf_letter" j4 ["word","kinds"]):Has P w K mg base (k+1) "leaf_letter" ["word","kinds"] (gw K):=by
 refine D.has Ee (λvs H Q E h=>?_) (λf cdv A outer s H vs Q E hr h=>?_)
 ·obtain ⟨_,_,_,rfl,_,_,_⟩:=h;rfl
 have nd:=Ee.nd;have hu:=bu hr;have hu0:=aab hu;obtain ⟨v,kt,kinds,rfl,hv,hK,q⟩:=h;refine ⟨_,(A4 (AD (AH (AL 0) (A0 0 (by first | exact aa1 rfl | exact aa0 (aa1 rfl) | exact aa0 (aa0 rfl))) (A9 0) (AC 0)) (A5 (A8 (A9 0))) (AF 0)) (A4 (AD (AH (AL 0) (A0 0 (by first | exact aa1 rfl | exact aa0 (aa1 rfl) | exact aa0 (aa0 rfl))) (A9 0) (AC 0)) (A5 (A8 (A9 0))) (AF 0)) (A5 (A8 (BZ (BJ (@gm _) (A0 0 (by first | exact aa1 rfl | exact aa0 (aa1 rfl) | exact aa0 (aa0 rfl))) (A0 1 (by first | exact aa1 rfl | exact aa0 (aa1 rfl) | exact aa0 (aa0 rfl)))) (A9 0) (A9 0)))))),?_⟩;rw[show start ["word","kinds"] [v,.ref kt]=[some (v),some (.ref kt)] from rfl];clear hu hu0 nd hr;push_cast [rIn];have fl:(kinds.map V.str).all gi=true:=List.all_eq_true.mpr λx hx=>by obtain ⟨z,_,rfl⟩:=List.mem_map.mp hx;rfl
 unfold ao Cd As lN lV lH lO at q;refine ⟨Br hv _,cx (λe=>?_) λn1=>⟨Br hv _,cx (λe=>?_) λn2=>⟨_,.inr hK,qf hv,fl,cx (λe=>?_) λe=>?_⟩⟩⟩
 ·rw[if_pos e] at q;exact q
 ·rw[if_neg n1,if_pos e] at q;exact q
 ·rw[if_neg n1,if_neg n2,if_pos e] at q;exact q
 ·rw[if_neg n1,if_neg n2,if_neg e] at q;exact q
noncomputable abbrev g7:Stmt:=top 27
theorem yp:aj ["word","kinds"] ["word","kinds"] (ae g7):=⟨rfl,rfl,rfl,by decide+kernel,rfl,by decide+kernel,by decide+kernel⟩
theorem Fu (G:Gs w K mg) (h_how_many_below:Has P w K mg base k "how_many_below" ["word"] cz) (h_leaf_letter:Has P w K mg base k "leaf_letter" ["word","kinds"] (gw K)) (D:Def K mg "stands_in_shapes" g7 ["word","kinds"]):Has P w K mg base (k+1) "stands_in_shapes" ["word","kinds"] (i7 K):=by
 refine D.has yp (λvs H Q E h=>?_) (λf cdv A outer s H vs Q E hr h=>?_)
 ·obtain ⟨_,_,_,rfl,_,_,_⟩:=h;rfl
 have nd:=yp.nd;have hu:=bu hr;have hu0:=aab hu;obtain ⟨v,kt,kinds,rfl,hv,hK,q⟩:=h;have m_isinstance:=G.m_isinstance;have m_str:=G.m_str;refine ⟨_,(A5 (A8 (@pe_or _ _ _ _ _ _ _ (@B2 _ _ _ _ (AG (AT 0) m_isinstance aq (A1 (A0 0 (by first | exact aa1 rfl | exact aa0 (aa1 rfl) | exact aa0 (aa0 rfl))) (A1 (AU m_str lx) (A2 0))))) (@pe_or _ _ _ _ _ _ _ (B8 (@og _) (A6 h_how_many_below hr (A1 (A0 0 (by first | exact aa1 rfl | exact aa0 (aa1 rfl) | exact aa0 (aa0 rfl))) (A2 0))) (A3 0) (AC 0)) (BE (B8 (@kz _) (A6 h_leaf_letter hr (A1 (A0 0 (by first | exact aa1 rfl | exact aa0 (aa1 rfl) | exact aa0 (aa0 rfl))) (A1 (A0 1 (by first | exact aa1 rfl | exact aa0 (aa1 rfl) | exact aa0 (aa0 rfl))) (A2 0)))) (A9 0) (AC 0))))))),?_⟩;rw[show start ["word","kinds"] [v,.ref kt]=[some (v),some (.ref kt)] from rfl];clear hu hu0 nd hr;push_cast [cz,gw];rcases hv with ⟨n,rfl,_⟩ | ⟨z,rfl,hz⟩
 ·exact ⟨_,.int n,false,rfl,iy q⟩
 ·refine ⟨_,.str z,true,rfl,jv (.inl ⟨isW.str z,?_⟩)⟩;rcases hz with ⟨h1,_⟩ | ⟨h1,h2⟩
  ·rw[if_pos (by show 0 < ((arS z:Nat):Int);omega)];exact q
  ·rw[if_neg (by show ¬0 < ((arS z:Nat):Int);omega)];refine ⟨isW.str z,kinds,hK,rfl,?_⟩;rw[decide_eq_false (show ¬ao kinds (V.str z)=Str.ofString "" from h2)];exact q
noncomputable abbrev fc:Stmt:=top 28
theorem uq:aj ["words","kinds"] ["words","kinds"] (ae fc):=⟨rfl,rfl,rfl,by decide+kernel,rfl,by decide+kernel,by decide+kernel⟩
theorem Bm (G:Gs w K mg) (h_is_one_term:Has P w K mg base k "is_one_term" ["words"] (Eb K)) (h_stands_in_shapes:Has P w K mg base k "stands_in_shapes" ["word","kinds"] (i7 K)) (D:Def K mg "is_shape" fc ["words","kinds"]):Has P w K mg base (k+1) "is_shape" ["words","kinds"] (jo K):=by
 refine D.has uq (λvs H Q E h=>?_) (λf cdv A outer s H vs Q E hr h=>?_)
 ·obtain ⟨_,_,_,_,rfl,_,_,_,_,_,_⟩:=h;rfl
 have nd:=uq.nd;have hu:=bu hr;have hu0:=aab hu;obtain ⟨st,kt,sh,kinds,rfl,hS,hK,hw,hT,hl,q⟩:=h;have m_all:=G.m_all;refine ⟨_,(A5 (A8 (BB (AG (@fz _ rfl) m_all Ju (A1 (B6 (AZ ["word"] ["kinds"] [1] (aaq rfl trivial) (aaq (aaq rfl (aaq rfl rfl)) trivial)) (B5 (A0 0 (by first | exact aa1 rfl | exact aa0 (aa1 rfl) | exact aa0 (aa0 rfl)))) (λ_ _ _=>(AV 0 (show abe (["word","kinds"]:List Str) by decide+kernel) (by first | exact .inl rfl | exact .inr rfl | assumption))) (λ_ _ _=>(@zg _)) (λ_ _ _=>(A6 h_stands_in_shapes hr (A1 (A0 0 (by first | exact aa1 rfl | exact aa0 (aa1 rfl) | exact aa0 (aa0 rfl))) (A1 (A0 1 (by first | exact aa1 rfl | exact aa0 (aa1 rfl) | exact aa0 (aa0 rfl))) (A2 0)))))) (A2 0))) (BE (A6 h_is_one_term hr (A1 (A0 0 (by first | exact aa1 rfl | exact aa0 (aa1 rfl) | exact aa0 (aa0 rfl))) (A2 0))))))),?_⟩;rw[show start ["words","kinds"] [.ref st,.ref kt]=[some (.ref st),some (.ref kt)] from rfl];clear hu hu0 nd hr;push_cast [Eb,i7];have sz:=sizeLine_eq;refine ⟨⟨sh,hS⟩,λD hD=>lc_tup (λj zs=>zs=abi j (V.bl true)) hS (by omega) hD rfl (λj x zs H1 G' K' hx hP hl2 hs hG hK'=>?_) λzs H3 hP hl2 hs hL2=>?_⟩
 ·push_cast [i7];exact ⟨kinds,hw x (aam hx),hs.tup hK,hK' _ _ (ag.refl _) (by rw[hP,←ae0])⟩
 ·refine ⟨abi sh.length true,SqL.of (by rw[hL2,hP,aeb]),?_⟩;rw[show (abi sh.length true).all id=true by simp];refine iy ⟨sh,hs.tup hS,λv hv=>(hw v hv).isW,by omega,?_⟩;rw[decide_eq_true (show pend 1 (sh.map arV)=some 0 from hT)];exact q _ hs
noncomputable abbrev g6:Stmt:=top 29
theorem zd:aj ["shape","kinds","counts","names","word","letter","number"] ["shape","kinds"] (ae g6):=⟨rfl,rfl,rfl,by decide+kernel,rfl,by decide+kernel,by decide+kernel⟩
theorem Gj (G:Gs w K mg) (h_leaf_letter:Has P w K mg base k "leaf_letter" ["word","kinds"] (gw K)) (D:Def K mg "leaf_names" g6 ["shape","kinds"]):Has P w K mg base (k+1) "leaf_names" ["shape","kinds"] (mq K):=by
 refine D.has zd (λvs H Q E h=>?_) (λf cdv A outer s H vs Q E hr h=>?_)
 ·obtain ⟨_,_,_,_,rfl,_,_,_,_,_⟩:=h;rfl
 have nd:=zd.nd;have hu:=bu hr;have hu0:=aab hu;obtain ⟨st,kt,sh,kinds,rfl,hS,hK,hw,hl,q⟩:=h;refine ⟨_,(A4 (A7 2 nd (by first | exact aa1 rfl | exact aa0 rfl) (@Dl _ _ _ _ _ (BF (A9 0) (A3 0) (BF (A9 0) (A3 0) (BF (A9 0) (A3 0) (@Dw _ _)))) rfl rfl (λe=>nomatch e) (by decide)) (by first | exact .inl rfl | exact .inr rfl | assumption)) (A4 (A7 3 nd (by first | exact aa1 rfl | exact aa0 rfl) (AM (A2 0)) (by first | exact .inl rfl | exact .inr rfl | assumption)) (A4 (AS (B5 (A0 0 (by first | exact aa1 rfl | exact aa0 (aa1 rfl) | exact aa0 (aa0 rfl)))) (AK 4 nd (by first | exact aa1 rfl | exact aa0 rfl) (by first | exact .inl rfl | exact .inr rfl | assumption)) (A4 (A7 5 nd (by first | exact aa1 rfl | exact aa0 rfl) (A6 h_leaf_letter hr (A1 (A0 4 (by first | exact aa1 rfl | exact aa0 (aa1 rfl) | exact aa0 (aa0 rfl))) (A1 (A0 1 (by first | exact aa1 rfl | exact aa0 (aa1 rfl) | exact aa0 (aa0 rfl))) (A2 0)))) (by first | exact .inl rfl | exact .inr rfl | assumption)) (A5 (AD (AH (AL 0) (A0 5 (by first | exact aa1 rfl | exact aa0 (aa1 rfl) | exact aa0 (aa0 rfl))) (A9 0) (AC 0)) (A5 (AR (AQ PySem.F.plainAttrs_list PySem.F.slot_list_append PySem.F.type_list_append (AW 0) (A0 3 (by first | exact aa1 rfl | exact aa0 (aa1 rfl) | exact aa0 (aa0 rfl))) (A1 (A9 0) (A2 0))))) (A4 (BH hu (A0 2 (by first | exact aa1 rfl | exact aa0 (aa1 rfl) | exact aa0 (aa0 rfl))) (A0 5 (by first | exact aa1 rfl | exact aa0 (aa1 rfl) | exact aa0 (aa0 rfl))) (AA (AO 0) (BM hu (A0 2 (by first | exact aa1 rfl | exact aa0 (aa1 rfl) | exact aa0 (aa0 rfl))) (A0 5 (by first | exact aa1 rfl | exact aa0 (aa1 rfl) | exact aa0 (aa0 rfl)))) (A3 0))) (A4 (A7 6 nd (by first | exact aa1 rfl | exact aa0 rfl) (BM hu (A0 2 (by first | exact aa1 rfl | exact aa0 (aa1 rfl) | exact aa0 (aa0 rfl))) (A0 5 (by first | exact aa1 rfl | exact aa0 (aa1 rfl) | exact aa0 (aa0 rfl)))) (by first | exact .inl rfl | exact .inr rfl | assumption)) (A5 (AR (AQ PySem.F.plainAttrs_list PySem.F.slot_list_append PySem.F.type_list_append (AW 0) (A0 3 (by first | exact aa1 rfl | exact aa0 (aa1 rfl) | exact aa0 (aa0 rfl))) (A1 (@K7 _ _ _ _ _ _ _ (@px_s _ _ _ _ _ _ _ (A0 5 (by first | exact aa1 rfl | exact aa0 (aa1 rfl) | exact aa0 (aa0 rfl))) (@px_i _ _ _ _ _ _ _ (A0 6 (by first | exact aa1 rfl | exact aa0 (aa1 rfl) | exact aa0 (aa0 rfl))) (@px_nil _))) (by decide)) (A2 0))))))))))) (A5 (A8 (A0 3 (by first | exact aa1 rfl | exact aa0 (aa1 rfl) | exact aa0 (aa0 rfl)))))))),?_⟩;rw[show start ["shape","kinds","counts","names","word","letter","number"] [.ref st,.ref kt]=[some (.ref st),some (.ref kt),none,none,none,none,none] from rfl];clear hu hu0 nd hr;push_cast [gw];have sz:=sizeLine_eq;push_cast [Il,sr];intro cd hcd;refine ⟨aa,[(Sum.inr lH,.int 0),(Sum.inr lN,.int 0),(Sum.inr lV,.int 0)],rfl,acr rfl,aac _,λp hp=>?_⟩;have s0:ag H (upd (upd H cd (.dK [])) cd (.dK (cy [] [(Sum.inr lH,.int 0),(Sum.inr lN,.int 0),(Sum.inr lV,.int 0)]))):=(ab hcd _).upd hcd _;have c0:upd (upd H cd (.dK [])) cd (.dK (cy [] [(Sum.inr lH,.int 0),(Sum.inr lN,.int 0),(Sum.inr lV,.int 0)])) cd=some (.dK (cy [] [(Sum.inr lH,.int 0),(Sum.inr lN,.int 0),(Sum.inr lV,.int 0)])):=aa;generalize upd (upd H cd (.dK [])) cd (.dK (cy [] [(Sum.inr lH,.int 0),(Sum.inr lN,.int 0),(Sum.inr lV,.int 0)]))=H1 at s0 c0 hp ⊢;have c3:∀l∈[lH,lN,lV],cp (cy [] [(Sum.inr lH,.int 0),(Sum.inr lN,.int 0),(Sum.inr lV,.int 0)]) (Sum.inr l)=some (.int 0):=by decide+kernel
 have npc:p≠cd:=(ah c0 hp).symm;have Hp:H p=none:=s0.free hp;refine ⟨⟨sh,(s0.trans (ab hp _)).tup hS⟩,dm (xs:=sh) (λi σ H'=>∃(kvs:List (Key×V)) (v4 v5 v6:Option V),σ=[some (.ref st),some (.ref kt),some (.ref cd),some (.ref p),v4,v5,v6]∧ag H H'∧H' cd=some (.dK kvs)∧kvs.length≤3+i∧(∀l∈[lH,lN,lV],cp kvs (Sum.inr l)=some (.int ((dk kinds l (sh.take i):Nat):Int)))∧H' p=some (.lst ((nms kinds (sh.take i)).map V.str))) ⟨_,none,none,none,rfl,s0.trans (ab hp _),ab hp _ _ _ c0,by show 3≤3+0;omega,by rw[ach];exact c3,by rw[ach];exact aa⟩ (λi σ H' _ h=>?_) ?_ ?_⟩
 ·obtain ⟨_,_,_,_,_,h,_⟩:=h;exact h.tup hS
 ·rintro i x σ H' hx ⟨kvs,v4,v5,v6,rfl,s1,hc,hkl,hkv,hp1⟩;have hi:=(List.getElem?_eq_some_iff.mp hx).1;have et:sh.take (i+1)=sh.take i++[x]:=by rw[aan,hx];rfl
  have lt:(sh.take i).length≤12:=by rw[aad];omega
  push_cast [gw,tFx,tXS,tXI,tX0];have len:((nms kinds (sh.take i)).map V.str).length < sizeLine:=by rw[aa3,mf,aad];omega
  refine ⟨hw x (aam hx),kinds,s1.tup hK,rfl,cx (λe=>?_) λe=>?_⟩
  ·refine bh hp1 len ⟨s1.upd Hp _,kvs,by rw[af npc.symm];exact hc,by omega,λl hl=>?_,?_⟩
   ·rw[hkv l hl,et,dv,if_neg]
    ·rfl
    ·intro h;rw[e] at h;rw[←h] at hl;exact absurd hl (by decide+kernel)
   ·rw[aa,et,yh,aag];show _=some (HO.lst (_++[V.str (nmW kinds (sh.take i) x)]))
    rw[show nmW kinds (sh.take i) x=Str.ofString "" from if_pos e]
  ·have hm:ao kinds x∈[lH,lN,lV]:=by
    rcases ic kinds x with h | h | h | h
    ·rw[h];decide+kernel
    ·rw[h];decide+kernel
    ·rw[h];decide+kernel
    ·exact absurd h e
   have g:=fj.k (k:=Sum.inr (ao kinds x)) hc;rw[hkv _ hm] at g;have cl:=ma kinds (ao kinds x) (sh.take i);rw[aad] at cl;refine ⟨_,g,_,sf.k (k:=Sum.inr (ao kinds x)) hc (by omega),?_⟩;have g2:=fj.k (k:=Sum.inr (ao kinds x)) (aa (H:=H') (a:=cd) (o:=.dK (putK kvs (Sum.inr (ao kinds x)) (.int (((dk kinds (ao kinds x) (sh.take i):Nat):Int)+1)))));rw[p8,if_pos rfl] at g2;have hp2:upd H' cd (.dK (putK kvs (Sum.inr (ao kinds x)) (.int (((dk kinds (ao kinds x) (sh.take i):Nat):Int)+1)))) p=some (.lst ((nms kinds (sh.take i)).map V.str)):=by rw[af npc];exact hp1
   obtain ⟨f1,f2,f3,f4,f5⟩:=qc e (n:=dk kinds (ao kinds x) (sh.take i)+1) (by omega);have l1:(ao kinds x).length≤1000:=by
    rcases ic kinds x with h | h | h | h
    ·rw[h];decide+kernel
    ·rw[h];decide+kernel
    ·rw[h];decide+kernel
    ·rw[h];decide+kernel
   refine ⟨_,g2,bq hp2,l1,_,rfl,?_,(bh (K:=K) hp2 len ⟨(s1.upd hcd _).upd Hp _,_,by rw[af npc.symm,aa],?_,λl hl=>?_,?_⟩).2⟩
   ·exact abc (aca _) (by omega)
   ·have:=d7 kvs (Sum.inr (ao kinds x)) (V.int (((dk kinds (ao kinds x) (sh.take i):Nat):Int)+1));omega
   ·rw[p8,et,dv];by_cases c:l=ao kinds x
    ·rw[if_pos (by rw[c]),if_pos c.symm,c];rfl
    ·rw[if_neg (λh=>c (Sum.inr.inj h)),if_neg (λh=>c h.symm),hkv l hl];rfl
   ·rw[aa,et,yh,aag];show _=some (HO.lst (_++[V.str (nmW kinds (sh.take i) x)]))
    rw[show nmW kinds (sh.take i) x=gf (ao kinds x) (dk kinds (ao kinds x) (sh.take i)+1) from if_neg e,←f1];rfl
 ·rintro σ H' ⟨kvs,v4,v5,v6,rfl,s1,hc,hkl,hkv,hp1⟩;rw[aau] at hp1;push_cast [and_true];exact q p H' s1 Hp hp1
noncomputable abbrev su:Stmt:=top 31
theorem Gy:aj ["name","taken"] ["name","taken"] (ae su):=⟨rfl,rfl,rfl,by decide+kernel,rfl,by decide+kernel,by decide+kernel⟩
theorem M8 (G:Gs w K mg) (D:Def K mg "take_name" su ["name","taken"]):Has P w K mg base (k+1) "take_name" ["name","taken"] qj:=by
 refine D.has Gy (λvs H Q E h=>?_) (λf cdv A outer s H vs Q E hr h=>?_)
 ·obtain ⟨_,_,_,rfl,_,_,_,_⟩:=h;rfl
 have nd:=Gy.nd;have hu:=bu hr;have hu0:=aab hu;obtain ⟨z,d,zs,rfl,hd,hz,hl,q⟩:=h;refine ⟨_,(A4 (AD (BN (@pc_din _ _ _ _ _ hu (A0 0 (by first | exact aa1 rfl | exact aa0 (aa1 rfl) | exact aa0 (aa0 rfl))) (A0 1 (by first | exact aa1 rfl | exact aa0 (aa1 rfl) | exact aa0 (aa0 rfl)))) (by first | exact gk _ (by decide) (by decide) | rfl)) (A5 (@gq _ _)) (AF 0)) (A5 (BH hu (A0 1 (by first | exact aa1 rfl | exact aa0 (aa1 rfl) | exact aa0 (aa0 rfl))) (A0 0 (by first | exact aa1 rfl | exact aa0 (aa1 rfl) | exact aa0 (aa0 rfl))) (@Dj _ _ _ _)))),?_⟩;rw[show start ["name","taken"] [.str z,.ref d]=[some (.str z),some (.ref d)] from rfl];clear hu hu0 nd hr;push_cast [and_true];have sz:=sizeLine_eq;have hv:cp (zs.map λy=>((Sum.inr y:Key),V.bl true)) (Sum.inr z)=none:=ui zs hz;have g:=fj.k (k:=Sum.inr z) hd;rw[hv] at g;refine ⟨_,g,jv ⟨_,sf.k (k:=Sum.inr z) hd (by rw[aa3];omega),q _ (λb o nb ho=>by rw[af nb];exact ho) ?_⟩⟩;rw[aa,aag];unfold putK;rw[i8,hv];rfl
noncomputable abbrev p9:Stmt:=top 32
theorem Gr:aj ["rule","source","forms"] ["rule","source","forms"] (ae p9):=⟨rfl,rfl,rfl,by decide+kernel,rfl,by decide+kernel,by decide+kernel⟩
theorem Lc (G:Gs w K mg) (h_form_of:Has P w K mg base k "form_of" ["words"] (dw K)) (D:Def K mg "source_form" p9 ["rule","source","forms"]):Has P w K mg base (k+1) "source_form" ["rule","source","forms"] (tm K):=by
 refine D.has Gr (λvs H Q E h=>?_) (λf cdv A outer s H vs Q E hr h=>?_)
 ·obtain ⟨_,_,_,_,_,_,rfl,_,_,_,_⟩:=h;rfl
 have nd:=Gr.nd;have hu:=bu hr;have hu0:=aab hu;obtain ⟨r,v,d,φ,x,n,rfl,hd,hP,hx,q⟩:=h;have m_isinstance:=G.m_isinstance;have m_str:=G.m_str;refine ⟨_,(A4 (AD (@xk _ _ _ _ (B7 (AG (AT 0) m_isinstance aq (A1 (A0 1 (by first | exact aa1 rfl | exact aa0 (aa1 rfl) | exact aa0 (aa0 rfl))) (A1 (AU m_str lx) (A2 0)))))) (A5 (A8 (A6 h_form_of hr (A1 (AE (A1 (A0 1 (by first | exact aa1 rfl | exact aa0 (aa1 rfl) | exact aa0 (aa0 rfl))) (A2 0))) (A2 0))))) (AF 0)) (A4 (AD (BN (@uw _ _ _ _ _ hu (A0 1 (by first | exact aa1 rfl | exact aa0 (aa1 rfl) | exact aa0 (aa0 rfl))) (A0 2 (by first | exact aa1 rfl | exact aa0 (aa1 rfl) | exact aa0 (aa0 rfl)))) (by first | exact gk _ (by decide) (by decide) | rfl)) (A5 (@gq _ _)) (AF 0)) (A5 (A8 (BM hu (A0 2 (by first | exact aa1 rfl | exact aa0 (aa1 rfl) | exact aa0 (aa0 rfl))) (A0 1 (by first | exact aa1 rfl | exact aa0 (aa1 rfl) | exact aa0 (aa0 rfl)))))))),?_⟩;rw[show start ["rule","source","forms"] [.str r,v,.ref d]=[some (.str r),some (v),some (.ref d)] from rfl];clear hu hu0 nd hr;push_cast [dw];cases v with
 | int m=>
  have hx:(if m.natAbs < 2 ^ 200 then some (bz (.int m),1) else none)=some x:=hx;split at hx
  ·rename_i hm
   cases hx
   refine ⟨_,.int m,false,rfl,iy ⟨by show (1:Nat)≤sizeLine;decide,λp hp=>⟨[.int m],SqT.of aa,⟨SS,λv hv=>by rw[List.mem_singleton.mp hv];exact hm⟩,rfl,by show 1≤12;decide,λb H' s1 hb=>q b H' ((ab hp _).trans s1) hb⟩⟩⟩
  ·cases hx
 | str z=>
  obtain ⟨a,g,hf⟩:=hd.get hx;exact ⟨_,.str z,true,rfl,jv ⟨_,g,jv ⟨_,g,q a H (ag.refl _) hf⟩⟩⟩
 | _=>cases hx
noncomputable abbrev jz:Stmt:=top 33
theorem Ds:aj ["rule","deed","forms","sources"] ["rule","deed","forms"] (ae jz):=⟨rfl,rfl,rfl,by decide+kernel,rfl,by decide+kernel,by decide+kernel⟩
theorem J9 (G:Gs w K mg) (h_how_many_below:Has P w K mg base k "how_many_below" ["word"] cz) (h_joined_forms:Has P w K mg base k "joined_forms" ["word","parts"] eg) (h_source_form:Has P w K mg base k "source_form" ["rule","source","forms"] (tm K)) (D:Def K mg "deed_form" jz ["rule","deed","forms"]):Has P w K mg base (k+1) "deed_form" ["rule","deed","forms"] (pq K):=by
 refine D.has Ds (λvs H Q E h=>?_) (λf cdv A outer s H vs Q E hr h=>?_)
 ·obtain ⟨_,_,_,_,_,_,_,_,rfl,_,_,_,_,_⟩:=h;rfl
 have nd:=Ds.nd;have hu:=bu hr;have hu0:=aab hu;obtain ⟨r,t,d,ts,φ,b,x,n,rfl,ht,hd,hP,hD,q⟩:=h;refine ⟨_,(A4 (@G1 _ _ _ _ _ _ _ _ _ _ _ _ _ _ _ 3 _ _ _ nd rfl (aa1 rfl) (AZ ["source"] ["rule","forms"] [0,2] (aaq rfl (aaq rfl trivial)) (aaq (aaq rfl (aaq rfl rfl)) (aaq (aaq rfl (aaq rfl rfl)) trivial))) rfl (B5 (BO (@Lp _) (A0 1 (by first | exact aa1 rfl | exact aa0 (aa1 rfl) | exact aa0 (aa0 rfl))) (BP (A3 0)) (@mh _))) (λ_ _ _=>(AV 0 (show abe (["source","rule","forms"]:List Str) by decide+kernel) (by first | exact .inl rfl | exact .inr rfl | assumption))) (λ_ _ _=>(@zg _)) (λ_ _ _=>(A6 h_source_form hr (A1 (A0 1 (by first | exact aa1 rfl | exact aa0 (aa1 rfl) | exact aa0 (aa0 rfl))) (A1 (A0 0 (by first | exact aa1 rfl | exact aa0 (aa1 rfl) | exact aa0 (aa0 rfl))) (A1 (A0 2 (by first | exact aa1 rfl | exact aa0 (aa1 rfl) | exact aa0 (aa0 rfl))) (A2 0)))))) (by rfl) (by intro _;rfl) (by first | exact .inl rfl | exact .inr rfl | assumption)) (A4 (AD (AH (AL 0) (A6 h_how_many_below hr (A1 (AB (@fg _) (A0 1 (by first | exact aa1 rfl | exact aa0 (aa1 rfl) | exact aa0 (aa0 rfl))) (A3 0)) (A2 0))) (A3 0) (AC 0)) (A5 (A8 (AB (AJ 0) (A0 3 (by first | exact aa1 rfl | exact aa0 (aa1 rfl) | exact aa0 (aa0 rfl))) (A3 0)))) (AF 0)) (A5 (A8 (A6 h_joined_forms hr (A1 (AB (@fg _) (A0 1 (by first | exact aa1 rfl | exact aa0 (aa1 rfl) | exact aa0 (aa0 rfl))) (A3 0)) (A1 (A0 3 (by first | exact aa1 rfl | exact aa0 (aa1 rfl) | exact aa0 (aa0 rfl))) (A2 0)))))))),?_⟩;rw[show start ["rule","deed","forms","sources"] [.str r,.ref t,.ref d]=[some (.str r),some (.ref t),some (.ref d),none] from rfl];clear hu hu0 nd hr;push_cast [cz,eg,tm];have sz:=sizeLine_eq;obtain ⟨op,ss,xs,ets,hsl,hss,hfin⟩:∃(op:Str) (ss:List V) (xs:List FN),ts=.str op::.str b::ss∧xs.length=ss.length∧(∀(i:Nat) (s:V),ss[i]?=some s→∃y,xs[i]?=some y∧src φ s=some y)∧((arS op=0∧xs=[x])∨(0 < arS op∧xs.length=arS op∧JB (xs.map (·.1))∧opF op ((xs.map (·.1)).getD 0 []) ((xs.map (·.1)).getD 1 [])=x.1)):=by
  cases hD with
  | one op _ s _ h0 hs=>exact ⟨op,[s],[x],rfl,rfl,λi u hu=>by match i,hu with | 0,hu=>exact ⟨x,rfl,by rw[←aa6 hu];exact hs⟩,.inl ⟨h0,rfl⟩⟩
  | neg op _ s y h1 hs hb=>
   obtain ⟨f,n1,_⟩:=j9 hP hs;exact ⟨op,[s],[y],rfl,rfl,λi u hu=>by match i,hu with | 0,hu=>exact ⟨y,rfl,by rw[←aa6 hu];exact hs⟩,.inr ⟨by omega,by rw[h1];rfl,jb_one f n1 hb,rfl⟩⟩
  | two op _ s t y w h2 hs ht' hb=>
   obtain ⟨f,n1,_⟩:=j9 hP hs;obtain ⟨g,m1,_⟩:=j9 hP ht';refine ⟨op,[s,t],[y,w],rfl,rfl,λi u hu=>?_,.inr ⟨by omega,by rw[h2];rfl,jb_two f g n1 m1 hb,rfl⟩⟩;match i,hu with
   | 0,hu=>exact ⟨y,rfl,by rw[←aa6 hu];exact hs⟩
   | 1,hu=>exact ⟨w,rfl,by rw[←aa6 hu];exact ht'⟩
 subst ets;have sl:ss.length≤2:=by
  rcases hfin with ⟨_,e⟩ | ⟨_,e,_⟩
  ·rw[←hsl,e];exact acr rfl
  ·have:=fu (z:=op);omega
 have cut2:js (.str op::.str b::ss) (some 2) none=ss:=by
  match ss,sl with
  | [],_=>rfl
  | [x],_=>rfl
  | [x,y],_=>rfl
  | x::y::z::r,sl=>simp at sl
 refine Ky ht λp H1 s1 h1=>⟨p,rfl,⟨_,SqT.of h1⟩,λD hD'=>?_⟩;rw[cut2] at h1;refine Dr (λi ys H'=>bt H' ys ((xs.take i).map Prod.fst)) (λi ys H2 H3 k' h=>h.keep k') (SqT.of h1) (by omega) hD' (bt.nil _) (λi s ys H2 G' K' hs hP' hl2 hS hG hK=>?_) λys H2 hP' hl2 hS hD2=>?_
 ·push_cast [tm];obtain ⟨y,hy,hsy⟩:=hss i s hs;refine ⟨φ,⟨n,hd.same (s1.trans hS)⟩,hP,y,hsy,λa H3 s3 ha=>hK _ _ s3 ?_⟩;have e:(xs.take (i+1)).map (·.1)=(xs.take i).map (·.1)++[y.1]:=by rw[aan,hy,acf,aag];rfl
  rw[e];have hk:=hP'.keep (TK.of s3);refine ⟨by rw[aa5,aa5,hk.1];rfl,λj f hj=>?_⟩;by_cases hlt:j < ((xs.take i).map (·.1)).length
  ·rw[aax hlt] at hj;rw[aax (by rw[hk.1];exact hlt)];exact hk.2 j f hj
  ·have hj2:=(List.getElem?_eq_some_iff.mp hj).1;rw[aa5,aat] at hj2;have ej:j=((xs.take i).map (·.1)).length:=by omega
   subst ej;rw[aar (aa4 _),abq] at hj;rw[←hk.1,aar (aa4 _),abq];rw[←aa6 hj];exact ⟨a,rfl,ha⟩
 ·have ht2:=hS _ _ (s1 _ _ ht);rw[←hsl,aau] at hP';have a0:atI (V.str op::V.str b::ss) 0=some (V.str op):=cb (j:=0) rfl;refine de ht2 a0 (.inl ⟨isW.str op,rfl,?_⟩);rcases hfin with ⟨h0,e⟩ | ⟨h0,e,hj,hf⟩
  ·rw[if_pos (by show ((arS op:Nat):Int)=0;omega)];subst e;obtain ⟨a,h2,h3⟩:=hP'.2 0 x.1 rfl;exact aw hD2 (cb (j:=0) h2) (q a H2 (s1.trans hS) h3)
  ·rw[if_neg (by show ¬((arS op:Nat):Int)=0;omega)];exact de ht2 a0 ⟨op,rfl,h0,ys,hD2,_,hP',by rw[aa3];exact e,hj,λa H3 s3 ha=>q a H3 ((s1.trans hS).trans s3) (by rw[hf] at ha;exact ha)⟩
noncomputable abbrev rh:Stmt:=top 34
theorem Im:aj ["rule","leaves","deeds","forms","leaf","deed"] ["rule","leaves","deeds"] (ae rh):=⟨rfl,rfl,rfl,by decide+kernel,rfl,by decide+kernel,by decide+kernel⟩
theorem L0 (G:Gs w K mg) (h_deed_form:Has P w K mg base k "deed_form" ["rule","deed","forms"] (pq K)) (h_form_of:Has P w K mg base k "form_of" ["words"] (dw K)) (D:Def K mg "out_form" rh ["rule","leaves","deeds"]):Has P w K mg base (k+1) "out_form" ["rule","leaves","deeds"] (we K):=by
 refine D.has Im (λvs H Q E h=>?_) (λf cdv A outer s H vs Q E hr h=>?_)
 ·obtain ⟨_,_,_,_,_,_,_,_,_,rfl,_,_,_,_,_,_,_,_,_⟩:=h;rfl
 have nd:=Im.nd;have hu:=bu hr;have hu0:=aab hu;obtain ⟨r,l,da,zs,as,ts,φ,f,n,rfl,hL,hl,hz,ha,hT,htl,hφ,ho,q⟩:=h;refine ⟨_,(A4 (A7 3 nd (by first | exact aa1 rfl | exact aa0 rfl) (@sg _ _) (by first | exact .inl rfl | exact .inr rfl | assumption)) (A4 (AS (BQ (A0 1 (by first | exact aa1 rfl | exact aa0 (aa1 rfl) | exact aa0 (aa0 rfl)))) (AK 4 nd (by first | exact aa1 rfl | exact aa0 rfl) (by first | exact .inl rfl | exact .inr rfl | assumption)) (A5 (BH hu (A0 3 (by first | exact aa1 rfl | exact aa0 (aa1 rfl) | exact aa0 (aa0 rfl))) (A0 4 (by first | exact aa1 rfl | exact aa0 (aa1 rfl) | exact aa0 (aa0 rfl))) (A6 h_form_of hr (A1 (AE (A1 (A0 4 (by first | exact aa1 rfl | exact aa0 (aa1 rfl) | exact aa0 (aa0 rfl))) (A2 0))) (A2 0)))))) (A4 (AS (B5 (A0 2 (by first | exact aa1 rfl | exact aa0 (aa1 rfl) | exact aa0 (aa0 rfl)))) (AK 5 nd (by first | exact aa1 rfl | exact aa0 rfl) (by first | exact .inl rfl | exact .inr rfl | assumption)) (A5 (BH hu (A0 3 (by first | exact aa1 rfl | exact aa0 (aa1 rfl) | exact aa0 (aa0 rfl))) (AB (@fg _) (A0 5 (by first | exact aa1 rfl | exact aa0 (aa1 rfl) | exact aa0 (aa0 rfl))) (A3 0)) (A6 h_deed_form hr (A1 (A0 0 (by first | exact aa1 rfl | exact aa0 (aa1 rfl) | exact aa0 (aa0 rfl))) (A1 (A0 5 (by first | exact aa1 rfl | exact aa0 (aa1 rfl) | exact aa0 (aa0 rfl))) (A1 (A0 3 (by first | exact aa1 rfl | exact aa0 (aa1 rfl) | exact aa0 (aa0 rfl))) (A2 0)))))))) (A4 (AD (BN (@uw _ _ _ _ _ hu (A9 0) (A0 3 (by first | exact aa1 rfl | exact aa0 (aa1 rfl) | exact aa0 (aa0 rfl)))) (by first | exact gk _ (by decide) (by decide) | rfl)) (A5 (@gq _ _)) (AF 0)) (A5 (A8 (BM hu (A0 3 (by first | exact aa1 rfl | exact aa0 (aa1 rfl) | exact aa0 (aa0 rfl))) (A9 0)))))))),?_⟩;rw[show start ["rule","leaves","deeds","forms","leaf","deed"] [.str r,.ref l,.ref da]=[some (.str r),some (.ref l),some (.ref da),none,none,none] from rfl];clear hu hu0 nd hr;push_cast [and_true];have sz:=sizeLine_eq;intro p hp;have s0:=ab hp (.dK []);refine ⟨⟨_,SqL.of (s0 _ _ hL)⟩,vv (xs:=zs.map V.str) (λi σ H'=>∃v4:Option V,σ=[some (.str r),some (.ref l),some (.ref da),some (.ref p),v4,none]∧ag H H'∧FD H' p (oh (zs.take i)) i) ⟨none,rfl,s0,by rw[ach];exact FD.new aa⟩ (λi σ H' _ h=>?_) ?_ ?_⟩
 ·obtain ⟨_,_,h,_⟩:=h;exact SqL.of (h _ _ hL)
 ·rintro i x σ H1 hx ⟨v4,rfl,s1,hF⟩;rw[aae] at hx;obtain ⟨z,hx',rfl⟩:=Option.map_eq_some_iff.mp hx;have hi:=(List.getElem?_eq_some_iff.mp hx').1;have hz0:=hz z (aam hx');push_cast [dw];refine ⟨by show (1:Nat)≤sizeLine;decide,λt ht=>⟨[.str z],SqT.of aa,⟨SS,λv hv=>by rw[List.mem_singleton.mp hv];exact .inr trivial⟩,by show pend 1 [arS z]=some 0;rw[hz0];rfl,by show 1≤12;decide,λb H2 s2 hb=>?_⟩⟩;rw[Fg (w:=.str z) hz0] at hb;have S2:=(ab ht (.tup [.str z])).trans s2;obtain ⟨H3,d1,d2,o,rfl⟩:=(hF.same S2).put (by omega) z (bz (.str z),1) hb;refine ⟨_,d1,(s1.trans S2).upd hp _,?_⟩;rw[aan,hx',acf,←Fi];exact d2
 ·rintro σ H1 ⟨v4,rfl,s1,hF⟩;rw[aa3,aau] at hF;push_cast [and_true];have hi:∀(i:Nat) (σ:L2.St) (H':Hp),(∃(v4 v5:Option V) (ψ:Phi),σ=[some (.str r),some (.ref l),some (.ref da),some (.ref p),v4,v5]∧ag H H'∧FD H' p ψ (zs.length+i)∧POk ψ∧cn ψ (ts.drop i)=some φ)→SqT K H' da (as.map V.ref):=λi σ H' ⟨_,_,_,_,h,_⟩=>SqT.of (h _ _ ha);refine ⟨⟨_,SqT.of (s1 _ _ ha)⟩,dm (xs:=as.map V.ref) (λi σ H'=>∃(v4 v5:Option V) (ψ:Phi),σ=[some (.str r),some (.ref l),some (.ref da),some (.ref p),v4,v5]∧ag H H'∧FD H' p ψ (zs.length+i)∧POk ψ∧cn ψ (ts.drop i)=some φ) ⟨v4,none,_,rfl,s1,hF,POk.zero hz,hφ⟩ (λi σ H' _ h=>hi i σ H' h) ?_ ?_⟩
  ·clear hF s1 H1 v4;rintro i x σ H1 hx ⟨v4,v5,ψ,rfl,s1,hF,hP,hd⟩;obtain ⟨t,ht,rfl⟩:=mr hx;have hi:i < ts.length:=by
    rw[←hT.1];exact (List.getElem?_eq_some_iff.mp ht).1
   have h1:=hT.2 i t _ ht (aa2 hi);rw[aay hi] at hd;obtain ⟨⟨b,y⟩,e1,e2⟩:=Option.bind_eq_some_iff.mp hd;have hD:=Ed e1;generalize ts[i]=tt at h1 hD;push_cast [pq];have a1:atI tt 1=some (.str b):=by cases hD <;> exact cb (j:=1) rfl
   refine ⟨_,s1 _ _ h1,ψ,⟨_,hF⟩,hP,b,y,hD,λa H2 s2 hf=>de ((s1.trans s2) _ _ h1) a1 ?_⟩;obtain ⟨H3,d1,d2,o,rfl⟩:=(hF.same s2).put (by omega) b y hf;exact ⟨_,d1,(s1.trans s2).upd hp _,_,d2,hP.put (hD.ok hP),e2⟩
  ·clear hF s1 H1 v4;rintro σ H1 ⟨v4,v5,ψ,rfl,s1,hF,hP,hd⟩;rw[aa3,hT.1,ac9] at hd;cases aa6 hd
   push_cast [and_true];obtain ⟨a,g,hf⟩:=hF.get ho;exact ⟨_,g,jv ⟨_,g,q a H1 s1 hf⟩⟩
noncomputable abbrev fb:Stmt:=top 20
theorem Fp:aj ["rows","found","names","factor","name"] ["rows"] (ae fb):=⟨rfl,rfl,rfl,by decide+kernel,rfl,by decide+kernel,by decide+kernel⟩
theorem Cf (G:Gs w K mg) (D:Def K mg "names_in" fb ["rows"]):Has P w K mg base (k+1) "names_in" ["rows"] b9:=D.has Fp (λvs H Q E h=>h.elim) (λf cdv A outer s H vs Q E hr h=>h.elim)
noncomputable abbrev qw:Stmt:=top 21
theorem scMost:aj ["rows","most","names","factor","name"] ["rows"] (ae qw):=⟨rfl,rfl,rfl,by decide+kernel,rfl,by decide+kernel,by decide+kernel⟩
theorem Lv (G:Gs w K mg) (D:Def K mg "most_times" qw ["rows"]):Has P w K mg base (k+1) "most_times" ["rows"] b9:=D.has scMost (λvs H Q E h=>h.elim) (λf cdv A outer s H vs Q E hr h=>h.elim)
noncomputable abbrev qh:Stmt:=top 22
theorem scRepl:aj ["form","name","value","rows","names","factor","rest","product","turn"] ["form","name","value"] (ae qh):=⟨rfl,rfl,rfl,by decide+kernel,rfl,by decide+kernel,by decide+kernel⟩
theorem K5 (G:Gs w K mg) (D:Def K mg "name_replaced" qh ["form","name","value"]):Has P w K mg base (k+1) "name_replaced" ["form","name","value"] b9:=D.has scRepl (λvs H Q E h=>h.elim) (λf cdv A outer s H vs Q E hr h=>h.elim)
noncomputable abbrev qa:Stmt:=top 23
theorem scKeep:aj ["form","name","most","value"] ["form","name","most"] (ae qa):=⟨rfl,rfl,rfl,by decide+kernel,rfl,by decide+kernel,by decide+kernel⟩
theorem Lz (G:Gs w K mg) (D:Def K mg "keeping_value" qa ["form","name","most"]):Has P w K mg base (k+1) "keeping_value" ["form","name","most"] b9:=D.has scKeep (λvs H Q E h=>h.elim) (λf cdv A outer s H vs Q E hr h=>h.elim)
noncomputable abbrev rq:Stmt:=top 24
theorem Gx:aj ["one","other","left","most","values","name"] ["one","other"] (ae rq):=⟨rfl,rfl,rfl,by decide+kernel,rfl,by decide+kernel,by decide+kernel⟩
theorem K1 (G:Gs w K mg) (h_keeping_value:Has P w K mg base k "keeping_value" ["form","name","most"] b9) (h_minus:Has P w K mg base k "minus" ["one","other"] jr) (h_most_times:Has P w K mg base k "most_times" ["rows"] b9) (h_name_replaced:Has P w K mg base k "name_replaced" ["form","name","value"] b9) (h_names_in:Has P w K mg base k "names_in" ["rows"] b9) (D:Def K mg "parting" rq ["one","other"]):Has P w K mg base (k+1) "parting" ["one","other"] pd:=by
 refine D.has Gx (λvs H Q E h=>?_) (λf cdv A outer s H vs Q E hr h=>?_)
 ·obtain ⟨_,_,_,rfl,_,_,_,_⟩:=h;rfl
 have nd:=Gx.nd;have hu:=bu hr;have hu0:=aab hu;have hu8:=sq hr;obtain ⟨a,b,f,rfl,ha,hb,hl,q⟩:=h;refine ⟨_,(A4 (A7 2 nd (by first | exact aa1 rfl | exact aa0 rfl) (A6 h_minus hr (A1 (A0 0 (by first | exact aa1 rfl | exact aa0 (aa1 rfl) | exact aa0 (aa0 rfl))) (A1 (A0 1 (by first | exact aa1 rfl | exact aa0 (aa1 rfl) | exact aa0 (aa0 rfl))) (A2 0)))) (by first | exact .inl rfl | exact .inr rfl | assumption)) (A4 (AD (AH (@op_eqG _ hu8) (A0 2 (by first | exact aa1 rfl | exact aa0 (aa1 rfl) | exact aa0 (aa0 rfl))) (AE (A2 0)) (AC 0)) (A5 (A8 (@Bf _ _ _))) (AF 0)) (A4 (A7 3 nd (by first | exact aa1 rfl | exact aa0 rfl) (A6 h_most_times hr (A1 (AA (@jq _) (A0 0 (by first | exact aa1 rfl | exact aa0 (aa1 rfl) | exact aa0 (aa0 rfl))) (A0 1 (by first | exact aa1 rfl | exact aa0 (aa1 rfl) | exact aa0 (aa0 rfl)))) (A2 0))) (by first | exact .inl rfl | exact .inr rfl | assumption)) (A4 (A7 4 nd (by first | exact aa1 rfl | exact aa0 rfl) (@sg _ _) (by first | exact .inl rfl | exact .inr rfl | assumption)) (A4 (AS (BQ (A6 h_names_in hr (A1 (AA (@jq _) (A0 0 (by first | exact aa1 rfl | exact aa0 (aa1 rfl) | exact aa0 (aa0 rfl))) (A0 1 (by first | exact aa1 rfl | exact aa0 (aa1 rfl) | exact aa0 (aa0 rfl)))) (A2 0)))) (AK 5 nd (by first | exact aa1 rfl | exact aa0 rfl) (by first | exact .inl rfl | exact .inr rfl | assumption)) (A4 (BH hu (A0 4 (by first | exact aa1 rfl | exact aa0 (aa1 rfl) | exact aa0 (aa0 rfl))) (A0 5 (by first | exact aa1 rfl | exact aa0 (aa1 rfl) | exact aa0 (aa0 rfl))) (A6 h_keeping_value hr (A1 (A0 2 (by first | exact aa1 rfl | exact aa0 (aa1 rfl) | exact aa0 (aa0 rfl))) (A1 (A0 5 (by first | exact aa1 rfl | exact aa0 (aa1 rfl) | exact aa0 (aa0 rfl))) (A1 (A0 3 (by first | exact aa1 rfl | exact aa0 (aa1 rfl) | exact aa0 (aa0 rfl))) (A2 0)))))) (A5 (A7 2 nd (by first | exact aa1 rfl | exact aa0 rfl) (A6 h_name_replaced hr (A1 (A0 2 (by first | exact aa1 rfl | exact aa0 (aa1 rfl) | exact aa0 (aa0 rfl))) (A1 (A0 5 (by first | exact aa1 rfl | exact aa0 (aa1 rfl) | exact aa0 (aa0 rfl))) (A1 (BM hu (A0 4 (by first | exact aa1 rfl | exact aa0 (aa1 rfl) | exact aa0 (aa0 rfl))) (A0 5 (by first | exact aa1 rfl | exact aa0 (aa1 rfl) | exact aa0 (aa0 rfl)))) (A2 0))))) (by first | exact .inl rfl | exact .inr rfl | assumption))))) (A5 (A8 (A0 4 (by first | exact aa1 rfl | exact aa0 (aa1 rfl) | exact aa0 (aa0 rfl)))))))))),?_⟩;rw[show start ["one","other","left","most","values","name"] [.ref a,.ref b]=[some (.ref a),some (.ref b),none,none,none,none] from rfl];clear hu hu0 nd hr;push_cast [b9,jr,b9,b9,b9];refine ⟨f,ha,f,hb,by omega,λc H1 s1 hc=>⟨aac _,λp hp=>?_⟩⟩;push_cast [rEqG];refine ⟨_,hc.keep (TK.of (ab hp _)),[],⟨[],aa,bj.nil _⟩,?_⟩;rw[if_pos (Az f)];exact q _ (s1.trans (ab hp _))
noncomputable abbrev Bs:Stmt:=top 35
theorem scUns:aj ["rule","shape","deeds","kinds","names","done","said","worths"] ["rule","shape","deeds","kinds"] (ae Bs):=⟨rfl,rfl,rfl,by decide+kernel,rfl,by decide+kernel,by decide+kernel⟩
theorem hasUns (G:Gs w K mg) (h_form_of:Has P w K mg base k "form_of" ["words"] (dw K)) (h_leaf_names:Has P w K mg base k "leaf_names" ["shape","kinds"] (mq K)) (h_out_form:Has P w K mg base k "out_form" ["rule","leaves","deeds"] (we K)) (h_parting:Has P w K mg base k "parting" ["one","other"] pd) (D:Def K mg "refuse_unsound" Bs ["rule","shape","deeds","kinds"]):Has P w K mg base (k+1) "refuse_unsound" ["rule","shape","deeds","kinds"] (C0 K):=by
 refine D.has scUns (λvs H Q E h=>?_) (λf cdv A outer s H vs Q E hr h=>?_)
 ·obtain ⟨_,_,_,_,_,_,_,_,rfl,_,_,_,_,_,_,_⟩:=h;rfl
 have nd:=scUns.nd;have hu:=bu hr;have hu0:=aab hu;obtain ⟨r,st,da,kt,sh,as,ts,kinds,rfl,hS,hD,hT,htl,hK,hs,q⟩:=h;have m_tuple:=G.m_tuple;have m_zip:=G.m_zip;refine ⟨_,(A4 (A7 4 nd (by first | exact aa1 rfl | exact aa0 rfl) (A6 h_leaf_names hr (A1 (A0 1 (by first | exact aa1 rfl | exact aa0 (aa1 rfl) | exact aa0 (aa0 rfl))) (A1 (A0 3 (by first | exact aa1 rfl | exact aa0 (aa1 rfl) | exact aa0 (aa0 rfl))) (A2 0)))) (by first | exact .inl rfl | exact .inr rfl | assumption)) (A4 (A7 5 nd (by first | exact aa1 rfl | exact aa0 rfl) (A6 h_out_form hr (A1 (A0 0 (by first | exact aa1 rfl | exact aa0 (aa1 rfl) | exact aa0 (aa0 rfl))) (A1 (B6 (AZ ["name"] [] [] trivial trivial) (BQ (A0 4 (by first | exact aa1 rfl | exact aa0 (aa1 rfl) | exact aa0 (aa0 rfl)))) (λ_ _ _=>(AV 0 (show abe (["name"]:List Str) by decide+kernel) (by first | exact .inl rfl | exact .inr rfl | assumption))) (λ_ _ _=>(@pif1 _ _ _ (AH (@kz _) (A0 0 (by first | exact aa1 rfl | exact aa0 (aa1 rfl) | exact aa0 (aa0 rfl))) (A9 0) (AC 0)))) (λ_ _ _=>(A0 0 (by first | exact aa1 rfl | exact aa0 (aa1 rfl) | exact aa0 (aa0 rfl))))) (A1 (A0 2 (by first | exact aa1 rfl | exact aa0 (aa1 rfl) | exact aa0 (aa0 rfl))) (A2 0))))) (by first | exact .inl rfl | exact .inr rfl | assumption)) (A4 (A7 6 nd (by first | exact aa1 rfl | exact aa0 rfl) (A6 h_form_of hr (A1 (AY (BA 0) m_tuple cu (A1 (B6 (AZ ["word","name"] [] [] trivial trivial) (@pi_zip _ true _ _ _ _ _ _ rfl m_zip (aa0 (aec _ (aec _ (aec _ rfl)))) (A1 (A0 1 (by first | exact aa1 rfl | exact aa0 (aa1 rfl) | exact aa0 (aa0 rfl))) (A1 (A0 4 (by first | exact aa1 rfl | exact aa0 (aa1 rfl) | exact aa0 (aa0 rfl))) (A2 0))) (by rfl) (by rfl)) (λ_ _ _=>(BX K (AN (AV 0 (show abe (["word","name"]:List Str) by decide+kernel) (by first | exact .inl rfl | exact .inr rfl | assumption)) (AN (AV 1 (show abe (["word","name"]:List Str) by decide+kernel) (by first | exact .inl rfl | exact .inr rfl | assumption)) (B9 0))))) (λ_ _ _=>(@zg _)) (λ_ _ _=>(BZ (AH (AL 0) (A0 1 (by first | exact aa1 rfl | exact aa0 (aa1 rfl) | exact aa0 (aa0 rfl))) (A9 0) (AC 0)) (A0 0 (by first | exact aa1 rfl | exact aa0 (aa1 rfl) | exact aa0 (aa0 rfl))) (A0 1 (by first | exact aa1 rfl | exact aa0 (aa1 rfl) | exact aa0 (aa0 rfl)))))) (A2 0))) (A2 0))) (by first | exact .inl rfl | exact .inr rfl | assumption)) (A4 (A7 7 nd (by first | exact aa1 rfl | exact aa0 rfl) (A6 h_parting hr (A1 (A0 5 (by first | exact aa1 rfl | exact aa0 (aa1 rfl) | exact aa0 (aa0 rfl))) (A1 (A0 6 (by first | exact aa1 rfl | exact aa0 (aa1 rfl) | exact aa0 (aa0 rfl))) (A2 0)))) (by first | exact .inl rfl | exact .inr rfl | assumption)) (A5 (AD (BN (@M5 _ _ _ _ _ (A0 7 (by first | exact aa1 rfl | exact aa0 (aa1 rfl) | exact aa0 (aa0 rfl)))) (by first | exact gk _ (by decide) (by decide) | rfl)) (A5 (@gq _ _)) (AF 0))))))),?_⟩;rw[show start ["rule","shape","deeds","kinds","names","done","said","worths"] [.str r,.ref st,.ref da,.ref kt]=[some (.str r),some (.ref st),some (.ref da),some (.ref kt),none,none,none,none] from rfl];clear hu hu0 nd hr;push_cast [dw,mq,we,pd];have sz:=sizeLine_eq;have hl:=hs.len;obtain ⟨φ,m,e1,e2⟩:=hs.out;obtain ⟨f1,f2,f3,f4⟩:=hs.form;have nl:(nms kinds sh).length≤12:=by rw[mf];exact hl
 refine ⟨sh,SqT.of hS,kinds,SqT.of hK,λw hw=>(hs.word w hw).isW,hl,λl H1 s1 hl0 hN=>⟨⟨_,SqL.of hN⟩,λD hD1=>?_⟩⟩;refine wb (λi ys=>ys=(((nms kinds sh).take i).filter λz=>decide (z≠lO)).map V.str) (SqL.of hN) (by rw[aa3];omega) hD1 rfl (λi x ys H2 G' K' hx hP hl2 hS2 hG hK2=>?_) λys H2 hP hl2 hS2 hD2=>?_
 ·rw[aae] at hx;obtain ⟨z,hx',rfl⟩:=Option.map_eq_some_iff.mp hx;have et:(nms kinds sh).take (i+1)=(nms kinds sh).take i++[z]:=by rw[aan,hx'];rfl
  push_cast [and_true];refine ⟨rfl,?_⟩;by_cases c:z=lO
  ·rw[if_neg (by rw[c];simp[lO])];refine hG _ (ag.refl _) ?_;rw[hP,et,ab2,ab4,if_neg (by simp[c]),ac3,aaz]
  ·rw[if_pos (by simpa [lO] using c)];refine hK2 _ _ (ag.refl _) ?_;rw[hP,et,ab2,ab4,if_pos (by simp[c]),ac3,aag];rfl
 rw[aa3,aau] at hP;have S2:=s1.trans hS2;refine ⟨lvs kinds sh,by rw[hD2,hP];rfl,aal (abb _ _) nl,λz hz=>(Ic hl z hz).1,as,S2 _ _ hD,ts,hT.keep (Tk.of S2),htl,φ,e1,_,⟨m,e2⟩,λa H3 s3 hf=>?_⟩;have S3:=S2.trans s3;have hN3:=s3 _ _ (hS2 _ _ hN);push_cast [iZip,tNotN];refine ⟨⟨sh,SqT.of (S3 _ _ hS)⟩,⟨_,SqL.of hN3⟩,λD2 hD3=>?_⟩;refine se sh.length (λi x y H'=>sh[i]?=some x∧∃z,(nms kinds sh)[i]?=some z∧y=.str z) (λi ys _=>ys=(du kinds sh).take i) (λi ys H' H'' _ h=>h) rfl (by omega) hD3 (λi H' hi hs'=>?_) (λi H' v H'' hi hs' hy=>?_) (λH' hs'=>⟨sh,_,SqT.of (hs' _ _ (S3 _ _ hS)),SqL.of (hs' _ _ hN3),aa4 _⟩) rfl (λi x y ys H' G' K' hi hR hP' hl3 hs' hG hK3=>?_) λys H' hP' hl3 hs' hD4=>?_
 ·refine ⟨sh,_,sh[i],.str ((nms kinds sh)[i]'(by rw[mf];exact hi)),SqT.of (hs' _ _ (S3 _ _ hS)),SqL.of (hs' _ _ hN3),aa2 hi,?_⟩;rw[aae,aa2 (by rw[mf];exact hi)];rfl
 ·obtain ⟨p,u,v',h1,h2,h3,rfl,rfl⟩:=hy;have k1:=h1 sh (SqT.of (hs' _ _ (S3 _ _ hS)));have k2:=h2 _ (SqL.of (hs' _ _ hN3));rw[aae] at k2;obtain ⟨z,k3,rfl⟩:=Option.map_eq_some_iff.mp k2;exact ⟨ab h3 _,p,u,_,rfl,SqT.of aa,k1,z,k3,rfl⟩
 ·obtain ⟨k1,z,k2,rfl⟩:=hR;have ez:=Jm (kinds:=kinds) k1;rw[k2] at ez;have ez:=aa6 ez;have tl:(sh.take i).length≤12:=by rw[aad];omega
  have el:(du kinds sh)[i]?=some (fo kinds (sh.take i) x):=Dk sh [] i x k1;have et:(du kinds sh).take (i+1)=(du kinds sh).take i++[if z=lO then x else .str z]:=by rw[aan,el,Ft tl,ez];rfl
  push_cast [and_true];refine ⟨rfl,?_⟩;by_cases c:z=lO
  ·rw[if_pos (by rw[c];rfl)];exact hK3 _ _ (ag.refl _) (by rw[hP',et,if_pos c])
  ·rw[if_neg (by simpa [lO] using c)];exact hK3 _ _ (ag.refl _) (by rw[hP',et,if_neg c])
 ·have hy:ys=du kinds sh:=by rw[hP',←kq kinds sh,aau]
  subst hy;refine ⟨_,.inl ⟨SqL.of hD4,λt ht=>⟨_,SqT.of aa,⟨SS,f2⟩,f1,f3,λb H5 s5 hb=>⟨_,hf.keep (TK.of (hs'.trans ((ab ht _).trans s5))),hb,by omega,λH6 s6=>?_⟩⟩⟩⟩;rw[if_neg (by decide)];exact q _ (S3.trans (hs'.trans ((ab ht _).trans (s5.trans s6))))
noncomputable abbrev j8:Stmt:=top 36
theorem Cn:aj ["book","kinds","taken","kind","rule","price","shape","deeds"] ["book"] (ae j8):=⟨rfl,rfl,rfl,by decide+kernel,rfl,by decide+kernel,by decide+kernel⟩
theorem G2 (G:Gs w K mg) (h_is_shape:Has P w K mg base k "is_shape" ["words","kinds"] (jo K)) (h_refuse_unsound:Has P w K mg base k "refuse_unsound" ["rule","shape","deeds","kinds"] (C0 K)) (h_take_name:Has P w K mg base k "take_name" ["name","taken"] qj) (D:Def K mg "sound" j8 ["book"]):Has P w K mg base (k+1) "sound" ["book"] ph:=by
 refine D.has Cn (λvs H Q E h=>?_) (λf cdv A outer s H vs Q E hr h=>?_)
 ·obtain ⟨_,_,_,rfl,_,_,_,_,_,_⟩:=h;rfl
 have nd:=Cn.nd;have hu:=bu hr;have hu0:=aab hu;obtain ⟨b,kinds,rs,rfl,hB,hN,hk,hrl,hs,q⟩:=h;refine ⟨_,(A4 (A7 1 nd (by first | exact aa1 rfl | exact aa0 rfl) (AB (@fg _) (A0 0 (by first | exact aa1 rfl | exact aa0 (aa1 rfl) | exact aa0 (aa0 rfl))) (A3 0)) (by first | exact .inl rfl | exact .inr rfl | assumption)) (A4 (A7 2 nd (by first | exact aa1 rfl | exact aa0 rfl) (@sg _ _) (by first | exact .inl rfl | exact .inr rfl | assumption)) (A4 (AS (B5 (A0 1 (by first | exact aa1 rfl | exact aa0 (aa1 rfl) | exact aa0 (aa0 rfl)))) (AK 3 nd (by first | exact aa1 rfl | exact aa0 rfl) (by first | exact .inl rfl | exact .inr rfl | assumption)) (A5 (AR (A6 h_take_name hr (A1 (A0 3 (by first | exact aa1 rfl | exact aa0 (aa1 rfl) | exact aa0 (aa0 rfl))) (A1 (A0 2 (by first | exact aa1 rfl | exact aa0 (aa1 rfl) | exact aa0 (aa0 rfl))) (A2 0))))))) (A4 (AS (B5 (AB (@fg _) (A0 0 (by first | exact aa1 rfl | exact aa0 (aa1 rfl) | exact aa0 (aa0 rfl))) (A3 0))) (BG 5 (AN (AK 4 nd (by first | exact aa1 rfl | exact aa0 rfl) (by first | exact .inl rfl | exact .inr rfl | assumption)) (AN (AK 3 nd (by first | exact aa1 rfl | exact aa0 rfl) (by first | exact .inl rfl | exact .inr rfl | assumption)) (AN (AK 5 nd (by first | exact aa1 rfl | exact aa0 rfl) (by first | exact .inl rfl | exact .inr rfl | assumption)) (AN (AK 6 nd (by first | exact aa1 rfl | exact aa0 rfl) (by first | exact .inl rfl | exact .inr rfl | assumption)) (AN (AK 7 nd (by first | exact aa1 rfl | exact aa0 rfl) (by first | exact .inl rfl | exact .inr rfl | assumption)) (B9 0))))))) (A4 (AR (A6 h_take_name hr (A1 (A0 4 (by first | exact aa1 rfl | exact aa0 (aa1 rfl) | exact aa0 (aa0 rfl))) (A1 (A0 2 (by first | exact aa1 rfl | exact aa0 (aa1 rfl) | exact aa0 (aa0 rfl))) (A2 0))))) (A4 (AD (BJ (@xc _) (A0 3 (by first | exact aa1 rfl | exact aa0 (aa1 rfl) | exact aa0 (aa0 rfl))) (A0 1 (by first | exact aa1 rfl | exact aa0 (aa1 rfl) | exact aa0 (aa0 rfl)))) (A5 (@gq _ _)) (AF 0)) (A4 (AD (@xk _ _ _ _ (B7 (A6 h_is_shape hr (A1 (A0 6 (by first | exact aa1 rfl | exact aa0 (aa1 rfl) | exact aa0 (aa0 rfl))) (A1 (A0 1 (by first | exact aa1 rfl | exact aa0 (aa1 rfl) | exact aa0 (aa0 rfl))) (A2 0)))))) (A5 (@gq _ _)) (AF 0)) (A5 (AR (A6 h_refuse_unsound hr (A1 (A0 4 (by first | exact aa1 rfl | exact aa0 (aa1 rfl) | exact aa0 (aa0 rfl))) (A1 (A0 6 (by first | exact aa1 rfl | exact aa0 (aa1 rfl) | exact aa0 (aa0 rfl))) (A1 (A0 7 (by first | exact aa1 rfl | exact aa0 (aa1 rfl) | exact aa0 (aa0 rfl))) (A1 (A0 1 (by first | exact aa1 rfl | exact aa0 (aa1 rfl) | exact aa0 (aa0 rfl))) (A2 0)))))))))))) (A5 (A8 (A0 0 (by first | exact aa1 rfl | exact aa0 (aa1 rfl) | exact aa0 (aa0 rfl))))))))),?_⟩;rw[show start ["book","kinds","taken","kind","rule","price","shape","deeds"] [.ref b]=[some (.ref b),none,none,none,none,none,none,none] from rfl];clear hu hu0 nd hr;push_cast [and_true];have sz:=sizeLine_eq;obtain ⟨kt,rt,ra,b1,b2,b3,b4⟩:=id hB;refine de b1 (cb (j:=0) rfl) λp hp=>⟨kt,rfl,⟨_,SqT.of (ab hp _ _ _ b2)⟩,dm (xs:=kinds.map V.str) (λi σ H'=>∃v3:Option V,σ=[some (.ref b),some (.ref kt),some (.ref p),v3,none,none,none,none]∧ag H H'∧H' p=some (.dK ((kinds.take i).map λy=>(Sum.inr y,V.bl true)))) ⟨none,rfl,ab hp _,aa⟩ (λi σ H' _ h=>?_) ?_ ?_⟩
 ·obtain ⟨_,_,h,_⟩:=h;exact SqT.of (h _ _ b2)
 ·rintro i x σ H1 hx ⟨v3,rfl,s1,hp1⟩;rw[aae] at hx;obtain ⟨z,hx',rfl⟩:=Option.map_eq_some_iff.mp hx;have et:kinds.take (i+1)=kinds.take i++[z]:=by rw[aan,hx'];rfl
  have hz:z∉kinds.take i:=λhm=>by
   have:=(List.nodup_append.mp hN).1;rw[←ab3 (i+1) kinds,et] at this;exact (List.nodup_append.mp (List.nodup_append.mp this).1).2.2 z hm z (List.mem_singleton.mpr rfl) rfl
  push_cast [qj];refine ⟨_,hp1,hz,by rw[aad];omega,λH2 s2 hp2=>⟨av.fresh ((av.of s1).trans s2) hp,?_⟩⟩;rw[et];exact hp2
 ·rintro σ H1 ⟨v3,rfl,s1,hp1⟩;rw[aa3,aau] at hp1;push_cast [and_true];refine de (s1 _ _ b1) (cb (j:=1) rfl) ⟨rt,rfl,⟨_,SqT.of (s1 _ _ b3)⟩,dm (xs:=ra.map V.ref) (λi σ H'=>∃v3 v4 v5 v6 v7:Option V,σ=[some (.ref b),some (.ref kt),some (.ref p),v3,v4,v5,v6,v7]∧ag H H'∧H' p=some (.dK ((kinds++(rs.take i).map (·.name)).map λy=>(Sum.inr y,V.bl true)))) ⟨v3,none,none,none,none,rfl,s1,by rw[ach,ac6,aaz];exact hp1⟩ (λi σ H' _ h=>?_) ?_ ?_⟩
  ·obtain ⟨_,_,_,_,_,_,h,_⟩:=h;exact SqT.of (h _ _ b3)
  ·clear hp1 s1 H1 v3;rintro i x σ H1 hx ⟨v3,v4,v5,v6,v7,rfl,s1,hp1⟩;obtain ⟨a,ha,rfl⟩:=mr hx;have hi:i < rs.length:=by
    rw[←b4.1];exact (List.getElem?_eq_some_iff.mp ha).1
   have hri:rs[i]?=some rs[i]:=aa2 hi;obtain ⟨sa,da,as,r1,r2,r3,r4⟩:=b4.2 i a _ ha hri;obtain ⟨k1,k2,k3⟩:=hs _ (abg hi);have et:(rs.take (i+1)).map (·.name)=(rs.take i).map (·.name)++[rs[i].name]:=by rw[aan,hri,acf,aag];rfl
   have hz:rs[i].name∉kinds++(rs.take i).map (·.name):=λhm=>by
    have h:=hN;rw[←ab3 (i+1) rs,aag,et,←ab5,←ab5] at h;exact (List.nodup_append.mp (List.nodup_append.mp h).1).2.2 _ hm _ (List.mem_singleton.mpr rfl) rfl
   have ln:(kinds++(rs.take i).map (·.name)).length≤100:=by
    rw[aa5,aa3,aad];omega
   generalize rs[i]=r at r1 r2 r3 r4 k1 k2 k3 et hz;refine Ig (s1 _ _ r1) rfl ?_;push_cast [qj,jo,C0,rIn];have fl:(kinds.map V.str).all gi=true:=List.all_eq_true.mpr λx hx=>by obtain ⟨z,_,rfl⟩:=List.mem_map.mp hx;rfl
   refine ⟨_,hp1,hz,ln,λH2 s2 hp2=>⟨_,.inr (SqT.of ((av.fresh ((av.of s1).trans s2) hp) _ _ b2)),rfl,fl,?_⟩⟩;have S2:=av.fresh ((av.of s1).trans s2) hp;rw[if_neg (by rw[show inV (V.str r.kind) (kinds.map V.str)=true from pk (List.mem_map.mpr ⟨_,k1,rfl⟩)];decide)];refine ⟨_,SqT.of (S2 _ _ r2),kinds,SqT.of (S2 _ _ b2),k2.word,k2.term,k2.len,λH3 s3=>?_⟩;have S3:=S2.trans s3;rw[if_neg (by decide)];refine ⟨_,S3 _ _ r2,as,S3 _ _ r3,_,r4.keep (Tk.of S3),k3,kinds,S3 _ _ b2,k2,λH4 s4=>⟨S3.trans s4,?_⟩⟩;rw[et,←ab5];exact (s3.trans s4) _ _ hp2
  ·rintro σ H2 ⟨v3,v4,v5,v6,v7,rfl,s2,_⟩;push_cast [and_true];exact q H2 s2
noncomputable abbrev si:Stmt:=top 38
theorem Hr:aj ["cell","k"] ["cell","k"] (ae si):=⟨rfl,rfl,rfl,by decide+kernel,rfl,by decide+kernel,by decide+kernel⟩
theorem Mc (G:Gs w K mg) (D:Def K mg "_law_hand" si ["cell","k"]):Has P w K mg base (k+1) "_law_hand" ["cell","k"] An:=by
 refine D.has Hr (λvs H Q E h=>?_) (λf cdv A outer s H vs Q E hr h=>?_)
 ·obtain ⟨_,_,rfl,_,_⟩:=h;rfl
 have nd:=Hr.nd;have hu:=bu hr;have hu0:=aab hu;obtain ⟨c,k,rfl,hk,q⟩:=h;refine ⟨_,(A5 (A8 (AM (A1 (A3 0) (A1 (AA (@gs _) (AA (@w8 _) (AA (AO 0) (AA (AO 0) (AA (@gs _) (A0 0 (by first | exact aa1 rfl | exact aa0 (aa1 rfl) | exact aa0 (aa0 rfl))) (A3 0)) (AA (@w8 _) (A3 0) (A0 1 (by first | exact aa1 rfl | exact aa0 (aa1 rfl) | exact aa0 (aa0 rfl))))) (A3 0)) (A3 0)) (A3 0)) (A1 (A0 0 (by first | exact aa1 rfl | exact aa0 (aa1 rfl) | exact aa0 (aa0 rfl))) (A2 0))))))),?_⟩;rw[show start ["cell","k"] [.int c,.int (k:Int)]=[some (.int c),some (.int (k:Int))] from rfl];clear hu hu0 nd hr;push_cast [and_true];have e0:0≤c % 1000000007:=abt _ (by decide);have e1:c % 1000000007 < 1000000007:=abr _ (by decide);refine ⟨.inl ⟨by decide,by decide⟩,.inr ⟨by decide,by decide⟩,by show (3:Nat)≤sizeLine;decide,λp hp=>q p _ (ab hp _) hp ⟨_,_,_,aa,ads _,ads _,abt _ (by decide),abr _ (by decide)⟩⟩
noncomputable abbrev qu:Stmt:=top 39
theorem Ke:aj ["hand","limit","found"] ["hand","limit"] (ae qu):=⟨rfl,rfl,rfl,by decide+kernel,rfl,by decide+kernel,by decide+kernel⟩
theorem Mj (G:Gs w K mg) (D:Def K mg "_law_draw" qu ["hand","limit"]):Has P w K mg base (k+1) "_law_draw" ["hand","limit"] gz:=by
 refine D.has Ke (λvs H Q E h=>?_) (λf cdv A outer s H vs Q E hr h=>?_)
 ·obtain ⟨_,_,_,rfl,_,_,_,_,_⟩:=h;rfl
 have nd:=Ke.nd;have hu:=bu hr;have hu0:=aab hu;obtain ⟨h,m,n,rfl,hh,hn,hm,hb,q⟩:=h;refine ⟨_,(A4 (AD (BC (BR (AH (@Hy _) (AB (AJ 0) (A0 0 (by first | exact aa1 rfl | exact aa0 (aa1 rfl) | exact aa0 (aa0 rfl))) (A3 0)) (A3 0) (AC 0)) (BS (AH (@Ai _) (AB (AJ 0) (A0 0 (by first | exact aa1 rfl | exact aa0 (aa1 rfl) | exact aa0 (aa0 rfl))) (A3 0)) (BL (@m6 _) (A3 0)) (AC 0))))) (A4 (A7 2 nd (by first | exact aa1 rfl | exact aa0 rfl) (AA (@gs _) (AB (AJ 0) (A0 0 (by first | exact aa1 rfl | exact aa0 (aa1 rfl) | exact aa0 (aa0 rfl))) (A3 0)) (A0 1 (by first | exact aa1 rfl | exact aa0 (aa1 rfl) | exact aa0 (aa0 rfl)))) (by first | exact .inl rfl | exact .inr rfl | assumption)) (A4 (BT (AA (@xv _) (AB (AJ 0) (A0 0 (by first | exact aa1 rfl | exact aa0 (aa1 rfl) | exact aa0 (aa0 rfl))) (A3 0)) (A0 1 (by first | exact aa1 rfl | exact aa0 (aa1 rfl) | exact aa0 (aa0 rfl)))) (BU (A0 0 (by first | exact aa1 rfl | exact aa0 (aa1 rfl) | exact aa0 (aa0 rfl))) (A3 0) (@set_list _))) (A5 (A8 (A0 2 (by first | exact aa1 rfl | exact aa0 (aa1 rfl) | exact aa0 (aa0 rfl))))))) (AF 0)) (A4 (BT (AA (AO 0) (AB (AJ 0) (A0 0 (by first | exact aa1 rfl | exact aa0 (aa1 rfl) | exact aa0 (aa0 rfl))) (A3 0)) (A3 0)) (BU (A0 0 (by first | exact aa1 rfl | exact aa0 (aa1 rfl) | exact aa0 (aa0 rfl))) (A3 0) (@set_list _))) (A4 (BT (AA (@gs _) (AA (AO 0) (AA (AO 0) (AA (@C4 _) (AB (AJ 0) (A0 0 (by first | exact aa1 rfl | exact aa0 (aa1 rfl) | exact aa0 (aa0 rfl))) (A3 0)) (AB (AJ 0) (A0 0 (by first | exact aa1 rfl | exact aa0 (aa1 rfl) | exact aa0 (aa0 rfl))) (A3 0))) (AA (@w8 _) (A3 0) (AB (AJ 0) (A0 0 (by first | exact aa1 rfl | exact aa0 (aa1 rfl) | exact aa0 (aa0 rfl))) (A3 0)))) (A3 0)) (A3 0)) (BU (A0 0 (by first | exact aa1 rfl | exact aa0 (aa1 rfl) | exact aa0 (aa0 rfl))) (A3 0) (@set_list _))) (A5 (A8 (AA (@gs _) (AA (@xv _) (AB (AJ 0) (A0 0 (by first | exact aa1 rfl | exact aa0 (aa1 rfl) | exact aa0 (aa0 rfl))) (A3 0)) (A3 0)) (A0 1 (by first | exact aa1 rfl | exact aa0 (aa1 rfl) | exact aa0 (aa0 rfl))))))))),?_⟩;rw[show start ["hand","limit","found"] [.ref h,.int m]=[some (.ref h),some (.int m),none] from rfl];clear hu hu0 nd hr;push_cast [gSub,Je];obtain ⟨a,b,c,h1,a0,an,b0,b1⟩:=hh;refine aw h1 rfl ?_;push_cast [and_true];have x0:0≤c % m:=abt _ (by omega);have x1:c % m < m:=abr _ hm;have one:rIxL K (V.ref h) (V.int 2) H λx H1=>(match x,V.int m with | V.int i,V.int j=>0 < j∧rIxL K (V.ref h) (V.int 2) H1 λx H1=>∃i_1,x=V.int i_1∧CDivB i_1 m∧∃x,H1 h=some (HO.lst x)∧∃x_1,ixN x.length 2=some x_1∧Q (V.int (i % j)) (upd H1 h (HO.lst (x.set x_1 (V.int (i_1 / m))))) | x,x_1=>False):=
  aw h1 rfl ⟨hm,aw h1 rfl ⟨c,rfl,⟨hm,hb⟩,_,h1,2,rfl,q _ _ (λb o nb ho=>by rw[af nb];exact ho) ⟨a,b,c / m,aa,a0,by omega,b0,b1⟩ x0 x1⟩⟩
 refine cx (λ_=>one) λ_=>aw h1 rfl ?_;push_cast [and_true];refine cx (λ_=>one) λ_=>aw h1 rfl ?_;have bb:b.natAbs < 2 ^ 40:=aah (show b.natAbs < 1000000007 by omega) (by decide);refine ⟨_,h1,0,rfl,aw aa rfl (aw aa rfl ⟨b,rfl,b,rfl,⟨⟨40,by decide,bb⟩,⟨40,by decide,bb⟩⟩,aw aa rfl ⟨.inl ⟨by decide,by decide⟩,_,aa,1,rfl,aw aa rfl ⟨_,rfl,⟨by decide,by decide+kernel⟩,hm,?_⟩⟩⟩)⟩;refine q _ _ (λb' o nb ho=>by rw[af nb,af nb];exact ho) ⟨_,_,_,aa,?_,?_,abt _ (by decide),abr _ (by decide)⟩ (abt _ (by omega)) (abr _ hm)
 ·omega
 ·omega
noncomputable abbrev ib:Stmt:=top 40
theorem za:aj ["hand","size","letters","base","at","shift","names","k","middle","name"] ["hand","size"] (ae ib):=⟨rfl,rfl,rfl,by decide+kernel,rfl,by decide+kernel,by decide+kernel⟩
theorem Es (G:Gs w K mg) (h_law_draw:Has P w K mg base k "_law_draw" ["hand","limit"] gz) (D:Def K mg "_law_names" ib ["hand","size"]):Has P w K mg base (k+1) "_law_names" ["hand","size"] nq:=by
 refine D.has za (λvs H Q E h=>?_) (λf cdv A outer s H vs Q E hr h=>?_)
 ·obtain ⟨_,rfl,_,_⟩:=h;rfl
 have nd:=za.nd;have hu:=bu hr;have hu0:=aab hu;obtain ⟨h,rfl,hh,q⟩:=h;have m_len:=G.m_len;have m_range:=G.m_range;refine ⟨_,(A4 (A7 2 nd (by first | exact aa1 rfl | exact aa0 rfl) (A9 0) (by first | exact .inl rfl | exact .inr rfl | assumption)) (A4 (A7 3 nd (by first | exact aa1 rfl | exact aa0 rfl) (AQ PySem.F.plainAttrs_str PySem.F.slot_str_join PySem.F.type_str_join (@Ma _) (A9 0) (A1 (B6 (AZ ["k"] ["letters","hand"] [2,0] (aaq rfl (aaq rfl trivial)) (aaq (aaq rfl (aaq rfl rfl)) (aaq (aaq rfl (aaq rfl rfl)) trivial))) (BI m_range (A1 (A6 h_law_draw hr (A1 (A0 0 (by first | exact aa1 rfl | exact aa0 (aa1 rfl) | exact aa0 (aa0 rfl))) (A1 (A3 0) (A2 0)))) (A2 0))) (λ_ _ _=>(AV 0 (show abe (["k","letters","hand"]:List Str) by decide+kernel) (by first | exact .inl rfl | exact .inr rfl | assumption))) (λ_ _ _=>(@zg _)) (λ_ _ _=>(AB (@ip _) (A0 1 (by first | exact aa1 rfl | exact aa0 (aa1 rfl) | exact aa0 (aa0 rfl))) (A6 h_law_draw hr (A1 (A0 2 (by first | exact aa1 rfl | exact aa0 (aa1 rfl) | exact aa0 (aa0 rfl))) (A1 (A3 0) (A2 0))))))) (A2 0))) (by first | exact .inl rfl | exact .inr rfl | assumption)) (A4 (A7 4 nd (by first | exact aa1 rfl | exact aa0 rfl) (A6 h_law_draw hr (A1 (A0 0 (by first | exact aa1 rfl | exact aa0 (aa1 rfl) | exact aa0 (aa0 rfl))) (A1 (AA (AO 0) (AG (@w4 _) m_len d8 (A1 (A0 3 (by first | exact aa1 rfl | exact aa0 (aa1 rfl) | exact aa0 (aa0 rfl))) (A2 0))) (A3 0)) (A2 0)))) (by first | exact .inl rfl | exact .inr rfl | assumption)) (A4 (A7 5 nd (by first | exact aa1 rfl | exact aa0 rfl) (A6 h_law_draw hr (A1 (A0 0 (by first | exact aa1 rfl | exact aa0 (aa1 rfl) | exact aa0 (aa0 rfl))) (A1 (A3 0) (A2 0)))) (by first | exact .inl rfl | exact .inr rfl | assumption)) (A4 (A7 6 nd (by first | exact aa1 rfl | exact aa0 rfl) (AM (A2 0)) (by first | exact .inl rfl | exact .inr rfl | assumption)) (A4 (AS (BI m_range (A1 (A0 1 (by first | exact aa1 rfl | exact aa0 (aa1 rfl) | exact aa0 (aa0 rfl))) (A2 0))) (AK 7 nd (by first | exact aa1 rfl | exact aa0 rfl) (by first | exact .inl rfl | exact .inr rfl | assumption)) (A4 (A7 8 nd (by first | exact aa1 rfl | exact aa0 rfl) (AA (@ff _) (AB (@ip _) (A0 2 (by first | exact aa1 rfl | exact aa0 (aa1 rfl) | exact aa0 (aa0 rfl))) (AA (@gs _) (AA (AO 0) (A0 7 (by first | exact aa1 rfl | exact aa0 (aa1 rfl) | exact aa0 (aa0 rfl))) (A0 5 (by first | exact aa1 rfl | exact aa0 (aa1 rfl) | exact aa0 (aa0 rfl)))) (A3 0))) (AB (@ip _) (A0 2 (by first | exact aa1 rfl | exact aa0 (aa1 rfl) | exact aa0 (aa0 rfl))) (AA (@gs _) (AA (AO 0) (AA (@ze _) (A0 7 (by first | exact aa1 rfl | exact aa0 (aa1 rfl) | exact aa0 (aa0 rfl))) (A3 0)) (A0 5 (by first | exact aa1 rfl | exact aa0 (aa1 rfl) | exact aa0 (aa0 rfl)))) (A3 0)))) (by first | exact .inl rfl | exact .inr rfl | assumption)) (A4 (A7 9 nd (by first | exact aa1 rfl | exact aa0 rfl) (AA (@ff _) (AA (@ff _) (BO (@Iy _) (A0 3 (by first | exact aa1 rfl | exact aa0 (aa1 rfl) | exact aa0 (aa0 rfl))) (@mh _) (BP (A0 4 (by first | exact aa1 rfl | exact aa0 (aa1 rfl) | exact aa0 (aa0 rfl))))) (A0 8 (by first | exact aa1 rfl | exact aa0 (aa1 rfl) | exact aa0 (aa0 rfl)))) (BO (@Iy _) (A0 3 (by first | exact aa1 rfl | exact aa0 (aa1 rfl) | exact aa0 (aa0 rfl))) (BP (A0 4 (by first | exact aa1 rfl | exact aa0 (aa1 rfl) | exact aa0 (aa0 rfl)))) (@mh _))) (by first | exact .inl rfl | exact .inr rfl | assumption)) (BK (AD (BJ (@gm _) (A0 9 (by first | exact aa1 rfl | exact aa0 (aa1 rfl) | exact aa0 (aa0 rfl))) (AE (BD (AI (AI (AI (AI (AI (AI (AI (AI (AI (@jd.nil))))))))))))) (A5 (A7 9 nd (by first | exact aa1 rfl | exact aa0 rfl) (AA (@ff _) (A0 9 (by first | exact aa1 rfl | exact aa0 (aa1 rfl) | exact aa0 (aa0 rfl))) (A9 0)) (by first | exact .inl rfl | exact .inr rfl | assumption))) (AF 0)) (A5 (AR (AQ PySem.F.plainAttrs_list PySem.F.slot_list_append PySem.F.type_list_append (AW 0) (A0 6 (by first | exact aa1 rfl | exact aa0 (aa1 rfl) | exact aa0 (aa0 rfl))) (A1 (A0 9 (by first | exact aa1 rfl | exact aa0 (aa1 rfl) | exact aa0 (aa0 rfl))) (A2 0))))))))) (A5 (A8 (A0 6 (by first | exact aa1 rfl | exact aa0 (aa1 rfl) | exact aa0 (aa0 rfl))))))))))),?_⟩;rw[show start ["hand","size","letters","base","at","shift","names","k","middle","name"] [.ref h,.int 48]=[some (.ref h),some (.int 48),none,none,none,none,none,none,none,none] from rfl];clear hu hu0 nd hr;push_cast [and_true];have sz:=sizeLine_eq;have ll:(Str.ofString "abcdefghijklmnopqrstuvwxyz").length≤sizeLine:=by decide+kernel
 have la:∀a b:Str,(a++b).length=a.length+b.length:=λa b=>ade;have frH:∀{t:Addr} {H4:Hp} {k:Nat},bc H4 h k→av h H H4→H4 t=none→H t=none:=λa s ht=>by obtain ⟨_,_,_,h1,_⟩:=a;exact s.free h1 ht
 refine bp hh (by omega) (by decide) (by decide+kernel) λx H1 s1 hh1 x0 x7=>⟨x,rfl,by omega,by omega,λD hD=>?_⟩;have HD:=frH hh1 s1 hD;have nD:D≠h:=λe=>by obtain ⟨a,b,c,h1,_⟩:=hh1;rw[e,h1] at hD;cases hD
 refine K9 (λi ys H2=>(∃zs:List Str,ys=zs.map V.str∧zs.length=i∧∀z∈zs,z.length=1∧∀c∈z.cps.toList,97≤c∧c≤122)∧av h H H2∧bc H2 h (1+i)) (by omega) ⟨⟨[],rfl,rfl,λ_ h=>nomatch h⟩,s1.upd HD _,hh1.same (ab hD _)⟩ (λi ys H2 G' K' hi hP hl hD2 hG hK=>?_) λys H2 hP hl hD2=>?_
 ·obtain ⟨⟨zs,rfl,z1,z2⟩,s2,hh2⟩:=hP;push_cast [and_true];refine bp hh2 (by omega) (by decide) (by decide+kernel) λy H3 s3 hh3 y0 y1=>?_;obtain ⟨c,hc,c0,c1⟩:=let_of y0 y1;refine ⟨_,_,_,rfl,rfl,ll,hc,hK _ _ (s3 _ _ nD hD2) ⟨⟨zs++[⟨#[c]⟩],by rw[aag];rfl,by rw[aa5,z1];rfl,λz hz=>?_⟩,(s2.trans s3).upd HD _,?_⟩⟩
  ·rcases List.mem_append.mp hz with m | m
   ·exact z2 z m
   ·rw[List.mem_singleton.mp m];exact ⟨rfl,λc' hc'=>by have e:c'=c:=(by simpa using hc');omega⟩
  ·obtain ⟨a,b,c',h1,r⟩:=hh3;exact bc.le ⟨a,b,c',by rw[af nD.symm];exact h1,r⟩ (by omega)
 obtain ⟨⟨zs,rfl,z1,z2⟩,s2,hh2⟩:=hP;have e0:(Str.ofString "").length=0:=by decide+kernel
 have sum1:=zj zs λz hz=>(z2 z hz).1;have jl:=join_le (Str.ofString "") zs;rw[e0,Nat.mul_zero,Nat.add_zero,sum1] at jl;have jc:∀c∈(Txt.join (Str.ofString "") zs).cps.toList,97≤c∧c≤122:=λc hc=>by
  obtain ⟨z,hz,h⟩:=Ak hc;exact (z2 z hz).2 c h
 refine ⟨zs,SqL.of hD2,by rw[e0,Nat.mul_zero,Nat.add_zero,sum1];omega,by omega,?_⟩;generalize Txt.join (Str.ofString "") zs=bs at jl jc ⊢;refine bp hh2 (by omega) (by omega) ?_ λy H3 s3 hh3 y0 y1=>bp hh3 (by omega) (by decide) (by decide+kernel) λsh H4 s4 hh4 sh0 sh1=>⟨aac _,λnl hnl=>?_⟩
 ·by_cases m00:((bs.length:Int)+1).natAbs=0
  ·omega
  ·exact aah ((Nat.log2_lt m00).mpr (show ((bs.length:Int)+1).natAbs < 2 ^ 20 from abc (show ((bs.length:Int)+1).natAbs≤8 by omega) (by decide+kernel))) (by decide)
 have S4:=s2.trans (s3.trans s4);have HL:=frH hh4 S4 hnl;have bl:bs.length≤6:=by omega
 have nh:h≠nl:=λe=>by obtain ⟨_,_,_,h1,_⟩:=hh4;rw[←e,h1] at hnl;cases hnl
 have hh10:bc H4 h 10:=hh4.le (by omega);clear hh hh1 hh2 hh3 hD2 z1 z2 sum1 s1 s2 s3 s4 hD x7 x0;refine e7 (lo:=0) (λj σ H'=>∃(v7 v8 v9:Option V),σ=[some (.ref h),some (.int 48),some (.str (Str.ofString "abcdefghijklmnopqrstuvwxyz")),some (.str bs),some (.int y),some (.int sh),some (.ref nl),v7,v8,v9]∧av h H H'∧bc H' h 10∧H' nl=some (.lst (((aak j).map (nmN (dg bs none (some y)) (dg bs (some y) none) sh)).map V.str))∧∀i < j,fw (nmN (dg bs none (some y)) (dg bs (some y) none) sh i)=true) ⟨none,none,none,rfl,S4.upd HL _,hh10.same (ab hnl _),aa,λ_ h=>absurd h (Nat.not_lt_zero _)⟩ ?_ ?_
 ·rintro j σ H5 hj ⟨v7,v8,v9,rfl,s5,hh5,hl5,un⟩;push_cast [rIxS];obtain ⟨c,hc,ec⟩:=Cr (0+(j:Int)+sh);obtain ⟨e,he,ee⟩:=Cr ((0+(j:Int)) / 26+sh);have c26:c < 26:=by omega
  have e26:e < 26:=by omega
  have ec2:c=(((j:Int)+sh) % 26).toNat:=by omega
  have ee2:e=(((j:Int) / 26+sh) % 26).toNat:=by omega
  have hj:j < 48:=hj;have k1:=Lx bs y;have l1:=De (97+c);have l2:=De (97+e);refine ⟨ll,97+c,hc,ll,97+e,he,by omega,by omega,by rw[la];omega,by omega,by rw[la,la];omega,?_⟩;have zc:∀x∈(dg bs none (some y)++((⟨#[97+c]⟩:Str)++⟨#[97+e]⟩)++dg bs (some y) none).cps.toList,97≤x∧x≤122:=λx hx=>by
   simp only[Str.cps_append,ad2,acx] at hx;rcases hx with (hx | hx | hx) | hx
   ·exact jc x (El hx)
   ·have hx:x=97+c:=by simpa using hx
    omega
   ·have hx:x=97+e:=by simpa using hx
    omega
   ·exact jc x (El hx)
  have zl:1≤(dg bs none (some y)++((⟨#[97+c]⟩:Str)++⟨#[97+e]⟩)++dg bs (some y) none).length∧(dg bs none (some y)++((⟨#[97+c]⟩:Str)++⟨#[97+e]⟩)++dg bs (some y) none).length≤8:=by
   rw[la,la,la];omega
  have ez:nmZ (dg bs none (some y)) (dg bs (some y) none) sh j=dg bs none (some y)++((⟨#[97+c]⟩:Str)++⟨#[97+e]⟩)++dg bs (some y) none:=by unfold nmZ;rw[←ec2,←ee2]
  generalize dg bs none (some y)++((⟨#[97+c]⟩:Str)++⟨#[97+e]⟩)++dg bs (some y) none=z at zc zl ez ⊢;have en:nmN (dg bs none (some y)) (dg bs (some y) none) sh j=if inV (.str z) ft=true then z++Str.ofString "x" else z:=by unfold nmN;rw[ez]
  obtain ⟨nx,nn⟩:=Kx zl.1 zl.2 zc;refine ji (λσ' H'=>∃u,σ'=[some (.ref h),some (.int 48),some (.str (Str.ofString "abcdefghijklmnopqrstuvwxyz")),some (.str bs),some (.int y),some (.int sh),some (.ref nl),some (.int (0+(j:Int))),some (.str ((⟨#[97+c]⟩:Str)++⟨#[97+e]⟩)),some (.str u)]∧av h H H'∧bc H' h 10∧H' nl=some (.lst (((aak j).map (nmN (dg bs none (some y)) (dg bs (some y) none) sh)).map V.str))∧u=nmN (dg bs none (some y)) (dg bs (some y) none) sh j∧fw u=true) ?_ ?_
  ·push_cast [rIn];refine ⟨by show (9:Nat)≤sizeLine;decide,λp hp=>⟨_,.inr (SqT.of aa),rfl,rfl,?_⟩⟩;have s6:=s5.trans (av.of (ab hp (.tup ft)));refine cx (λc'=>⟨by rw[show (Str.ofString "x").length=1 by decide+kernel];omega,s6,hh5.same (ab hp _),ab hp _ _ _ hl5,by rw[en,if_pos (show inV (.str z) ft=true from c')],nx c'⟩) λc'=>⟨s6,hh5.same (ab hp _),ab hp _ _ _ hl5,by rw[en,if_neg (show ¬inV (.str z) ft=true from c')],nn (Bool.eq_false_iff.mpr c')⟩
  ·rintro σ' H6 ⟨u,rfl,s6,hh6,hl6,eu,hu⟩;push_cast [and_true];refine bh hl6 (by rw[aa3,aa3,aba];omega) ⟨s6.upd HL _,yn hh6 nh,by rw[aa,List.range_succ,aag,aag,eu];rfl,λi hi=>?_⟩;by_cases ei:i=j
   ·rw[ei,←eu];exact hu
   ·exact un i (by omega)
 ·rintro σ H5 ⟨v7,v8,v9,rfl,s5,hh5,hl5,un⟩;push_cast [and_true];refine q nl _ H5 s5 HL hl5 (by rw[aa3,aba];rfl) (nmN_nd _ _ _) (λz hz=>?_) hh5;obtain ⟨i,hi,rfl⟩:=List.mem_map.mp hz;exact un i (List.mem_range.mp hi)
noncomputable abbrev j7:Stmt:=top 41
theorem Ea:aj ["hand","kinds","style"] ["hand","kinds"] (ae j7):=⟨rfl,rfl,rfl,by decide+kernel,rfl,by decide+kernel,by decide+kernel⟩
theorem Iz (G:Gs w K mg) (h_law_draw:Has P w K mg base k "_law_draw" ["hand","limit"] gz) (D:Def K mg "_law_leaf" j7 ["hand","kinds"]):Has P w K mg base (k+1) "_law_leaf" ["hand","kinds"] o7:=by
 refine D.has Ea (λvs H Q E h=>?_) (λf cdv A outer s H vs Q E hr h=>?_)
 ·obtain ⟨_,_,_,_,rfl,_,_,_,_,_⟩:=h;rfl
 have nd:=Ea.nd;have hu:=bu hr;have hu0:=aab hu;obtain ⟨h,kt,n,kinds,rfl,hh,hn,hK,hk,q⟩:=h;have m_len:=G.m_len;refine ⟨_,(A4 (A7 2 nd (by first | exact aa1 rfl | exact aa0 rfl) (A6 h_law_draw hr (A1 (A0 0 (by first | exact aa1 rfl | exact aa0 (aa1 rfl) | exact aa0 (aa0 rfl))) (A1 (A3 0) (A2 0)))) (by first | exact .inl rfl | exact .inr rfl | assumption)) (A4 (AD (BC (BV (AH (@Ai _) (A0 2 (by first | exact aa1 rfl | exact aa0 (aa1 rfl) | exact aa0 (aa0 rfl))) (A3 0) (AC 0)) (@o9 _ _ _ _ (AH (@og _) (AG (AX 0) m_len d8 (A1 (A0 1 (by first | exact aa1 rfl | exact aa0 (aa1 rfl) | exact aa0 (aa0 rfl))) (A2 0))) (A3 0) (AC 0))))) (A5 (A8 (AB (@fg _) (A0 1 (by first | exact aa1 rfl | exact aa0 (aa1 rfl) | exact aa0 (aa0 rfl))) (A6 h_law_draw hr (A1 (A0 0 (by first | exact aa1 rfl | exact aa0 (aa1 rfl) | exact aa0 (aa0 rfl))) (A1 (AG (AX 0) m_len d8 (A1 (A0 1 (by first | exact aa1 rfl | exact aa0 (aa1 rfl) | exact aa0 (aa0 rfl))) (A2 0))) (A2 0))))))) (AF 0)) (A4 (AD (AH (AL 0) (A0 2 (by first | exact aa1 rfl | exact aa0 (aa1 rfl) | exact aa0 (aa0 rfl))) (A3 0) (AC 0)) (A5 (A8 (A9 0))) (AF 0)) (A4 (AD (AH (AL 0) (A0 2 (by first | exact aa1 rfl | exact aa0 (aa1 rfl) | exact aa0 (aa0 rfl))) (A3 0) (AC 0)) (A5 (A8 (A9 0))) (AF 0)) (A5 (A8 (AB (AJ 0) (AM (A1 (AA (@ky _) (A6 h_law_draw hr (A1 (A0 0 (by first | exact aa1 rfl | exact aa0 (aa1 rfl) | exact aa0 (aa0 rfl))) (A1 (A3 0) (A2 0)))) (A3 0)) (A1 (AA (@ky _) (A6 h_law_draw hr (A1 (A0 0 (by first | exact aa1 rfl | exact aa0 (aa1 rfl) | exact aa0 (aa0 rfl))) (A1 (A3 0) (A2 0)))) (A3 0)) (A1 (A6 h_law_draw hr (A1 (A0 0 (by first | exact aa1 rfl | exact aa0 (aa1 rfl) | exact aa0 (aa0 rfl))) (A1 (AA (@Mt _) (A3 0) (A3 0)) (A2 0)))) (A2 0))))) (AA (@ze _) (A6 h_law_draw hr (A1 (A0 0 (by first | exact aa1 rfl | exact aa0 (aa1 rfl) | exact aa0 (aa0 rfl))) (A1 (A3 0) (A2 0)))) (A3 0))))))))),?_⟩;rw[show start ["hand","kinds","style"] [.ref h,.ref kt]=[some (.ref h),some (.ref kt),none] from rfl];clear hu hu0 nd hr;push_cast [CPow];have sz:=sizeLine_eq;have e50:(10:Int) ^ Int.toNat 50=100000000000000000000000000000000000000000000000000:=by decide+kernel
 have k1:=hk.1;have k8:=hk.2.1;have lm:(kinds.map V.str).length=kinds.length:=aa3 _;have nk:kt≠h:=by obtain ⟨_,_,_,h1,_⟩:=id hh;exact sk hK h1 (by intro e;cases e)
 refine bp hh (by omega) (by decide) (by decide+kernel) λx H1 s1 hh1 x0 x7=>cx (λc=>⟨_,.inr (SqT.of (s1 _ _ nk hK)),?_⟩) λc=>⟨rfl,cx (λc1=>q _ H1 s1 (hh1.le (by omega)) (Be kinds).1 (Be kinds).2) λc1=>⟨rfl,cx (λc2=>q _ H1 s1 (hh1.le (by omega)) (Gk kinds).1 (Gk kinds).2) λc2=>?_⟩⟩
 ·rw[if_pos (by omega)];refine ⟨_,.inr (SqT.of (s1 _ _ nk hK)),bp hh1 (by omega) (by omega) (abc (aca _) (by omega)) λy H2 s2 hh2 y0 y1=>?_⟩;obtain ⟨v,hv,hm⟩:=iz (kinds.map V.str) y y0 y1;obtain ⟨z,hz,rfl⟩:=List.mem_map.mp hm;exact de (s2 _ _ nk (s1 _ _ nk hK)) hv (q _ H2 (s1.trans s2) (hh2.le (by omega)) (jh hk hz) (ia (hk.2.2.2 z hz)))
 ·refine bp hh1 (by omega) (by decide) (by decide+kernel) λy1 H2 s2 hh2 a0 a1=>bp hh2 (by omega) (by decide) (by decide+kernel) λy2 H3 s3 hh3 b0 b1=>?_;rw[e50];refine ⟨by decide,bp hh3 (by omega) (by decide) (by decide+kernel) λy3 H4 s4 hh4 c0 c1'=>⟨by show (3:Nat)≤sizeLine;decide,λp hp=>?_⟩⟩;have n200:100000000000000000000000000000000000000000000000000 < 2 ^ 200:=by decide+kernel
  have s5:=ab hp (.lst [V.int (y1 - 1),V.int (y2 - 1000),V.int y3]);have nph:p≠h:=λe=>by obtain ⟨_,_,_,h1,_⟩:=id hh4;rw[e,h1] at hp;cases hp
  refine bp (hh4.same s5) (by omega) (by decide) (by decide+kernel) λy4 H5 s6 hh5 d0 d1=>⟨by decide,by decide,?_⟩;obtain ⟨v,hv,hm⟩:=iz [V.int (y1 - 1),V.int (y2 - 1000),V.int y3] (y4 / 2) (by omega) (by show y4 / 2 < 3;omega);have hi:∃i:Int,v=.int i∧i.natAbs < 2 ^ 200:=by
   simp only[ab0,aas,or_false] at hm;rcases hm with rfl | rfl | rfl
   ·exact ⟨_,rfl,by omega⟩
   ·exact ⟨_,rfl,by omega⟩
   ·exact ⟨_,rfl,by omega⟩
  obtain ⟨i,rfl,hi⟩:=hi;exact aw (s6 _ _ nph aa) hv (q _ H5 (s1.trans (s2.trans (s3.trans (s4.trans ((av.of s5).trans s6))))) (hh5.le (by omega)) (.inl ⟨i,rfl,hi⟩) rfl)
noncomputable abbrev gu:Stmt:=top 42
theorem Ad:aj ["hand","kinds","limit","words","due","style"] ["hand","kinds","limit"] (ae gu):=⟨rfl,rfl,rfl,by decide+kernel,rfl,by decide+kernel,by decide+kernel⟩
theorem Ew (G:Gs w K mg) (h_law_draw:Has P w K mg base k "_law_draw" ["hand","limit"] gz) (h_law_leaf:Has P w K mg base k "_law_leaf" ["hand","kinds"] o7) (D:Def K mg "_law_shape" gu ["hand","kinds","limit"]):Has P w K mg base (k+1) "_law_shape" ["hand","kinds","limit"] t4:=by
 refine D.has Ad (λvs H Q E h=>?_) (λf cdv A outer s H vs Q E hr h=>?_)
 ·obtain ⟨_,_,_,_,_,rfl,_,_,_,_,_,_,_⟩:=h;rfl
 have nd:=Ad.nd;have hu:=bu hr;have hu0:=aab hu;obtain ⟨h,kt,n,kinds,m,rfl,hh,hn,hK,hk,m1,m9,q⟩:=h;have m_len:=G.m_len;have m_tuple:=G.m_tuple;refine ⟨_,(A4 (A7 3 nd (by first | exact aa1 rfl | exact aa0 rfl) (AM (A2 0)) (by first | exact .inl rfl | exact .inr rfl | assumption)) (A4 (A7 4 nd (by first | exact aa1 rfl | exact aa0 rfl) (A3 0) (by first | exact .inl rfl | exact .inr rfl | assumption)) (A4 (@Kl _ _ _ _ _ _ PassesOwn.never (AH (@og _) (A0 4 (by first | exact aa1 rfl | exact aa0 (aa1 rfl) | exact aa0 (aa0 rfl))) (A3 0) (AC 0)) (A4 (A7 4 nd (by first | exact aa1 rfl | exact aa0 rfl) (AA (@ky _) (A0 4 (by first | exact aa1 rfl | exact aa0 (aa1 rfl) | exact aa0 (aa0 rfl))) (A3 0)) (by first | exact .inl rfl | exact .inr rfl | assumption)) (A4 (A7 5 nd (by first | exact aa1 rfl | exact aa0 rfl) (A6 h_law_draw hr (A1 (A0 0 (by first | exact aa1 rfl | exact aa0 (aa1 rfl) | exact aa0 (aa0 rfl))) (A1 (A3 0) (A2 0)))) (by first | exact .inl rfl | exact .inr rfl | assumption)) (A5 (AD (BC (BR (AH (@Hy _) (AA (AO 0) (AG (AX 0) m_len d8 (A1 (A0 3 (by first | exact aa1 rfl | exact aa0 (aa1 rfl) | exact aa0 (aa0 rfl))) (A2 0))) (A0 4 (by first | exact aa1 rfl | exact aa0 (aa1 rfl) | exact aa0 (aa0 rfl)))) (A0 2 (by first | exact aa1 rfl | exact aa0 (aa1 rfl) | exact aa0 (aa0 rfl))) (AC 0)) (BS (AH (AL 0) (A0 5 (by first | exact aa1 rfl | exact aa0 (aa1 rfl) | exact aa0 (aa0 rfl))) (A3 0) (AC 0))))) (A5 (AR (AQ PySem.F.plainAttrs_list PySem.F.slot_list_append PySem.F.type_list_append (AW 0) (A0 3 (by first | exact aa1 rfl | exact aa0 (aa1 rfl) | exact aa0 (aa0 rfl))) (A1 (A6 h_law_leaf hr (A1 (A0 0 (by first | exact aa1 rfl | exact aa0 (aa1 rfl) | exact aa0 (aa0 rfl))) (A1 (A0 1 (by first | exact aa1 rfl | exact aa0 (aa1 rfl) | exact aa0 (aa0 rfl))) (A2 0)))) (A2 0))))) (A5 (AD (AH (AL 0) (A0 5 (by first | exact aa1 rfl | exact aa0 (aa1 rfl) | exact aa0 (aa0 rfl))) (A3 0) (AC 0)) (A4 (AR (AQ PySem.F.plainAttrs_list PySem.F.slot_list_append PySem.F.type_list_append (AW 0) (A0 3 (by first | exact aa1 rfl | exact aa0 (aa1 rfl) | exact aa0 (aa0 rfl))) (A1 (A9 0) (A2 0)))) (A5 (A7 4 nd (by first | exact aa1 rfl | exact aa0 rfl) (AA (AO 0) (A0 4 (by first | exact aa1 rfl | exact aa0 (aa1 rfl) | exact aa0 (aa0 rfl))) (A3 0)) (by first | exact .inl rfl | exact .inr rfl | assumption)))) (A4 (AR (AQ PySem.F.plainAttrs_list PySem.F.slot_list_append PySem.F.type_list_append (AW 0) (A0 3 (by first | exact aa1 rfl | exact aa0 (aa1 rfl) | exact aa0 (aa0 rfl))) (A1 (AB (AJ 0) (AM (BD (AI (AI (AI (@jd.nil)))))) (A0 5 (by first | exact aa1 rfl | exact aa0 (aa1 rfl) | exact aa0 (aa0 rfl)))) (A2 0)))) (A5 (A7 4 nd (by first | exact aa1 rfl | exact aa0 rfl) (AA (AO 0) (A0 4 (by first | exact aa1 rfl | exact aa0 (aa1 rfl) | exact aa0 (aa0 rfl))) (A3 0)) (by first | exact .inl rfl | exact .inr rfl | assumption))))))))))) (A5 (A8 (AY (BA 0) m_tuple cu (A1 (A0 3 (by first | exact aa1 rfl | exact aa0 (aa1 rfl) | exact aa0 (aa0 rfl))) (A2 0)))))))),?_⟩;rw[show start ["hand","kinds","limit","words","due","style"] [.ref h,.ref kt,.int m]=[some (.ref h),some (.ref kt),some (.int m),none,none,none] from rfl];clear hu hu0 nd hr;push_cast [and_true];have sz:=sizeLine_eq;have nk:kt≠h:=by obtain ⟨_,_,_,h1,_⟩:=id hh;exact sk hK h1 (by intro e;cases e)
 refine ⟨aac _,λl hl0=>?_⟩;have nl:h≠l:=λe=>by obtain ⟨_,_,_,h1,_⟩:=id hh;rw[←e,h1] at hl0;cases hl0
 obtain ⟨P1,eP1⟩:∃P1:L2.St→Hp→Prop,∀σ H',P1 σ H'↔∃(ws:List V) (due:Nat) (v5:Option V),σ=[some (.ref h),some (.ref kt),some (.int m),some (.ref l),some (.int (due:Int)),v5]∧av h H H'∧bc H' h (n+8*ws.length)∧H' l=some (.lst ws)∧(∀v∈ws,ju kinds v)∧pend 1 (ws.map arV)=some due∧(ws.length:Int)+due≤m+2:=⟨_,λ_ _=>aet⟩;refine J1 P1 (λσ H'=>12 - qp H' l) ?_ ?_ ?_
 ·exact (eP1 _ _).mpr ⟨[],1,none,rfl,av.of (ab hl0 _),(hh.same (ab hl0 _)).le (abh _ _),aa,(λ_ h=>nomatch h),rfl,by show (0:Int)+1≤m+2;omega⟩
 ·intro σ H' hP;obtain ⟨ws,due,v5,rfl,s1,hh1,hl',hw,hpd,hr⟩:=(eP1 _ _).mp hP;push_cast [and_true];refine cx (λhdue=>?_) λhdue=>?_
  ·have app:∀(v:V) (H2:Hp) (dd:Int) (w5:Option V),ju kinds v→dd=(due:Int) - 1+(arV v:Int)→(ws.length:Int)+due+(arV v:Int)≤m+2→av h H' H2→bc H2 h (n+8*ws.length+7)→
     m4 (.ref l) [v] H2 λ_ H3=>P1 [some (.ref h),some (.ref kt),some (.int m),some (.ref l),some (.int dd),w5] H3∧12 - qp H3 l < 12 - qp H' l:=by
    intro v H2 dd w5 hv hdd hroom s2 hh2;refine ⟨l,ws,v,rfl,rfl,s2 _ _ nl.symm hl',by omega,(eP1 _ _).mpr ⟨ws++[v],due - 1+arV v,w5,by rw[show dd=((due - 1+arV v:Nat):Int) by omega],(s1.trans s2).upd hl0 _,?_,aa,λx hx=>?_,?_,?_⟩,?_⟩
    ·rw[aa5,aat];exact (yn hh2 nl).le (by omega)
    ·rcases List.mem_append.mp hx with h | h
     ·exact hw x h
     ·rw[List.mem_singleton.mp h];exact hv
    ·rw[aag];exact vo _ _ _ _ hpd (by omega)
    ·rw[aa5,aat];omega
    ·rw[zq aa,zq hl',aa5,aat];omega
   refine bp hh1 (by omega) (by decide) (by decide+kernel) λx H2 s2 hh2 x0 x5=>?_;have hl2:=s2 _ _ nl.symm hl';have leaf:o7 [V.ref h,V.ref kt] H2 (λv H3=>m4 (V.ref l) [v] H3 λ_ H4=>P1 [some (V.ref h),some (V.ref kt),some (V.int m),some (V.ref l),some (V.int ((due:Int) - 1)),some (V.int x)] H4∧12 - qp H4 l < 12 - qp H' l) E0:=⟨h,kt,_,kinds,rfl,hh2,by omega,(s1.trans s2) _ _ nk hK,hk,λv H3 s3 hh3 hv ha=>app v H3 _ _ hv (by rw[ha];omega) (by rw[ha];omega) (s2.trans s3) (hh3.le (by omega))⟩;refine ⟨ws,.inl (SqL.of hl2),cx (λc=>⟨bq hl2,leaf⟩) λc=>⟨rfl,cx (λc1=>⟨bq hl2,leaf⟩) λc1=>⟨rfl,cx (λc2=>⟨bq hl2,?_⟩) λc2=>⟨bq hl2,by show (3:Nat)≤sizeLine;decide,λp1 hp1=>?_⟩⟩⟩⟩
   ·have an:arV (.str (Str.ofString "neg"))=1:=qq;exact app (.str (Str.ofString "neg")) H2 _ _ (va hk (by show 0 < arV (.str (Str.ofString "neg"));omega)) (by rw[an];omega) (by rw[an];omega) s2 (hh2.le (by omega))
   ·have x4:x≠4:=λe=>c1 (by rw[e]);have x3:x≠3:=λe=>c2 (by rw[e]);obtain ⟨y,hy,hym⟩:=iz [V.str (Str.ofString "add"),V.str (Str.ofString "sub"),V.str (Str.ofString "mul")] x x0 (by show x < 3;omega);obtain ⟨z,rfl,a2⟩:∃z,y=V.str z∧arS z=2:=by
     simp only[ab0,aas,or_false] at hym;rcases hym with rfl | rfl | rfl
     ·exact ⟨_,rfl,by decide+kernel⟩
     ·exact ⟨_,rfl,by decide+kernel⟩
     ·exact ⟨_,rfl,by decide+kernel⟩
    have a2':arV (.str z)=2:=a2;have s3:=ab hp1 (.lst [V.str (Str.ofString "add"),V.str (Str.ofString "sub"),V.str (Str.ofString "mul")]);exact aw aa hy (app (.str z) _ _ _ (va hk (by omega)) (by rw[a2'];omega) (by rw[a2'];omega) (s2.trans (av.of s3)) ((hh2.same s3).le (by omega)))
  ·have d0:due=0:=by omega
   subst d0;exact ⟨ws,.inl ⟨SqL.of hl',λt ht=>q t ws _ (s1.trans (av.of (ab ht _))) ((hh1.same (ab ht _)).le (by omega)) aa hw hpd (by omega)⟩⟩
 ·intro σ H' Q1 Q2 hq h;simp only[wm,tB,Kf,tOp,jn,rI0,E3,tC] at h ⊢;obtain ⟨v,hv,i,j,e1,e2,k,e3,h⟩:=h;exact ⟨v,hv,i,j,e1,e2,k,e3,hq _ _ h⟩
noncomputable abbrev gr:Stmt:=top 43
theorem x9:aj ["kinds","shape","counts","labels","word","sort"] ["kinds","shape"] (ae gr):=⟨rfl,rfl,rfl,by decide+kernel,rfl,by decide+kernel,by decide+kernel⟩
theorem Et (G:Gs w K mg) (D:Def K mg "_law_labels" gr ["kinds","shape"]):Has P w K mg base (k+1) "_law_labels" ["kinds","shape"] qt:=by
 refine D.has x9 (λvs H Q E h=>?_) (λf cdv A outer s H vs Q E hr h=>?_)
 ·obtain ⟨_,_,_,_,rfl,_,_,_,_,_,_⟩:=h;rfl
 have nd:=x9.nd;have hu:=bu hr;have hu0:=aab hu;obtain ⟨kt,st,kinds,sh,rfl,hK,hk,hS,hw,hl,q⟩:=h;have m_int:=G.m_int;have m_str:=G.m_str;refine ⟨_,(A4 (A7 2 nd (by first | exact aa1 rfl | exact aa0 rfl) (AM (BD (BW (BW (BW (@jd.nil)))))) (by first | exact .inl rfl | exact .inr rfl | assumption)) (A4 (A7 3 nd (by first | exact aa1 rfl | exact aa0 rfl) (AM (A2 0)) (by first | exact .inl rfl | exact .inr rfl | assumption)) (A4 (AS (B5 (A0 1 (by first | exact aa1 rfl | exact aa0 (aa1 rfl) | exact aa0 (aa0 rfl)))) (AK 4 nd (by first | exact aa1 rfl | exact aa0 rfl) (by first | exact .inl rfl | exact .inr rfl | assumption)) (A4 (A7 5 nd (by first | exact aa1 rfl | exact aa0 rfl) (A3 0) (by first | exact .inl rfl | exact .inr rfl | assumption)) (BK (AD (BJ (@gm _) (A0 4 (by first | exact aa1 rfl | exact aa0 (aa1 rfl) | exact aa0 (aa0 rfl))) (A0 0 (by first | exact aa1 rfl | exact aa0 (aa1 rfl) | exact aa0 (aa0 rfl)))) (A5 (A7 5 nd (by first | exact aa1 rfl | exact aa0 rfl) (A3 0) (by first | exact .inl rfl | exact .inr rfl | assumption))) (A5 (AD (BJ (@gm _) (A0 4 (by first | exact aa1 rfl | exact aa0 (aa1 rfl) | exact aa0 (aa0 rfl))) (AE (A1 (A9 0) (A1 (A9 0) (A2 0))))) (A5 (A7 5 nd (by first | exact aa1 rfl | exact aa0 rfl) (AA (AO 0) (A3 0) (AY (@qk _) m_int yv (A1 (B8 (AL 0) (A0 4 (by first | exact aa1 rfl | exact aa0 (aa1 rfl) | exact aa0 (aa0 rfl))) (A9 0) (AC 0)) (A2 0)))) (by first | exact .inl rfl | exact .inr rfl | assumption))) (AF 0)))) (BK (AD (AH (@Ai _) (A0 5 (by first | exact aa1 rfl | exact aa0 (aa1 rfl) | exact aa0 (aa0 rfl))) (A3 0) (AC 0)) (A4 (BT (AA (AO 0) (AB (AJ 0) (A0 2 (by first | exact aa1 rfl | exact aa0 (aa1 rfl) | exact aa0 (aa0 rfl))) (A0 5 (by first | exact aa1 rfl | exact aa0 (aa1 rfl) | exact aa0 (aa0 rfl)))) (A3 0)) (BU (A0 2 (by first | exact aa1 rfl | exact aa0 (aa1 rfl) | exact aa0 (aa0 rfl))) (A0 5 (by first | exact aa1 rfl | exact aa0 (aa1 rfl) | exact aa0 (aa0 rfl))) (@set_list _))) (A5 (A7 4 nd (by first | exact aa1 rfl | exact aa0 rfl) (AA (@ff _) (AB (@ip _) (A9 0) (A0 5 (by first | exact aa1 rfl | exact aa0 (aa1 rfl) | exact aa0 (aa0 rfl)))) (AY (@wk _) m_str lx (A1 (AB (AJ 0) (A0 2 (by first | exact aa1 rfl | exact aa0 (aa1 rfl) | exact aa0 (aa0 rfl))) (A0 5 (by first | exact aa1 rfl | exact aa0 (aa1 rfl) | exact aa0 (aa0 rfl)))) (A2 0)))) (by first | exact .inl rfl | exact .inr rfl | assumption)))) (AF 0)) (A5 (AR (AQ PySem.F.plainAttrs_list PySem.F.slot_list_append PySem.F.type_list_append (AW 0) (A0 3 (by first | exact aa1 rfl | exact aa0 (aa1 rfl) | exact aa0 (aa0 rfl))) (A1 (A0 4 (by first | exact aa1 rfl | exact aa0 (aa1 rfl) | exact aa0 (aa0 rfl))) (A2 0))))))))) (A5 (A8 (A0 3 (by first | exact aa1 rfl | exact aa0 (aa1 rfl) | exact aa0 (aa0 rfl)))))))),?_⟩;rw[show start ["kinds","shape","counts","labels","word","sort"] [.ref kt,.ref st]=[some (.ref kt),some (.ref st),none,none,none,none] from rfl];clear hu hu0 nd hr;push_cast [and_true];have sz:=sizeLine_eq;refine ⟨by show (3:Nat)≤sizeLine;decide,λp hp=>⟨aac _,λl hl0=>⟨⟨sh,SqT.of (ab hl0 _ _ _ (ab hp _ _ _ hS))⟩,?_⟩⟩⟩;have npl:p≠l:=ah aa hl0;have s0:=(ab hp (.lst [V.int 0,V.int 0,V.int 0])).trans (ab hl0 (.lst []));have Hl:H l=none:=(ab hp (.lst [V.int 0,V.int 0,V.int 0])).free hl0;refine dm (xs:=sh) (λi σ H'=>∃v4 v5:Option V,σ=[some (.ref kt),some (.ref st),some (.ref p),some (.ref l),v4,v5]∧ag H H'∧H' p=some (.lst (sm kinds (sh.take i)))∧H' l=some (.lst (du kinds (sh.take i)))) ⟨none,none,rfl,s0,ab hl0 _ _ _ aa,aa⟩ (λi σ H' _ h=>?_) ?_ ?_
 ·obtain ⟨_,_,_,h,_⟩:=h;exact SqT.of (h _ _ hS)
 ·rintro i x σ H1 hx ⟨v4,v5,rfl,s1,hc,hL⟩;have hi:=(List.getElem?_eq_some_iff.mp hx).1;have et:sh.take (i+1)=sh.take i++[x]:=by rw[aan,hx];rfl
  have hx':=hw x (aam hx);have fl:(kinds.map V.str).all gi=true:=List.all_eq_true.mpr λy hy=>by obtain ⟨z,_,rfl⟩:=List.mem_map.mp hy;rfl
  push_cast [and_true];refine ji (λσ' H'=>∃so:Nat,σ'=[some (.ref kt),some (.ref st),some (.ref p),some (.ref l),some x,some (.int (so:Int))]∧ag H1 H'∧Sort3 kinds x so) ?_ ?_
  ·push_cast [rIn];refine ⟨_,.inr (SqT.of (s1 _ _ hK)),qf hx'.isW,fl,cx (λc=>?_) λc=>⟨by show (2:Nat)≤sizeLine;decide,λp1 hp1=>⟨_,.inr (SqT.of aa),qf hx'.isW,rfl,cx (λc1=>?_) λc1=>?_⟩⟩⟩
   ·refine ⟨0,rfl,ag.refl _,.inl ?_⟩;rcases hx' with ⟨n,rfl,_⟩ | ⟨z,rfl,_⟩
    ·obtain ⟨v,hv,e⟩:=List.any_eq_true.mp c;obtain ⟨z,_,rfl⟩:=List.mem_map.mp hv;cases e
    ·obtain ⟨y,hy,e⟩:=List.mem_map.mp (pz c);cases e
     rw[gb (hk.2.2.2 _ hy) hy];rfl
   ·refine ⟨Br hx'.isW _,?_⟩;by_cases cv:x=As
    ·refine ⟨2,by rw[if_pos (show x=V.str (Str.ofString "var") from cv)];rfl,ab hp1 _,.inl ?_⟩;have:ao kinds x=lV:=by
      unfold ao;rw[if_neg (by rw[cv];decide+kernel),if_pos cv]
     rw[this];rfl
    ·refine ⟨1,by rw[if_neg (show ¬x=V.str (Str.ofString "var") from cv)];rfl,ab hp1 _,.inl ?_⟩;have:x=Cd:=by
      rcases hx' with ⟨n,rfl,_⟩ | ⟨z,rfl,_⟩
      ·obtain ⟨v,hv,e⟩:=List.any_eq_true.mp c1;simp only[ab0,aas,or_false] at hv;rcases hv with rfl | rfl <;> cases e
      ·have:=pz c1;simp only[ab0,aas,or_false] at this;exact this.resolve_right cv
     have:ao kinds x=lN:=if_pos this;rw[this];rfl
   ·refine ⟨3,rfl,ab hp1 _,.inr ⟨rfl,?_⟩⟩;unfold ao;rw[if_neg (λh=>c1 (by rw[h];decide+kernel)),if_neg (λh=>c1 (by rw[h];decide+kernel)),if_neg c]
  ·rintro σ' H2 ⟨so,rfl,s2,hso⟩;refine ji (λσ' H'=>σ'=[some (.ref kt),some (.ref st),some (.ref p),some (.ref l),some (fo kinds (sh.take i) x),some (.int (so:Int))]∧ag H H'∧H' p=some (.lst (sm kinds (sh.take (i+1))))∧H' l=some (.lst (du kinds (sh.take i)))) ?_ ?_
   ·push_cast [gSub,Je,rIxS];have hc2:=s2 _ _ hc;have hL2:=s2 _ _ hL;have tl:(sh.take i).length≤11:=by rw[aad];omega
    refine cx (λc=>?_) λc=>?_
    ·have hso:[lH,lN,lV][so]?=some (ao kinds x):=hso.resolve_right λh=>by omega
     have ix:ixN (sm kinds (sh.take i)).length (so:Int)=some so:=by
      have hlt:so < 3:=by omega
      match so,hlt with
      | 0,_=>rfl
      | 1,_=>rfl
      | 2,_=>rfl
     obtain ⟨cc,h1,h2⟩:=hnv_at hso;have nO:ao kinds x≠lO:=by
      have:=aam hso;intro e;rw[e] at this;exact absurd this (by decide+kernel)
     have cl:=ma kinds (ao kinds x) (sh.take i);obtain ⟨_,_,_,_,f5⟩:=qc nO (n:=dk kinds (ao kinds x) (sh.take i)+1) (by omega);have el:V.str (⟨#[cc]⟩++uk (.int (((dk kinds (ao kinds x) (sh.take i)+1:Nat)):Int)))=fo kinds (sh.take i) x:=by
      unfold fo;rw[if_neg nO,(Cs (pre:=sh.take i) nO (by omega)).1,h2];rfl
     refine aw hc2 (Ho _ hso) ⟨_,hc2,so,ix,by decide+kernel,cc,h1,?_⟩;rw[Md _ hso];refine aw aa (Ho _ hso) ?_;rw[dv,if_pos rfl];refine ⟨?_,?_,el,(s1.trans s2).upd hp _,by rw[aa,et],by rw[af npl.symm];exact hL2⟩
     ·exact abc (aca _) (by omega)
     ·rw[h2];have:(ao kinds x++uk (.int (((dk kinds (ao kinds x) (sh.take i)+1:Nat)):Int))).length=(ao kinds x).length+(uk (.int (((dk kinds (ao kinds x) (sh.take i)+1:Nat)):Int))).length:=ade;have f5:(ao kinds x++uk (.int (((dk kinds (ao kinds x) (sh.take i)+1:Nat)):Int))).length≤3:=f5;omega
    ·have hO:ao kinds x=lO:=by
      rcases hso with h | h
      ·exfalso
       have:=(List.getElem?_eq_some_iff.mp h).1;have:so < 3:=this;omega
      ·exact h.2
     refine ⟨?_,s1.trans s2,by rw[et,cnt_no _ hO];exact hc2,hL2⟩;unfold fo;rw[if_pos hO]
   ·rintro σ' H3 ⟨rfl,s3,hc3,hL3⟩;push_cast [and_true];refine bh hL3 (by rw[kq,aad];omega) ⟨s3.upd Hl _,by rw[af npl];exact hc3,?_⟩;rw[aa,et,Fb]
 ·rintro σ H1 ⟨v4,v5,rfl,s1,hc,hL⟩;rw[aau] at hL;push_cast [and_true];exact q l H1 s1 Hl hL
noncomputable abbrev j6:Stmt:=top 44
theorem C7:aj ["word","box","some"] ["word","box","some"] (ae j6):=⟨rfl,rfl,rfl,by decide+kernel,rfl,by decide+kernel,by decide+kernel⟩
theorem G6 (G:Gs w K mg) (D:Def K mg "_law_deed" j6 ["word","box","some"]):Has P w K mg base (k+1) "_law_deed" ["word","box","some"] wu:=by
 refine D.has C7 (λvs H Q E h=>?_) (λf cdv A outer s H vs Q E hr h=>?_)
 ·obtain ⟨_,_,_,_,_,rfl,_,_,_,_,_,_⟩:=h;rfl
 have nd:=C7.nd;have hu:=bu hr;have hu0:=aab hu;obtain ⟨w,b,l,so,lv,rfl,hw,nh,hL,hs,hv,q⟩:=h;have m_int:=G.m_int;have m_isinstance:=G.m_isinstance;have m_tuple:=G.m_tuple;refine ⟨_,(A4 (AD (BC (BR (B7 (AG (AT 0) m_isinstance aq (A1 (A0 0 (by first | exact aa1 rfl | exact aa0 (aa1 rfl) | exact aa0 (aa0 rfl))) (A1 (AU m_int yv) (A2 0))))) (BS (BC (BV (AH (AL 0) (AB (@ip _) (A0 0 (by first | exact aa1 rfl | exact aa0 (aa1 rfl) | exact aa0 (aa0 rfl))) (A3 0)) (A9 0) (AC 0)) (@o9 _ _ _ _ (AH (@kz _) (A0 0 (by first | exact aa1 rfl | exact aa0 (aa1 rfl) | exact aa0 (aa0 rfl))) (A9 0) (AC 0)))))))) (A5 (A8 (AE (A1 (A9 0) (A1 (A0 1 (by first | exact aa1 rfl | exact aa0 (aa1 rfl) | exact aa0 (aa0 rfl))) (A1 (A0 0 (by first | exact aa1 rfl | exact aa0 (aa1 rfl) | exact aa0 (aa0 rfl))) (A2 0))))))) (AF 0)) (A4 (AD (AH (AL 0) (AB (@ip _) (A0 0 (by first | exact aa1 rfl | exact aa0 (aa1 rfl) | exact aa0 (aa0 rfl))) (A3 0)) (A9 0) (AC 0)) (A5 (A8 (AE (A1 (A9 0) (A1 (A0 1 (by first | exact aa1 rfl | exact aa0 (aa1 rfl) | exact aa0 (aa0 rfl))) (A1 (A0 0 (by first | exact aa1 rfl | exact aa0 (aa1 rfl) | exact aa0 (aa0 rfl))) (A2 0))))))) (AF 0)) (A5 (A8 (AA (@jq _) (AE (A1 (A0 0 (by first | exact aa1 rfl | exact aa0 (aa1 rfl) | exact aa0 (aa0 rfl))) (A1 (A0 1 (by first | exact aa1 rfl | exact aa0 (aa1 rfl) | exact aa0 (aa0 rfl))) (A2 0)))) (AY (BA 0) m_tuple cu (A1 (A0 2 (by first | exact aa1 rfl | exact aa0 (aa1 rfl) | exact aa0 (aa0 rfl))) (A2 0)))))))),?_⟩;rw[show start ["word","box","some"] [w,.str b,.ref l]=[some (w),some (.str b),some (.ref l)] from rfl];clear hu hu0 nd hr;push_cast [rIxS];have sz:=sizeLine_eq;rcases hw with ⟨n,rfl,hn⟩ | ⟨z,rfl,hz⟩
 ·exact ⟨_,.int n,true,rfl,iy ⟨by show (3:Nat)≤sizeLine;decide,λp hp=>q p _ (ab hp _) aa⟩⟩
 obtain ⟨c,hc,zl,hz⟩:∃c,hd z=some c∧z.length≤3∧((0 < arS z∧c≠118∧(c=110→z="neg"))∨(arS z=0∧z≠"neg"∧(c=110∨c=118))):=by
  rcases hz with h | ⟨h0,hm,h⟩
  ·rcases cq (z:=z) h with rfl | rfl | rfl | rfl
   ·exact ⟨97,by decide+kernel,by decide+kernel,.inl ⟨h,by decide,by decide⟩⟩
   ·exact ⟨115,by decide+kernel,by decide+kernel,.inl ⟨h,by decide,by decide⟩⟩
   ·exact ⟨109,by decide+kernel,by decide+kernel,.inl ⟨h,by decide,by decide⟩⟩
   ·exact ⟨110,by decide+kernel,by decide+kernel,.inl ⟨h,by decide,λ_=>rfl⟩⟩
  ·have nn:z≠"neg":=λe=>by rw[e] at h0;exact absurd h0 (by decide+kernel)
   rcases h with h | h | h
   ·exact absurd h (nh z rfl h0)
   ·exact ⟨110,h,hv z hm,.inr ⟨h0,nn,.inl rfl⟩⟩
   ·exact ⟨118,h,hv z hm,.inr ⟨h0,nn,.inr rfl⟩⟩
 have at0:atI z.cps.toList 0=some c:=cb (j:=0) (by rw[←aco];exact hc);have eN:∀{d:Nat},(⟨#[c]⟩:Str)=(⟨#[d]⟩:Str)↔c=d:=λ{d}=>⟨λh=>by injection h with h;simpa using h,λh=>by rw[h]⟩;have n1:Str.ofString "n"=⟨#[110]⟩:=by decide+kernel
 have v1:Str.ofString "v"=⟨#[118]⟩:=by decide+kernel
 rw[n1,v1];have cat:0 < arS z→(2:Nat)≤sizeLine∧∀p:Addr,H p=none→∃ys,(SqL K (upd H p (.tup [.str z,.str b])) l ys∧∀t:Addr,upd H p (.tup [.str z,.str b]) t=none→C9 (.ref p) (.ref t) (upd (upd H p (.tup [.str z,.str b])) t (.tup ys)) Q)∨SqT K (upd H p (.tup [.str z,.str b])) l ys∧C9 (.ref p) (.ref l) (upd H p (.tup [.str z,.str b])) Q:=λha=>⟨by decide,λp hp=>⟨_,.inl ⟨SqL.of (ab hp _ _ _ hL),λt ht=>m7 (ab ht _ _ _ aa) aa (by rw[aa3];show 2+so.length≤sizeLine;omega) λpc H3 s3 h3=>q pc H3 ((ab hp _).trans ((ab ht _).trans s3)) (by rw[h3];show _=some (HO.tup (if 0 < arS z then _ else _));rw[if_pos ha];rfl)⟩⟩⟩;refine ⟨_,.str z,false,rfl,jv ⟨z,rfl,by omega,c,at0,rfl,cx (λe=>⟨rfl,cx (λe2=>⟨by show (3:Nat)≤sizeLine;decide,λp hp=>q p _ (ab hp _) ?_⟩) λe2=>⟨z,rfl,by omega,c,at0,rfl,cx (λe3=>?_) λe3=>cat ?_⟩⟩) λe=>⟨z,rfl,by omega,c,at0,rfl,cx (λe3=>⟨by show (3:Nat)≤sizeLine;decide,λp hp=>q p _ (ab hp _) ?_⟩) λe3=>cat ?_⟩⟩⟩
 ·have e:=eN.mp e;have e2:z≠"neg":=λh=>by rw[h] at e2;exact absurd e2 (by decide+kernel)
  rcases hz with ⟨h1,h2,h3⟩ | ⟨h1,h2,h3⟩
  ·exact absurd (h3 e) e2
  ·rw[aa];show _=some (HO.tup (if 0 < arS z then _ else if hd z=some 118 then _ else _))
   rw[if_neg (by omega),if_neg (by rw[hc,e];decide)]
 ·have e:=eN.mp e;have e3:=eN.mp e3;omega
 ·have e:=eN.mp e;rcases hz with ⟨h1,_⟩ | ⟨h1,h2,h3⟩
  ·exact h1
  ·exfalso
   have:V.str z≠V.str (Str.ofString "neg"):=λh=>h2 (V.str.inj h);simp[this] at e2
 ·have e3:=eN.mp e3;rcases hz with ⟨h1,h2,h3⟩ | ⟨h1,h2,h3⟩
  ·exact absurd e3 h2
  ·rw[aa];show _=some (HO.tup (if 0 < arS z then _ else if hd z=some 118 then _ else _))
   rw[if_neg (by omega),if_pos (by rw[hc,e3])]
 ·have e:c≠110:=λh=>e (eN.mpr h);have e3:c≠118:=λh=>e3 (eN.mpr h);rcases hz with ⟨h1,_⟩ | ⟨h1,h2,h3⟩
  ·exact h1
  ·omega
noncomputable abbrev g4:Stmt:=top 45
theorem xw:aj ["labels","boxes","deeds","held","k","word","some","j"] ["labels"] (ae g4):=⟨rfl,rfl,rfl,by decide+kernel,rfl,by decide+kernel,by decide+kernel⟩
theorem Eo (G:Gs w K mg) (h_law_deed:Has P w K mg base k "_law_deed" ["word","box","some"] wu) (D:Def K mg "_law_deeds" g4 ["labels"]):Has P w K mg base (k+1) "_law_deeds" ["labels"] sx:=by
 refine D.has xw (λvs H Q E h=>?_) (λf cdv A outer s H vs Q E hr h=>?_)
 ·obtain ⟨_,_,_,rfl,_,_,_,_,_,_,_⟩:=h;rfl
 have nd:=xw.nd;have hu:=bu hr;have hu0:=aab hu;obtain ⟨l,ls,lv,rfl,hL,hw,hv,hT,hl,q0,q⟩:=h;have m_isinstance:=G.m_isinstance;have m_len:=G.m_len;have m_range:=G.m_range;have m_str:=G.m_str;have m_tuple:=G.m_tuple;refine ⟨_,(A4 (A7 1 nd (by first | exact aa1 rfl | exact aa0 rfl) (AM (BD (AI (AI (AI (AI (@jd.nil))))))) (by first | exact .inl rfl | exact .inr rfl | assumption)) (A4 (A7 2 nd (by first | exact aa1 rfl | exact aa0 rfl) (AM (A2 0)) (by first | exact .inl rfl | exact .inr rfl | assumption)) (A4 (A7 3 nd (by first | exact aa1 rfl | exact aa0 rfl) (AM (A2 0)) (by first | exact .inl rfl | exact .inr rfl | assumption)) (A4 (AS (@E7 _ _ _ _ _ _ _ _ rfl m_range (A1 (AA (@ky _) (AG (AX 0) m_len d8 (A1 (A0 0 (by first | exact aa1 rfl | exact aa0 (aa1 rfl) | exact aa0 (aa0 rfl))) (A2 0))) (A3 0)) (A1 (BL (@m6 _) (A3 0)) (A1 (BL (@m6 _) (A3 0)) (A2 0)))) (by rfl) (by rfl)) (AK 4 nd (by first | exact aa1 rfl | exact aa0 rfl) (by first | exact .inl rfl | exact .inr rfl | assumption)) (A4 (A7 5 nd (by first | exact aa1 rfl | exact aa0 rfl) (AB (AJ 0) (A0 0 (by first | exact aa1 rfl | exact aa0 (aa1 rfl) | exact aa0 (aa0 rfl))) (A0 4 (by first | exact aa1 rfl | exact aa0 (aa1 rfl) | exact aa0 (aa0 rfl)))) (by first | exact .inl rfl | exact .inr rfl | assumption)) (BK (AD (BC (BV (B7 (AG (AT 0) m_isinstance aq (A1 (A0 5 (by first | exact aa1 rfl | exact aa0 (aa1 rfl) | exact aa0 (aa0 rfl))) (A1 (AU m_str lx) (A2 0))))) (@o9 _ _ _ _ (AH (AL 0) (AB (@ip _) (A0 5 (by first | exact aa1 rfl | exact aa0 (aa1 rfl) | exact aa0 (aa0 rfl))) (A3 0)) (A9 0) (AC 0))))) (A4 (AR (AQ PySem.F.plainAttrs_list PySem.F.slot_list_append PySem.F.type_list_append (AW 0) (A0 3 (by first | exact aa1 rfl | exact aa0 (aa1 rfl) | exact aa0 (aa0 rfl))) (A1 (A0 5 (by first | exact aa1 rfl | exact aa0 (aa1 rfl) | exact aa0 (aa0 rfl))) (A2 0)))) (A5 (@zf _ _))) (AF 0)) (A4 (A7 6 nd (by first | exact aa1 rfl | exact aa0 rfl) (AM (A2 0)) (by first | exact .inl rfl | exact .inr rfl | assumption)) (A4 (AS (BI m_range (A1 (AQ PySem.F.plainAttrs_dict PySem.F.slot_dict_get PySem.F.type_dict_get (@zo _ hu) (@Dl _ _ _ _ _ (BF (A9 0) (A3 0) (BF (A9 0) (A3 0) (BF (A9 0) (A3 0) (BF (A9 0) (A3 0) (@Dw _ _))))) rfl rfl (λe=>nomatch e) (by decide)) (A1 (A0 5 (by first | exact aa1 rfl | exact aa0 (aa1 rfl) | exact aa0 (aa0 rfl))) (A1 (A3 0) (A2 0)))) (A2 0))) (AK 7 nd (by first | exact aa1 rfl | exact aa0 rfl) (by first | exact .inl rfl | exact .inr rfl | assumption)) (A5 (AR (AQ PySem.F.plainAttrs_list PySem.F.slot_list_append PySem.F.type_list_append (AW 0) (A0 6 (by first | exact aa1 rfl | exact aa0 (aa1 rfl) | exact aa0 (aa0 rfl))) (A1 (BY PySem.F.plainAttrs_list PySem.F.slot_list_pop PySem.F.type_list_pop (@Bl _) (A0 3 (by first | exact aa1 rfl | exact aa0 (aa1 rfl) | exact aa0 (aa0 rfl)))) (A2 0)))))) (A4 (A7 1 nd (by first | exact aa1 rfl | exact aa0 rfl) (AA (@Bn _) (A0 1 (by first | exact aa1 rfl | exact aa0 (aa1 rfl) | exact aa0 (aa0 rfl))) (B6 (AZ ["one"] [] [] trivial trivial) (BQ (A0 6 (by first | exact aa1 rfl | exact aa0 (aa1 rfl) | exact aa0 (aa0 rfl)))) (λ_ _ _=>(AV 0 (show abe (["one"]:List Str) by decide+kernel) (by first | exact .inl rfl | exact .inr rfl | assumption))) (λ_ _ _=>(@pif1 _ _ _ (AH (@kz _) (AB (@ip _) (A0 0 (by first | exact aa1 rfl | exact aa0 (aa1 rfl) | exact aa0 (aa0 rfl))) (A3 0)) (A9 0) (AC 0)))) (λ_ _ _=>(A0 0 (by first | exact aa1 rfl | exact aa0 (aa1 rfl) | exact aa0 (aa0 rfl)))))) (by first | exact .inl rfl | exact .inr rfl | assumption)) (BK (AD (BC (BV (AH (AL 0) (A0 4 (by first | exact aa1 rfl | exact aa0 (aa1 rfl) | exact aa0 (aa0 rfl))) (A3 0) (AC 0)) (@o9 _ _ _ _ (BJ (@gm _) (A9 0) (A0 1 (by first | exact aa1 rfl | exact aa0 (aa1 rfl) | exact aa0 (aa0 rfl))))))) (A5 (A7 1 nd (by first | exact aa1 rfl | exact aa0 rfl) (AA (@Bn _) (B6 (AZ ["one"] [] [] trivial trivial) (BQ (A0 1 (by first | exact aa1 rfl | exact aa0 (aa1 rfl) | exact aa0 (aa0 rfl)))) (λ_ _ _=>(AV 0 (show abe (["one"]:List Str) by decide+kernel) (by first | exact .inl rfl | exact .inr rfl | assumption))) (λ_ _ _=>(@pif1 _ _ _ (AH (@kz _) (A0 0 (by first | exact aa1 rfl | exact aa0 (aa1 rfl) | exact aa0 (aa0 rfl))) (A9 0) (AC 0)))) (λ_ _ _=>(A0 0 (by first | exact aa1 rfl | exact aa0 (aa1 rfl) | exact aa0 (aa0 rfl))))) (AM (A1 (A9 0) (A2 0)))) (by first | exact .inl rfl | exact .inr rfl | assumption))) (AF 0)) (A4 (AD (AH (AL 0) (AG (AX 0) m_len d8 (A1 (A0 1 (by first | exact aa1 rfl | exact aa0 (aa1 rfl) | exact aa0 (aa0 rfl))) (A2 0))) (A3 0) (AC 0)) (A5 (A8 (@Bf _ _ _))) (AF 0)) (A4 (AR (AQ PySem.F.plainAttrs_list PySem.F.slot_list_append PySem.F.type_list_append (AW 0) (A0 3 (by first | exact aa1 rfl | exact aa0 (aa1 rfl) | exact aa0 (aa0 rfl))) (A1 (BY PySem.F.plainAttrs_list PySem.F.slot_list_pop PySem.F.type_list_pop (@Bl _) (A0 1 (by first | exact aa1 rfl | exact aa0 (aa1 rfl) | exact aa0 (aa0 rfl)))) (A2 0)))) (A5 (AR (AQ PySem.F.plainAttrs_list PySem.F.slot_list_append PySem.F.type_list_append (AW 0) (A0 2 (by first | exact aa1 rfl | exact aa0 (aa1 rfl) | exact aa0 (aa0 rfl))) (A1 (A6 h_law_deed hr (A1 (A0 5 (by first | exact aa1 rfl | exact aa0 (aa1 rfl) | exact aa0 (aa0 rfl))) (A1 (AB (AJ 0) (A0 3 (by first | exact aa1 rfl | exact aa0 (aa1 rfl) | exact aa0 (aa0 rfl))) (BL (@m6 _) (A3 0))) (A1 (A0 6 (by first | exact aa1 rfl | exact aa0 (aa1 rfl) | exact aa0 (aa0 rfl))) (A2 0))))) (A2 0)))))))))))))) (BK (AD (AH (@kz _) (AB (AJ 0) (A0 3 (by first | exact aa1 rfl | exact aa0 (aa1 rfl) | exact aa0 (aa0 rfl))) (A3 0)) (A9 0) (AC 0)) (A5 (A7 2 nd (by first | exact aa1 rfl | exact aa0 rfl) (AA (@Bn _) (A0 2 (by first | exact aa1 rfl | exact aa0 (aa1 rfl) | exact aa0 (aa0 rfl))) (AM (A1 (AE (BD (AI (AI (BW (@jd.nil)))))) (A1 (AE (A1 (A9 0) (A1 (A9 0) (A1 (AB (AJ 0) (A0 3 (by first | exact aa1 rfl | exact aa0 (aa1 rfl) | exact aa0 (aa0 rfl))) (A3 0)) (A1 (A9 0) (A2 0)))))) (A2 0))))) (by first | exact .inl rfl | exact .inr rfl | assumption))) (AF 0)) (A4 (AD (AH (@og _) (AG (AX 0) m_len d8 (A1 (A0 2 (by first | exact aa1 rfl | exact aa0 (aa1 rfl) | exact aa0 (aa0 rfl))) (A2 0))) (A3 0) (AC 0)) (A5 (A8 (@Bf _ _ _))) (AF 0)) (A5 (A8 (AY (BA 0) m_tuple cu (A1 (A0 2 (by first | exact aa1 rfl | exact aa0 (aa1 rfl) | exact aa0 (aa0 rfl))) (A2 0))))))))))),?_⟩;rw[show start ["labels","boxes","deeds","held","k","word","some","j"] [.ref l]=[some (.ref l),none,none,none,none,none,none,none] from rfl];clear hu hu0 nd hr;push_cast [and_true];have sz:=sizeLine_eq;refine ⟨by show (4:Nat)≤sizeLine;decide,λb0 hb0=>⟨aac _,λdl hdl=>⟨aac _,λhl0 hhl=>?_⟩⟩⟩;have n1:b0≠dl:=ah aa hdl;have n2:b0≠hl0:=ah (ab hdl _ _ _ aa) hhl;have n3:dl≠hl0:=ah aa hhl;have s1:=ab hb0 (.lst [V.str (Str.ofString "out"),V.str (Str.ofString "t3"),V.str (Str.ofString "t2"),V.str (Str.ofString "t1")]);have s2:=s1.trans (ab hdl (.lst []));have s3:=s2.trans (ab hhl (.lst []));have Hd:H dl=none:=s1.free hdl;have Hh:H hl0=none:=s2.free hhl;obtain ⟨P1,eP1⟩:∃P1:Nat→L2.St→Hp→Prop,∀k σ H',P1 k σ H'↔∃(bx:Addr) (boxes hs:List Str) (as:List Addr) (ts:List (List V)) (v4 v5 v6 v7:Option V),σ=[some (.ref l),some (.ref bx),some (.ref dl),some (.ref hl0),v4,v5,v6,v7]∧ag H H'∧H bx=none∧bx≠dl∧bx≠hl0∧H' bx=some (.lst (boxes.map V.str))∧H' hl0=some (.lst (hs.reverse.map V.str))∧H' dl=some (.lst (as.map V.ref))∧b8 H' as ts∧DI lv ls k boxes hs ts∧ts.length≤ls.length - k∧hs.length≤ls.length - k∧boxes.length≤4+2*(ls.length - k)∧(k=0→∀x∈hs,x="out"∨x∉B4):=⟨_,λ_ _ _=>aet⟩;push_cast [iDn];refine ⟨ls,.inl (SqL.of (s3 _ _ hL)),ls.length,rfl,by omega,?_⟩;refine L5 P1 ((eP1 _ _ _).mpr ⟨b0,B4,[],[],[],none,none,none,none,rfl,s3,hb0,n1,n2,ab hhl _ _ _ (ab hdl _ _ _ aa),aa,by rw[af n3];exact aa,b8.nil _,DI.nil λz hz=>(hv z hz).1,by show 0≤_;omega,by show 0≤_;omega,by show 4≤_;omega,λ_ _ h=>nomatch h⟩) ?_ ?_
 ·clear s1 s2 s3 n1 n2;rintro k σ H1 hk hh;obtain ⟨bx,boxes,hs,as,ts,v4,v5,v6,v7,rfl,s1,hbn,n1,n2,hB,hH,hD,hTs,D,tl,hsl,bl,_⟩:=(eP1 _ _ _).mp hh;clear hh;obtain ⟨w,hwk⟩:∃w,ls[k]?=some w:=⟨_,aa2 hk⟩;have hwl:=hw w (aam hwk);push_cast [and_true];refine aw (s1 _ _ hL) (cb hwk) ?_;push_cast [and_true];refine ji (λσ' H'=>σ'=[some (.ref l),some (.ref bx),some (.ref dl),some (.ref hl0),some (.int (k:Int)),some w,v6,v7]∧H'=H1∧∀z,w=.str z→arS z=0→hd z≠some 104) ?_ ?_
  ·push_cast [rIxS,tCont];rcases id hwl with ⟨n,rfl,_⟩ | ⟨z,rfl,_⟩
   ·exact ⟨_,.int n,false,rfl,jv λz e=>by cases e⟩
   ·obtain ⟨c,h1,h2,h3⟩:=lab_hd hv hwl;have at0:atI z.cps.toList 0=some c:=cb (j:=0) (by rw[←aco];exact h1);have h4:Str.ofString "h"=⟨#[104]⟩:=by decide+kernel
    rw[h4];refine ⟨_,.str z,true,rfl,iy ⟨z,rfl,by omega,c,at0,rfl,cx (λe=>?_) λe=>?_⟩⟩
    ·have e:c=104:=by injection e with e;simpa using e
     obtain ⟨z0,zm⟩:=h3 e;rw[e] at h1;refine bh hH (by rw[aa3,aby];omega) ((eP1 _ _ _).mpr ⟨bx,boxes,z::hs,as,ts,_,_,_,_,rfl,s1.upd Hh _,hbn,n1,n2,by rw[af n2];exact hB,?_,by rw[af n3];exact hD,hTs.keep (Tk.upd (Tk.refl _) λxs e=>by rw[hH] at e;cases e),D.hole hwk z0 zm h1,by omega,by rw[aaa];omega,by omega,?_⟩)
     ·rw[aa,abl,aag];rfl
     ·intro k0 x hx;subst k0;have h0:=(D.room hT hw hwk).2 rfl;rw[show arV (.str z)=0 from z0] at h0;rw[acz h0,ad7] at hx;rw[hx];exact .inr (By (.inl h1))
    ·intro y ey _ hd4;cases ey
     rw[h1] at hd4;exact e (by rw[aa6 hd4])
  ·rintro σ' H' ⟨rfl,rfl,nh⟩;push_cast [Il,sr,Ki,Av];have a2:arV w≤2:=by
    cases w with
    | str z=>exact fu (z:=z)
    | _=>exact aac _
   have hrm:=(D.room hT hw hwk).1;refine ⟨aac _,λsl hsl0 cd hcd=>⟨aa,t5,rfl,acr rfl,J3 aa,?_⟩⟩;have sA:ag H' (upd (upd (upd H' sl (.lst [])) cd (.dK [])) cd (.dK (cy [] t5))):=((ab hsl0 _).trans (ab hcd _)).upd ((ab hsl0 (.lst [])).free hcd) _;have sSl:upd (upd (upd H' sl (.lst [])) cd (.dK [])) cd (.dK (cy [] t5)) sl=some (.lst []):=by
    have:sl≠cd:=ah aa hcd;rw[af this,af this];exact aa
   obtain ⟨o,hg,ho⟩:=op_get (H:=upd (upd (upd H' sl (.lst [])) cd (.dK [])) cd (.dK (cy [] t5))) aa hwl;refine ⟨o,hg,_,ho,by omega,by omega,?_⟩;generalize upd (upd (upd H' sl (.lst [])) cd (.dK [])) cd (.dK (cy [] t5))=HA at sA sSl hg ⊢;rw[abk];have m1:sl≠bx:=(ah hB hsl0).symm;have m2:sl≠dl:=(ah hD hsl0).symm;have m3:sl≠hl0:=(ah hH hsl0).symm;have Hsl:H sl=none:=s1.free hsl0;refine e7 (lo:=0) (λj σ H2=>∃v7:Option V,σ=[some (.ref l),some (.ref bx),some (.ref dl),some (.ref hl0),some (.int (k:Int)),some w,some (.ref sl),v7]∧ag H H2∧H2 bx=some (.lst (boxes.map V.str))∧H2 dl=some (.lst (as.map V.ref))∧b8 H2 as ts∧H2 hl0=some (.lst ((hs.drop j).reverse.map V.str))∧H2 sl=some (.lst ((hs.take j).map V.str))) ⟨v7,rfl,s1.trans sA,sA _ _ hB,sA _ _ hD,hTs.keep (Tk.of sA),sA _ _ hH,sSl⟩ ?_ ?_
   ·rintro j σ H2 hj ⟨v7,rfl,s2,hB2,hD2,hT2,hH2,hS2⟩;push_cast [and_true];have hjl:j < hs.length:=by omega
    have ej:hs.drop j=hs[j]::hs.drop (j+1):=aay hjl;have hH3:H2 hl0=some (.lst ((hs.drop (j+1)).reverse.map V.str++[V.str hs[j]])):=by
     rw[hH2,ej,abl,aag];rfl
    have tk0:Tk H2 (upd H2 hl0 (.lst ((hs.drop (j+1)).reverse.map V.str))):=Tk.upd (Tk.refl _) λxs e=>by rw[hH2] at e;cases e
    have hS3:upd H2 hl0 (.lst ((hs.drop (j+1)).reverse.map V.str)) sl=some (.lst ((hs.take j).map V.str)):=by rw[af m3];exact hS2
    refine ⟨bq hS2,xi (K:=K) hH3 (bh (K:=K) hS3 (by rw[aa3,aad];omega) ⟨(s2.upd Hh _).upd Hsl _,by rw[af m1.symm,af n2];exact hB2,by rw[af m2.symm,af n3];exact hD2,hT2.keep (Tk.upd tk0 λxs e=>by rw[hS2] at e;cases e),by rw[af m3.symm];exact aa,?_⟩).2⟩;rw[aa,aan,aa2 hjl,acf,aag];rfl
   ·rintro σ H2 ⟨v7,rfl,s2,hB2,hD2,hT2,hH2,hS2⟩;push_cast [and_true];have tkl:(hs.take (arV w)).length≤2:=by rw[aad];omega
    have h4:Str.ofString "h"=⟨#[104]⟩:=by decide+kernel
    refine ⟨⟨_,SqL.of hS2⟩,λDD hDD=>wb (λi ys=>ys=(((hs.take (arV w)).take i).filter λz=>decide (hd z≠some 104)).map V.str) (SqL.of hS2) (by rw[aa3];omega) hDD rfl (λi x ys H3 G' K' hx hP hl2 hS hG hK=>?_) λys H3 hP hl2 hS hD3=>?_⟩
    ·rw[aae] at hx;obtain ⟨z,hx',rfl⟩:=Option.map_eq_some_iff.mp hx;obtain ⟨c,h1,h2⟩:=D.hds hv (abj (aam hx'));have at0:atI z.cps.toList 0=some c:=cb (j:=0) (by rw[←aco];exact h1);have et:(hs.take (arV w)).take (i+1)=(hs.take (arV w)).take i++[z]:=by rw[aan,hx'];rfl
     push_cast [rIxS];refine ⟨by omega,c,at0,rfl,?_⟩;rw[h4];by_cases e:c=104
     ·rw[if_neg (by rw[e];simp)];refine hG _ (ag.refl _) ?_;rw[hP,et,ab2,ab4,if_neg (by rw[h1,e];simp),ac3,aaz]
     ·rw[if_pos (by simpa using e)];refine hK _ _ (ag.refl _) ?_;rw[hP,et,ab2,ab4,if_pos (by rw[h1];simpa using e),ac3,aag];rfl
    rw[aa3,aau] at hP;have fl:=(dn boxes (hs.take (arV w))).length;have yl:ys.length≤2:=by rw[hP,aa3];exact aal (abb _ _) tkl
    refine xp (hS _ _ hB2) hD3 (by rw[aa3];omega) λb1 hb1=>?_;have e1:boxes.map V.str++ys=(dn boxes (hs.take (arV w))).map V.str:=by
     unfold dn;rw[hP,aag]
    rw[e1];have sB:=hS.trans (ab hb1 (.lst ((dn boxes (hs.take (arV w))).map V.str)));have hb1':upd H3 b1 (.lst ((dn boxes (hs.take (arV w))).map V.str)) b1=some (.lst ((dn boxes (hs.take (arV w))).map V.str)):=aa;have k1:b1≠dl:=(ah (hS _ _ hD2) hb1).symm;have k2:b1≠hl0:=(ah (hS _ _ hH2) hb1).symm;have Hb1:H b1=none:=(s2.trans hS).free hb1;obtain ⟨fn,fm⟩:=D.free (arV w);have fle:(dn boxes (hs.take (arV w))).length≤boxes.length+2:=by
     unfold dn;rw[aa5];have:=abb (λz=>decide (hd z≠some 104)) (hs.take (arV w));omega
    generalize upd H3 b1 (.lst ((dn boxes (hs.take (arV w))).map V.str))=H4 at sB hb1' ⊢;have S4:=s2.trans sB;obtain ⟨M,eM⟩:∃M:L2.St→Hp→Prop,∀σ H',M σ H'↔∃(b2:Addr) (bs:List Str),σ=[some (.ref l),some (.ref b2),some (.ref dl),some (.ref hl0),some (.int (k:Int)),some w,some (.ref sl),v7]∧ag H2 H'∧H b2=none∧b2≠dl∧b2≠hl0∧b2≠sl∧H' b2=some (.lst (bs.map V.str))∧bs.Nodup∧(∀z,z∈bs↔z∈boxes∨(z∈hs.take (arV w)∧z∈B4))∧bs.length≤boxes.length+3∧(k=0→∃r,bs=r++[Str.ofString "out"]):=⟨_,λ_ _=>aet⟩;have hout:k=0→Str.ofString "out"∈dn boxes (hs.take (arV w)):=λk0=>by subst k0;exact D.out hT hw hwk
    have k3:b1≠sl:=(ah (hS _ _ hS2) hb1).symm;refine ji M ?_ ?_
    ·push_cast [rIn];refine ⟨rfl,cx (λc=>⟨_,.inl (SqL.of hb1'),rfl,List.all_eq_true.mpr λx hx=>by obtain ⟨z,_,rfl⟩:=List.mem_map.mp hx;rfl,cx (λc1=>⟨⟨_,SqL.of hb1'⟩,λD2 hD2'=>?_⟩) λc1=>?_⟩) λc=>(eM _ _).mpr ⟨b1,_,rfl,sB,Hb1,k1,k2,k3,hb1',fn,fm,by omega,λk0=>by omega⟩⟩
     ·have k0:k=0:=by omega
      obtain ⟨on,om⟩:=Ie fn (hout k0);refine wb (λi ys=>ys=(((dn boxes (hs.take (arV w))).take i).filter λz=>decide (z≠Str.ofString "out")).map V.str) (SqL.of hb1') (by rw[aa3];omega) hD2' rfl (λi x ys H6 G' K' hx hP hl2 hS hG hK=>?_) λys H6 hP hl2 hS6 hD6=>⟨by show (1:Nat)≤sizeLine;decide,λp1 hp1=>?_⟩
      ·rw[aae] at hx;obtain ⟨z,hx',rfl⟩:=Option.map_eq_some_iff.mp hx;have et:(dn boxes (hs.take (arV w))).take (i+1)=(dn boxes (hs.take (arV w))).take i++[z]:=by rw[aan,hx'];rfl
       push_cast [and_true];refine ⟨rfl,?_⟩;by_cases e:z=Str.ofString "out"
       ·rw[if_neg (by rw[e];simp)];refine hG _ (ag.refl _) ?_;rw[hP,et,ab2,ab4,if_neg (by simp[e]),ac3,aaz]
       ·rw[if_pos (by simpa using e)];refine hK _ _ (ag.refl _) ?_;rw[hP,et,ab2,ab4,if_pos (by simp[e]),ac3,aag];rfl
      rw[aa3,aau] at hP;have yl:ys.length≤boxes.length+2:=by rw[hP,aa3];exact aal (abb _ _) fle
      have s7:=hS6.trans (ab hp1 (.lst [V.str (Str.ofString "out")]));refine xp (ab hp1 _ _ _ hD6) aa (by show ys.length+1≤sizeLine;omega) λb2 hb2=>(eM _ _).mpr ⟨b2,outB (dn boxes (hs.take (arV w))),rfl,(sB.trans s7).trans (ab hb2 _),((s2.trans sB).trans s7).free hb2,(ah ((sB.trans s7) _ _ hD2) hb2).symm,(ah ((sB.trans s7) _ _ hH2) hb2).symm,(ah ((sB.trans s7) _ _ hS2) hb2).symm,?_,on,λz=>(om z).trans (fm z),?_,λ_=>⟨_,rfl⟩⟩
      ·rw[aa,hP];unfold outB;rw[aag];rfl
      ·unfold outB;rw[aa5];have:=abb (λz=>decide (z≠Str.ofString "out")) (dn boxes (hs.take (arV w)));show _+1≤_
       omega
     ·exfalso
      exact c1 (pk (List.mem_map.mpr ⟨_,hout (by omega),rfl⟩))
    ·rintro σ' H5 hM;obtain ⟨b2,bs,rfl,s5,Hb2,j1,j2,j3,hb2,bnd,bm,ble,bo⟩:=(eM _ _).mp hM;push_cast [and_true];have S5:=s2.trans s5;refine ⟨_,.inl (SqL.of hb2),rfl,cx (λc=>q0 _ S5) λc=>?_⟩;obtain ⟨r,b,rfl⟩:∃r b,bs=r++[b]:=by
      rcases List.eq_nil_or_concat bs with h | ⟨r,b,h⟩
      ·exfalso
       rw[h] at c;exact c rfl
      ·exact ⟨r,b,by rw[h,List.concat_eq_append]⟩
     have hb2':H5 b2=some (.lst (r.map V.str++[V.str b])):=by rw[hb2,aag];rfl
     have hH5:upd H5 b2 (.lst (r.map V.str)) hl0=some (.lst ((hs.drop (arV w)).reverse.map V.str)):=by rw[af j2.symm];exact s5 _ _ hH2
     have dle:(hs.drop (arV w)).length≤hs.length:=by rw[aao];omega
     have S6:ag H (upd (upd H5 b2 (.lst (r.map V.str))) hl0 (.lst ((hs.drop (arV w)).reverse.map V.str++[V.str b]))):=(S5.upd Hb2 _).upd Hh _;have d6:upd (upd H5 b2 (.lst (r.map V.str))) hl0 (.lst ((hs.drop (arV w)).reverse.map V.str++[V.str b])) dl=some (.lst (as.map V.ref)):=by rw[af n3,af j1.symm];exact s5 _ _ hD2
     have l6:upd (upd H5 b2 (.lst (r.map V.str))) hl0 (.lst ((hs.drop (arV w)).reverse.map V.str++[V.str b])) sl=some (.lst ((hs.take (arV w)).map V.str)):=by rw[af m3,af j3.symm];exact s5 _ _ hS2
     have b6:upd (upd H5 b2 (.lst (r.map V.str))) hl0 (.lst ((hs.drop (arV w)).reverse.map V.str++[V.str b])) b2=some (.lst (r.map V.str)):=by rw[af j2];exact aa
     have t6:b8 (upd (upd H5 b2 (.lst (r.map V.str))) hl0 (.lst ((hs.drop (arV w)).reverse.map V.str++[V.str b]))) as ts:=hT2.keep ((Tk.of s5).trans (Tk.upd (Tk.upd (Tk.refl _) λxs e=>by rw[hb2] at e;cases e) λxs e=>by rw[s5 _ _ hH2] at e;cases e));have h6:upd (upd H5 b2 (.lst (r.map V.str))) hl0 (.lst ((hs.drop (arV w)).reverse.map V.str++[V.str b])) hl0=some (.lst ((hs.drop (arV w)).reverse.map V.str++[V.str b])):=aa;refine ⟨bq (s5 _ _ hH2),xi (K:=K) hb2' (bh (K:=K) hH5 (by rw[aa3,aby];omega) ?_).2⟩;generalize upd (upd H5 b2 (.lst (r.map V.str))) hl0 (.lst ((hs.drop (arV w)).reverse.map V.str++[V.str b]))=H6 at S6 d6 l6 b6 t6 h6 ⊢;refine ⟨bq d6,aw h6 (Ik _ _) ⟨w,b,sl,hs.take (arV w),lv,rfl,hwl,nh,l6,tkl,λz hz=>(hv z hz).2,λt H7 s7 ht=>(bh (K:=K) (s7 _ _ d6) (by rw[aa3,hT2.1];omega) ((eP1 _ _ _).mpr ⟨b2,r,b::hs.drop (arV w),as++[t],ts++[kx w b (hs.take (arV w))],_,_,_,_,rfl,(S6.trans s7).upd Hd _,Hb2,j1,j2,by rw[af j1];exact s7 _ _ b6,?_,by rw[aa,aag];rfl,?_,D.step hT (by omega) hw hwk nh bm bnd,?_,?_,?_,?_⟩)).2⟩⟩
     ·rw[af n3.symm,s7 _ _ h6,abl,aag];rfl
     ·exact ((t6.keep (Tk.of s7)).snoc ht).keep (Tk.upd (Tk.refl _) λxs e=>by rw[s7 _ _ d6] at e;cases e)
     ·rw[aa5,aat];omega
     ·rw[aaa,aao];omega
     ·rw[aa5,aat] at ble;omega
     ·intro k0 x hx;obtain ⟨r',e⟩:=bo k0;have eb:b=Str.ofString "out":=by
       have:=congrArg List.getLast? e;simpa using this
      have h0:=(D.room hT hw hwk).2 k0;rw[←h0,ac9,ad7] at hx;exact .inl (hx.trans eb)
 ·rintro σ H1 hh;obtain ⟨bx,boxes,hs,as,ts,v4,v5,v6,v7,rfl,s1,hbn,n1,n2,hB,hH,hD,hTs,D,tl,hsl,bl,ho⟩:=(eP1 _ _ _).mp hh;obtain ⟨x,rfl,o1,o2⟩:=D.last hT hw;refine ji (λσ' H'=>∃(dl':Addr) (as':List Addr) (ts':List (List V)),σ'=[some (.ref l),some (.ref bx),some (.ref dl'),some (.ref hl0),v4,v5,v6,v7]∧ag H H'∧H' dl'=some (.lst (as'.map V.ref))∧b8 H' as' ts'∧Comes lv ls ts'∧as'.length≤13) ?_ ?_
  ·push_cast [and_true];refine aw hH (cb (j:=0) rfl) ⟨rfl,?_⟩;by_cases e:x="out"
   ·rw[if_neg (by rw[e];simp)];exact ⟨s1,as,hD,ts,hTs,o1 e,by rw[hTs.1];omega⟩
   ·rw[if_pos (by simpa using e)];refine ⟨by show (3:Nat)≤sizeLine;decide,λp1 hp1=>aw (ab hp1 _ _ _ hH) (cb (j:=0) rfl) ⟨by show (4:Nat)≤sizeLine;decide,λp2 hp2=>⟨by show (2:Nat)≤sizeLine;decide,λp3 hp3=>?_⟩⟩⟩;have sa:=ab hp1 (.tup [V.str (Str.ofString "put"),V.str (Str.ofString "t1"),V.int 0]);have sb:=ab hp2 (.tup [V.str (Str.ofString "add"),V.str (Str.ofString "out"),V.str x,V.str (Str.ofString "t1")]);have sc:=ab hp3 (.lst [V.ref p1,V.ref p2]);have sabc:=sa.trans (sb.trans sc);have al:=hTs.1;refine xp (sabc _ _ hD) aa (by rw[aa3];show as.length+2≤sizeLine;omega) λp4 hp4=>⟨p4,rfl,(s1.trans sabc).trans (ab hp4 _),as++[p1]++[p2],by rw[aa,aag,aag,ab5];rfl,_,?_,o2 ((ho rfl x aa8).resolve_left e),by rw[aa5,aa5];show as.length+1+1≤13;omega⟩;have sd:=ab hp4 (.lst (as.map V.ref++[V.ref p1,V.ref p2]));rw[show ts++[[V.str (Str.ofString "put"),V.str (Str.ofString "t1"),V.int 0],[V.str (Str.ofString "add"),V.str (Str.ofString "out"),V.str x,V.str (Str.ofString "t1")]]=(ts++[[V.str (Str.ofString "put"),V.str (Str.ofString "t1"),V.int 0]])++[[V.str (Str.ofString "add"),V.str (Str.ofString "out"),V.str x,V.str (Str.ofString "t1")]] by rw[ab5];rfl];exact ((hTs.keep (Tk.of (sabc.trans sd))).snoc (((sb.trans sc).trans sd) _ _ aa)).snoc ((sc.trans sd) _ _ aa)
  ·rintro σ' H2 ⟨dl',as',ts',rfl,s2,hd2,ht2,hc,hal⟩;push_cast [and_true];refine ⟨_,.inl (SqL.of hd2),cx (λc=>q0 _ s2) λc=>⟨_,.inl ⟨SqL.of hd2,λt ht=>q t as' ts' _ (s2.trans (ab ht _)) aa (ht2.keep (Tk.of (ab ht _))) hc ?_⟩⟩⟩;rw[aa3] at c;rw[←ht2.1];omega
noncomputable abbrev gx:Stmt:=top 46
theorem yt:aj ["kinds","hand","one","word","deeds"] ["kinds","hand"] (ae gx):=⟨rfl,rfl,rfl,by decide+kernel,rfl,by decide+kernel,by decide+kernel⟩
theorem Ff (G:Gs w K mg) (h_law_draw:Has P w K mg base k "_law_draw" ["hand","limit"] gz) (D:Def K mg "_law_spread" gx ["kinds","hand"]):Has P w K mg base (k+1) "_law_spread" ["kinds","hand"] (jg 1):=by
 refine D.has yt (λvs H Q E h=>?_) (λf cdv A outer s H vs Q E hr h=>?_)
 ·obtain ⟨_,_,_,rfl,_,_,_,_⟩:=h;rfl
 have nd:=yt.nd;have hu:=bu hr;have hu0:=aab hu;obtain ⟨kt,h,kinds,rfl,hh,hK,hk,q⟩:=h;have m_int:=G.m_int;have m_len:=G.m_len;refine ⟨_,(A4 (A7 2 nd (by first | exact aa1 rfl | exact aa0 rfl) (AB (@fg _) (A0 0 (by first | exact aa1 rfl | exact aa0 (aa1 rfl) | exact aa0 (aa0 rfl))) (A6 h_law_draw hr (A1 (A0 1 (by first | exact aa1 rfl | exact aa0 (aa1 rfl) | exact aa0 (aa0 rfl))) (A1 (AG (AX 0) m_len d8 (A1 (A0 0 (by first | exact aa1 rfl | exact aa0 (aa1 rfl) | exact aa0 (aa0 rfl))) (A2 0))) (A2 0))))) (by first | exact .inl rfl | exact .inr rfl | assumption)) (A4 (A7 3 nd (by first | exact aa1 rfl | exact aa0 rfl) (AB (AJ 0) (AM (A1 (A9 0) (A1 (A9 0) (A2 0)))) (A6 h_law_draw hr (A1 (A0 1 (by first | exact aa1 rfl | exact aa0 (aa1 rfl) | exact aa0 (aa0 rfl))) (A1 (A3 0) (A2 0))))) (by first | exact .inl rfl | exact .inr rfl | assumption)) (A4 (AD (AH (AL 0) (A6 h_law_draw hr (A1 (A0 1 (by first | exact aa1 rfl | exact aa0 (aa1 rfl) | exact aa0 (aa0 rfl))) (A1 (A3 0) (A2 0)))) (A3 0) (AC 0)) (A4 (A7 4 nd (by first | exact aa1 rfl | exact aa0 rfl) (AE (A1 (AE (BD (AI (AI (AI (AI (@jd.nil))))))) (A1 (AE (BD (AI (AI (AI (AI (@jd.nil))))))) (A1 (AE (A1 (A0 3 (by first | exact aa1 rfl | exact aa0 (aa1 rfl) | exact aa0 (aa0 rfl))) (A1 (A9 0) (A1 (A9 0) (A1 (A9 0) (A2 0)))))) (A2 0))))) (by first | exact .inl rfl | exact .inr rfl | assumption)) (A5 (A8 (AE (A1 (AE (A1 (A9 0) (A1 (A0 2 (by first | exact aa1 rfl | exact aa0 (aa1 rfl) | exact aa0 (aa0 rfl))) (A1 (A0 3 (by first | exact aa1 rfl | exact aa0 (aa1 rfl) | exact aa0 (aa0 rfl))) (A1 (A0 2 (by first | exact aa1 rfl | exact aa0 (aa1 rfl) | exact aa0 (aa0 rfl))) (A1 (AB (@fg _) (A0 0 (by first | exact aa1 rfl | exact aa0 (aa1 rfl) | exact aa0 (aa0 rfl))) (A3 0)) (A2 0))))))) (A1 (A0 4 (by first | exact aa1 rfl | exact aa0 (aa1 rfl) | exact aa0 (aa0 rfl))) (A2 0))))))) (AF 0)) (A4 (A7 4 nd (by first | exact aa1 rfl | exact aa0 rfl) (AE (A1 (AE (BD (AI (AI (AI (@jd.nil)))))) (A1 (AE (A1 (AB (AJ 0) (AM (A1 (A9 0) (A1 (A9 0) (A2 0)))) (AY (@qk _) m_int yv (A1 (B8 (AL 0) (A0 3 (by first | exact aa1 rfl | exact aa0 (aa1 rfl) | exact aa0 (aa0 rfl))) (A9 0) (AC 0)) (A2 0)))) (A1 (A9 0) (A1 (A9 0) (A1 (A9 0) (A2 0)))))) (A2 0)))) (by first | exact .inl rfl | exact .inr rfl | assumption)) (A5 (A8 (AE (A1 (AE (A1 (A0 3 (by first | exact aa1 rfl | exact aa0 (aa1 rfl) | exact aa0 (aa0 rfl))) (A1 (A0 2 (by first | exact aa1 rfl | exact aa0 (aa1 rfl) | exact aa0 (aa0 rfl))) (A1 (AB (@fg _) (A0 0 (by first | exact aa1 rfl | exact aa0 (aa1 rfl) | exact aa0 (aa0 rfl))) (A3 0)) (A2 0))))) (A1 (A0 4 (by first | exact aa1 rfl | exact aa0 (aa1 rfl) | exact aa0 (aa0 rfl))) (A2 0)))))))))),?_⟩;rw[show start ["kinds","hand","one","word","deeds"] [.ref kt,.ref h]=[some (.ref kt),some (.ref h),none,none,none] from rfl];clear hu hu0 nd hr;push_cast [and_true];have sz:=sizeLine_eq;have k1:=hk.1;have k8:=hk.2.1;have lm:(kinds.map V.str).length=kinds.length:=aa3 _;have nk:kt≠h:=by obtain ⟨_,_,_,h1,_⟩:=id hh;exact sk hK h1 (by intro e;cases e)
 obtain ⟨c0,hc0⟩:∃c0,kinds[0]?=some c0:=⟨_,aa2 (by omega)⟩;have hc0m:=aam hc0;have at0:atI (kinds.map V.str) 0=some (.str c0):=cb (j:=0) (by rw[aae,hc0];rfl);refine ⟨_,.inr (SqT.of hK),bp hh (by omega) (by omega) (abc (aca _) (by omega)) λx H1 s1 hh1 x0 x1=>?_⟩;obtain ⟨v,hv,hm⟩:=iz (kinds.map V.str) x x0 x1;obtain ⟨a,ha,rfl⟩:=List.mem_map.mp hm;refine de (s1 _ _ nk hK) hv ⟨by show (2:Nat)≤sizeLine;decide,λp hp=>?_⟩;have sp:=ab hp (.lst [V.str (Str.ofString "add"),V.str (Str.ofString "sub")]);have nph:p≠h:=λe=>by obtain ⟨_,_,_,h1,_⟩:=id hh1;rw[e,h1] at hp;cases hp
 refine bp (hh1.same sp) (by omega) (by decide) (by decide+kernel) λy H2 s2 hh2 y0 y1=>?_;obtain ⟨v,hv,hm⟩:=iz [V.str (Str.ofString "add"),V.str (Str.ofString "sub")] y y0 (by show y < 2;omega);obtain ⟨w,rfl,hw⟩:∃w,v=.str w∧(w=Str.ofString "add"∨w=Str.ofString "sub"):=by
  simp only[ab0,aas,or_false] at hm;rcases hm with rfl | rfl
  ·exact ⟨_,rfl,.inl rfl⟩
  ·exact ⟨_,rfl,.inr rfl⟩
 refine aw (s2 _ _ nph aa) hv (bp hh2 (by omega) (by decide) (by decide+kernel) λz H3 s3 hh3 z0 z1=>⟨rfl,?_⟩);have S3:=s1.trans ((av.of sp).trans (s2.trans s3));have hK3:=S3 _ _ nk hK;refine cx (λc=>?_) λc=>?_
 ·refine ⟨by show (4:Nat)≤sizeLine;decide,λp1 hp1=>⟨by show (4:Nat)≤sizeLine;decide,λp2 hp2=>⟨by show (4:Nat)≤sizeLine;decide,λp3 hp3=>⟨by show (3:Nat)≤sizeLine;decide,λda hda=>?_⟩⟩⟩⟩;have d1:=ab hp1 (.tup [V.str (Str.ofString "mul"),V.str (Str.ofString "t1"),V.str (Str.ofString "h1"),V.str (Str.ofString "h2")]);have d2:=ab hp2 (.tup [V.str (Str.ofString "mul"),V.str (Str.ofString "out"),V.str (Str.ofString "h3"),V.str (Str.ofString "h1")]);have d3:=ab hp3 (.tup [V.str w,V.str (Str.ofString "out"),V.str (Str.ofString "t1"),V.str (Str.ofString "out")]);have d4:=ab hda (.tup [V.ref p1,V.ref p2,V.ref p3]);refine de ((d1.trans (d2.trans (d3.trans d4))) _ _ hK3) at0 ⟨by show (5:Nat)≤sizeLine;decide,λst hst=>⟨by show (2:Nat)≤sizeLine;decide,λpp hpp=>?_⟩⟩;have d5:=ab hst (.tup [V.str (Str.ofString "mul"),V.str a,V.str w,V.str a,V.str c0]);have d6:=ab hpp (.tup [V.ref st,V.ref da]);have dd:=d1.trans (d2.trans (d3.trans (d4.trans (d5.trans d6))));refine q pp _ (S3.trans (av.of dd)) ((hh3.same dd).le (by omega)) ⟨st,da,_,[p1,p2,p3],_,aa,d6 _ _ aa,(d5.trans d6) _ _ aa,?_,snd3 hk ha hc0m hw,by show (3:Nat)≤6;decide⟩;exact ((b8.nil _).snoc ((d2.trans (d3.trans (d4.trans (d5.trans d6)))) _ _ aa)).snoc ((d3.trans (d4.trans (d5.trans d6))) _ _ aa) |>.snoc ((d4.trans (d5.trans d6)) _ _ aa)
 ·refine ⟨by show (3:Nat)≤sizeLine;decide,λp1 hp1=>⟨by show (2:Nat)≤sizeLine;decide,λpl hpl=>⟨rfl,?_⟩⟩⟩;obtain ⟨u,hu,hwu⟩:∃u,atI [V.str (Str.ofString "sub"),V.str (Str.ofString "add")] (if V.str w=V.str (Str.ofString "sub") then 1 else 0)=some (.str u)∧((w=Str.ofString "add"∧u=Str.ofString "sub")∨(w=Str.ofString "sub"∧u=Str.ofString "add")):=by
   rcases hw with rfl | rfl
   ·exact ⟨Str.ofString "sub",by decide+kernel,.inl ⟨rfl,rfl⟩⟩
   ·exact ⟨Str.ofString "add",by decide+kernel,.inr ⟨rfl,rfl⟩⟩
  refine aw aa hu ⟨by show (4:Nat)≤sizeLine;decide,λp2 hp2=>⟨by show (2:Nat)≤sizeLine;decide,λda hda=>?_⟩⟩;have d1:=ab hp1 (.tup [V.str (Str.ofString "neg"),V.str (Str.ofString "t1"),V.str (Str.ofString "h2")]);have d2:=ab hpl (.lst [V.str (Str.ofString "sub"),V.str (Str.ofString "add")]);have d3:=ab hp2 (.tup [V.str u,V.str (Str.ofString "out"),V.str (Str.ofString "h1"),V.str (Str.ofString "t1")]);have d4:=ab hda (.tup [V.ref p1,V.ref p2]);refine de ((d1.trans (d2.trans (d3.trans d4))) _ _ hK3) at0 ⟨by show (3:Nat)≤sizeLine;decide,λst hst=>⟨by show (2:Nat)≤sizeLine;decide,λpp hpp=>?_⟩⟩;have d5:=ab hst (.tup [V.str w,V.str a,V.str c0]);have d6:=ab hpp (.tup [V.ref st,V.ref da]);have dd:=d1.trans (d2.trans (d3.trans (d4.trans (d5.trans d6))));refine q pp _ (S3.trans (av.of dd)) ((hh3.same dd).le (by omega)) ⟨st,da,_,[p1,p2],_,aa,d6 _ _ aa,(d5.trans d6) _ _ aa,?_,snd2 hk ha hc0m hwu,by show (2:Nat)≤6;decide⟩;exact ((b8.nil _).snoc ((d2.trans (d3.trans (d4.trans (d5.trans d6)))) _ _ aa)).snoc ((d4.trans (d5.trans d6)) _ _ aa)
noncomputable abbrev ki:Stmt:=top 47
theorem Eh:aj ["kinds","hand","shape","deeds"] ["kinds","hand"] (ae ki):=⟨rfl,rfl,rfl,by decide+kernel,rfl,by decide+kernel,by decide+kernel⟩
theorem Ht (G:Gs w K mg) (h_law_deeds:Has P w K mg base k "_law_deeds" ["labels"] sx) (h_law_draw:Has P w K mg base k "_law_draw" ["hand","limit"] gz) (h_law_labels:Has P w K mg base k "_law_labels" ["kinds","shape"] qt) (h_law_shape:Has P w K mg base k "_law_shape" ["hand","kinds","limit"] t4) (h_law_spread:Has P w K mg base k "_law_spread" ["kinds","hand"] (jg 1)) (D:Def K mg "_law_rule" ki ["kinds","hand"]):Has P w K mg base (k+1) "_law_rule" ["kinds","hand"] (jg 0):=by
 refine D.has Eh (λvs H Q E h=>?_) (λf cdv A outer s H vs Q E hr h=>?_)
 ·obtain ⟨_,_,_,rfl,_,_,_,_⟩:=h;rfl
 have nd:=Eh.nd;have hu:=bu hr;have hu0:=aab hu;obtain ⟨kt,h,kinds,rfl,hh,hK,hk,q⟩:=h;refine ⟨_,(A4 (AD (AH (AL 0) (A6 h_law_draw hr (A1 (A0 1 (by first | exact aa1 rfl | exact aa0 (aa1 rfl) | exact aa0 (aa0 rfl))) (A1 (A3 0) (A2 0)))) (A3 0) (AC 0)) (A5 (A8 (A6 h_law_spread hr (A1 (A0 0 (by first | exact aa1 rfl | exact aa0 (aa1 rfl) | exact aa0 (aa0 rfl))) (A1 (A0 1 (by first | exact aa1 rfl | exact aa0 (aa1 rfl) | exact aa0 (aa0 rfl))) (A2 0)))))) (AF 0)) (A4 (A7 2 nd (by first | exact aa1 rfl | exact aa0 rfl) (A6 h_law_shape hr (A1 (A0 1 (by first | exact aa1 rfl | exact aa0 (aa1 rfl) | exact aa0 (aa0 rfl))) (A1 (A0 0 (by first | exact aa1 rfl | exact aa0 (aa1 rfl) | exact aa0 (aa0 rfl))) (A1 (AA (AO 0) (A3 0) (A6 h_law_draw hr (A1 (A0 1 (by first | exact aa1 rfl | exact aa0 (aa1 rfl) | exact aa0 (aa0 rfl))) (A1 (A3 0) (A2 0))))) (A2 0))))) (by first | exact .inl rfl | exact .inr rfl | assumption)) (A4 (A7 3 nd (by first | exact aa1 rfl | exact aa0 rfl) (A6 h_law_deeds hr (A1 (A6 h_law_labels hr (A1 (A0 0 (by first | exact aa1 rfl | exact aa0 (aa1 rfl) | exact aa0 (aa0 rfl))) (A1 (A0 2 (by first | exact aa1 rfl | exact aa0 (aa1 rfl) | exact aa0 (aa0 rfl))) (A2 0)))) (A2 0))) (by first | exact .inl rfl | exact .inr rfl | assumption)) (A4 (AD (BN (@pc_isN _ _ _ _ _ (A0 3 (by first | exact aa1 rfl | exact aa0 (aa1 rfl) | exact aa0 (aa0 rfl)))) (by first | exact gk _ (by decide) (by decide) | rfl)) (A5 (A8 (AE (A1 (AE (A1 (A9 0) (A2 0))) (A1 (AE (A1 (AE (BD (AI (AI (AI (@jd.nil)))))) (A2 0))) (A2 0)))))) (AF 0)) (A5 (A8 (AE (A1 (A0 2 (by first | exact aa1 rfl | exact aa0 (aa1 rfl) | exact aa0 (aa0 rfl))) (A1 (A0 3 (by first | exact aa1 rfl | exact aa0 (aa1 rfl) | exact aa0 (aa0 rfl))) (A2 0)))))))))),?_⟩;rw[show start ["kinds","hand","shape","deeds"] [.ref kt,.ref h]=[some (.ref kt),some (.ref h),none,none] from rfl];clear hu hu0 nd hr;push_cast [tIsN];have sz:=sizeLine_eq;have nk:kt≠h:=by obtain ⟨_,_,_,h1,_⟩:=id hh;exact sk hK h1 (by intro e;cases e)
 refine bp hh (by omega) (by decide) (by decide+kernel) λx H1 s1 hh1 x0 x6=>⟨rfl,cx (λc=>⟨kt,h,kinds,rfl,hh1,s1 _ _ nk hK,hk,λp H' s' hh' hp=>q p H' (s1.trans s') hh' hp⟩) λc=>bp hh1 (by omega) (by decide) (by decide+kernel) λy H2 s2 hh2 y0 y9=>⟨h,kt,_,kinds,_,rfl,hh2,by omega,(s1.trans s2) _ _ nk hK,hk,by omega,by omega,λst sh H3 s3 hh3 hS hw hT hl=>?_⟩⟩;have S3:=s1.trans (s2.trans s3);have hK3:=S3 _ _ nk hK;refine ⟨kt,st,kinds,sh,rfl,hK3,hk,hS,hw,hl,λl H4 s4 _ hL=>?_⟩;obtain ⟨o1,o2⟩:=Ef hw (by omega);have ht:isTerm (du kinds sh):=by
  unfold isTerm;rw[o2];exact hT
 refine ⟨l,du kinds sh,lvs kinds sh,rfl,hL,o1,Ic (by omega),ht,by rw[kq];exact hl,λH5 s5=>?_,λt as ts H5 s5 ht5 hT5 hc hl5=>?_⟩
 ·show if V.non=V.non then _ else _
  rw[if_pos rfl];refine ⟨by show (1:Nat)≤sizeLine;decide,λp hp=>⟨by show (3:Nat)≤sizeLine;decide,λp1 hp1=>⟨by show (1:Nat)≤sizeLine;decide,λp2 hp2=>⟨by show (2:Nat)≤sizeLine;decide,λp3 hp3=>?_⟩⟩⟩⟩;have d1:=ab hp (.tup [V.str (Str.ofString "any")]);have d2:=ab hp1 (.tup [V.str (Str.ofString "put"),V.str (Str.ofString "out"),V.str (Str.ofString "n1")]);have d3:=ab hp2 (.tup [V.ref p1]);have d4:=ab hp3 (.tup [V.ref p,V.ref p2]);have dd:=(s4.trans s5).trans (d1.trans (d2.trans (d3.trans d4)));exact q p3 _ (S3.trans (av.of dd)) ((hh3.same dd).le (by omega)) ⟨p,p2,_,[p1],_,aa,(d2.trans (d3.trans d4)) _ _ aa,d4 _ _ aa,(b8.nil _).snoc ((d3.trans d4) _ _ aa),Mu kinds,by show (1:Nat)≤6;decide⟩
 ·show if V.ref t=V.non then _ else _
  rw[if_neg (λe=>by cases e)];refine ⟨by show (2:Nat)≤sizeLine;decide,λp hp=>?_⟩;have d1:=ab hp (.tup [V.ref st,V.ref t]);have dd:=(s4.trans s5).trans d1;exact q p _ (S3.trans (av.of dd)) ((hh3.same dd).le (by omega)) ⟨st,t,sh,as,ts,aa,dd _ _ hS,d1 _ _ ht5,hT5.keep (Tk.of d1),⟨hw,hT,by omega,hc⟩,hl5⟩
noncomputable abbrev Kc:Stmt:=top 48
theorem Cu:aj ["found","due"] ["found","due"] (ae Kc):=⟨rfl,rfl,rfl,by decide+kernel,rfl,by decide+kernel,by decide+kernel⟩
theorem Gu (G:Gs w K mg) (h_law_same:Has P w K mg base k "_law_same" ["found","due"] b9) (D:Def K mg "_law_same" Kc ["found","due"]):Has P w K mg base (k+1) "_law_same" ["found","due"] (vh 0):=by
 refine D.has Cu (λvs H Q E h=>?_) (λf cdv A outer s H vs Q E hr h=>?_)
 ·obtain ⟨_,_,rfl,_,_⟩:=h;rfl
 have nd:=Cu.nd;have hu:=bu hr;have hu0:=aab hu;obtain ⟨x,y,rfl,hv,q⟩:=h;have m_all:=G.m_all;have m_bool:=G.m_bool;have m_int:=G.m_int;have m_isinstance:=G.m_isinstance;have m_len:=G.m_len;have m_range:=G.m_range;have m_str:=G.m_str;have m_tuple:=G.m_tuple;refine ⟨_,(A4 (AD (B7 (AG (AT 0) m_isinstance aq (A1 (A0 1 (by first | exact aa1 rfl | exact aa0 (aa1 rfl) | exact aa0 (aa0 rfl))) (A1 (AU m_tuple cu) (A2 0))))) (A4 (AD (BC (BR (@xk _ _ _ _ (B7 (AG (AT 0) m_isinstance aq (A1 (A0 0 (by first | exact aa1 rfl | exact aa0 (aa1 rfl) | exact aa0 (aa0 rfl))) (A1 (AU m_tuple cu) (A2 0)))))) (BS (AH (@kz _) (AG (AX 0) m_len d8 (A1 (A0 0 (by first | exact aa1 rfl | exact aa0 (aa1 rfl) | exact aa0 (aa0 rfl))) (A2 0))) (AG (AX 0) m_len d8 (A1 (A0 1 (by first | exact aa1 rfl | exact aa0 (aa1 rfl) | exact aa0 (aa0 rfl))) (A2 0))) (AC 0))))) (A5 (A8 (@Dj _ _ _ _))) (AF 0)) (A5 (A8 (AG (@fz _ rfl) m_all Ju (A1 (B6 (AZ ["k"] ["found","due"] [0,1] (aaq rfl (aaq rfl trivial)) (aaq (aaq rfl (aaq rfl rfl)) (aaq (aaq rfl (aaq rfl rfl)) trivial))) (BI m_range (A1 (AG (AX 0) m_len d8 (A1 (A0 1 (by first | exact aa1 rfl | exact aa0 (aa1 rfl) | exact aa0 (aa0 rfl))) (A2 0))) (A2 0))) (λ_ _ _=>(AV 0 (show abe (["k","found","due"]:List Str) by decide+kernel) (by first | exact .inl rfl | exact .inr rfl | assumption))) (λ_ _ _=>(@zg _)) (λ_ _ _=>(A6 h_law_same hr (A1 (AB (@pf _ K rfl) (A0 1 (by first | exact aa1 rfl | exact aa0 (aa1 rfl) | exact aa0 (aa0 rfl))) (A0 0 (by first | exact aa1 rfl | exact aa0 (aa1 rfl) | exact aa0 (aa0 rfl)))) (A1 (AB (@pf _ K rfl) (A0 2 (by first | exact aa1 rfl | exact aa0 (aa1 rfl) | exact aa0 (aa0 rfl))) (A0 0 (by first | exact aa1 rfl | exact aa0 (aa1 rfl) | exact aa0 (aa0 rfl)))) (A2 0)))))) (A2 0)))))) (AF 0)) (A4 (AD (B7 (AG (AT 0) m_isinstance aq (A1 (A0 1 (by first | exact aa1 rfl | exact aa0 (aa1 rfl) | exact aa0 (aa0 rfl))) (A1 (AU m_str lx) (A2 0))))) (A5 (A8 (BB (AG (AT 0) m_isinstance aq (A1 (A0 0 (by first | exact aa1 rfl | exact aa0 (aa1 rfl) | exact aa0 (aa0 rfl))) (A1 (AU m_str lx) (A2 0)))) (BE (B8 (AL 0) (A0 0 (by first | exact aa1 rfl | exact aa0 (aa1 rfl) | exact aa0 (aa0 rfl))) (A0 1 (by first | exact aa1 rfl | exact aa0 (aa1 rfl) | exact aa0 (aa0 rfl))) (AC 0)))))) (AF 0)) (A5 (A8 (BB (AG (AT 0) m_isinstance aq (A1 (A0 0 (by first | exact aa1 rfl | exact aa0 (aa1 rfl) | exact aa0 (aa0 rfl))) (A1 (AU m_int yv) (A2 0)))) (BB (@B2 _ _ _ _ (AG (AT 0) m_isinstance aq (A1 (A0 0 (by first | exact aa1 rfl | exact aa0 (aa1 rfl) | exact aa0 (aa0 rfl))) (A1 (AU m_bool Kg) (A2 0))))) (BE (B8 (AL 0) (A0 0 (by first | exact aa1 rfl | exact aa0 (aa1 rfl) | exact aa0 (aa0 rfl))) (A0 1 (by first | exact aa1 rfl | exact aa0 (aa1 rfl) | exact aa0 (aa0 rfl))) (AC 0))))))))),?_⟩;rw[show start ["found","due"] [x,y]=[some (x),some (y)] from rfl];clear hu hu0 nd hr;push_cast [and_true];obtain ⟨⟨k',rfl⟩,rfl⟩:=hv;cases k' with
 | inl i=>exact ⟨_,.int i,false,rfl,jv ⟨_,.int i,false,rfl,jv ⟨_,.int i,true,rfl,iy ⟨_,.int i,false,rfl,iy ⟨rfl,by rw[decide_eq_true rfl];exact q H (ag.refl _)⟩⟩⟩⟩⟩
 | inr z=>exact ⟨_,.str z,false,rfl,jv ⟨_,.str z,true,rfl,iy ⟨_,.str z,true,rfl,iy ⟨rfl,by rw[decide_eq_true rfl];exact q H (ag.refl _)⟩⟩⟩⟩
noncomputable abbrev qb:Stmt:=top 48
theorem pe:aj ["found","due"] ["found","due"] (ae qb):=⟨rfl,rfl,rfl,by decide+kernel,rfl,by decide+kernel,by decide+kernel⟩
theorem iq (G:Gs w K mg) (h_law_same:Has P w K mg base k "_law_same" ["found","due"] (vh n)) (D:Def K mg "_law_same" qb ["found","due"]):Has P w K mg base (k+1) "_law_same" ["found","due"] (vh (n+1)):=by
 refine D.has pe (λvs H Q E h=>?_) (λf cdv A outer s H vs Q E hr h=>?_)
 ·obtain ⟨_,_,rfl,_,_⟩:=h;rfl
 have nd:=pe.nd;have hu:=bu hr;have hu0:=aab hu;obtain ⟨x,y,rfl,hv,q⟩:=h;have m_all:=G.m_all;have m_bool:=G.m_bool;have m_int:=G.m_int;have m_isinstance:=G.m_isinstance;have m_len:=G.m_len;have m_range:=G.m_range;have m_str:=G.m_str;have m_tuple:=G.m_tuple;refine ⟨_,(A4 (AD (B7 (AG (AT 0) m_isinstance aq (A1 (A0 1 (by first | exact aa1 rfl | exact aa0 (aa1 rfl) | exact aa0 (aa0 rfl))) (A1 (AU m_tuple cu) (A2 0))))) (A4 (AD (BC (BR (@xk _ _ _ _ (B7 (AG (AT 0) m_isinstance aq (A1 (A0 0 (by first | exact aa1 rfl | exact aa0 (aa1 rfl) | exact aa0 (aa0 rfl))) (A1 (AU m_tuple cu) (A2 0)))))) (BS (AH (@kz _) (AG (AX 0) m_len d8 (A1 (A0 0 (by first | exact aa1 rfl | exact aa0 (aa1 rfl) | exact aa0 (aa0 rfl))) (A2 0))) (AG (AX 0) m_len d8 (A1 (A0 1 (by first | exact aa1 rfl | exact aa0 (aa1 rfl) | exact aa0 (aa0 rfl))) (A2 0))) (AC 0))))) (A5 (A8 (@Dj _ _ _ _))) (AF 0)) (A5 (A8 (AG (@fz _ rfl) m_all Ju (A1 (B6 (AZ ["k"] ["found","due"] [0,1] (aaq rfl (aaq rfl trivial)) (aaq (aaq rfl (aaq rfl rfl)) (aaq (aaq rfl (aaq rfl rfl)) trivial))) (BI m_range (A1 (AG (AX 0) m_len d8 (A1 (A0 1 (by first | exact aa1 rfl | exact aa0 (aa1 rfl) | exact aa0 (aa0 rfl))) (A2 0))) (A2 0))) (λ_ _ _=>(AV 0 (show abe (["k","found","due"]:List Str) by decide+kernel) (by first | exact .inl rfl | exact .inr rfl | assumption))) (λ_ _ _=>(@zg _)) (λ_ _ _=>(A6 h_law_same hr (A1 (AB (@pf _ K rfl) (A0 1 (by first | exact aa1 rfl | exact aa0 (aa1 rfl) | exact aa0 (aa0 rfl))) (A0 0 (by first | exact aa1 rfl | exact aa0 (aa1 rfl) | exact aa0 (aa0 rfl)))) (A1 (AB (@pf _ K rfl) (A0 2 (by first | exact aa1 rfl | exact aa0 (aa1 rfl) | exact aa0 (aa0 rfl))) (A0 0 (by first | exact aa1 rfl | exact aa0 (aa1 rfl) | exact aa0 (aa0 rfl)))) (A2 0)))))) (A2 0)))))) (AF 0)) (A4 (AD (B7 (AG (AT 0) m_isinstance aq (A1 (A0 1 (by first | exact aa1 rfl | exact aa0 (aa1 rfl) | exact aa0 (aa0 rfl))) (A1 (AU m_str lx) (A2 0))))) (A5 (A8 (BB (AG (AT 0) m_isinstance aq (A1 (A0 0 (by first | exact aa1 rfl | exact aa0 (aa1 rfl) | exact aa0 (aa0 rfl))) (A1 (AU m_str lx) (A2 0)))) (BE (B8 (AL 0) (A0 0 (by first | exact aa1 rfl | exact aa0 (aa1 rfl) | exact aa0 (aa0 rfl))) (A0 1 (by first | exact aa1 rfl | exact aa0 (aa1 rfl) | exact aa0 (aa0 rfl))) (AC 0)))))) (AF 0)) (A5 (A8 (BB (AG (AT 0) m_isinstance aq (A1 (A0 0 (by first | exact aa1 rfl | exact aa0 (aa1 rfl) | exact aa0 (aa0 rfl))) (A1 (AU m_int yv) (A2 0)))) (BB (@B2 _ _ _ _ (AG (AT 0) m_isinstance aq (A1 (A0 0 (by first | exact aa1 rfl | exact aa0 (aa1 rfl) | exact aa0 (aa0 rfl))) (A1 (AU m_bool Kg) (A2 0))))) (BE (B8 (AL 0) (A0 0 (by first | exact aa1 rfl | exact aa0 (aa1 rfl) | exact aa0 (aa0 rfl))) (A0 1 (by first | exact aa1 rfl | exact aa0 (aa1 rfl) | exact aa0 (aa0 rfl))) (AC 0))))))))),?_⟩;rw[show start ["found","due"] [x,y]=[some (x),some (y)] from rfl];clear hu hu0 nd hr;push_cast [and_true];have sz:=sizeLine_eq;rcases hv with hv | ⟨a,b,xs,ys,rfl,rfl,hF,hD,hl,hm,hr⟩
 ·obtain ⟨⟨k',rfl⟩,rfl⟩:=hv;cases k' with
  | inl i=>exact ⟨_,.int i,false,rfl,jv ⟨_,.int i,false,rfl,jv ⟨_,.int i,true,rfl,iy ⟨_,.int i,false,rfl,iy ⟨rfl,by rw[decide_eq_true rfl];exact q H (ag.refl _)⟩⟩⟩⟩⟩
  | inr z=>exact ⟨_,.str z,false,rfl,jv ⟨_,.str z,true,rfl,iy ⟨_,.str z,true,rfl,iy ⟨rfl,by rw[decide_eq_true rfl];exact q H (ag.refl _)⟩⟩⟩⟩
 refine ⟨_,.tup hD,true,rfl,iy ⟨_,.tup hF,true,rfl,jv ⟨xs,.inr (SqT.of hF),ys,.inr (SqT.of hD),rfl,?_⟩⟩⟩;rw[decide_eq_true (show (xs.length:Int)=(ys.length:Int) by omega)];refine jv ⟨ys,.inr (SqT.of hD),by omega,by omega,λL hL=>?_⟩;refine Kr (λj zs=>zs=abi j (V.bl true)) (by omega) hL rfl (λj zs H1 G' K' hj hP hl2 hS hG hK=>?_) λzs H3 hP hl2 hS hL2=>?_
 ·push_cast [and_true];have hj':j < ys.length:=by omega
  have hat:∀{us:List V} (h:j < us.length),atI us (0+(j:Int))=some us[j]:=λh=>by
   rw[show (0+(j:Int))=((j:Nat):Int) by omega];exact cb (aa2 h)
  exact de (hS _ _ hF) (hat (by omega)) (de (hS _ _ hD) (hat hj') ⟨_,_,rfl,(hr j _ _ (aa2 (by omega)) (aa2 hj')).keep (Tk.of hS),λH' s'=>hK _ _ s' (by rw[hP,←ae0])⟩)
 ·refine ⟨abi ((ys.length:Nat):Int).toNat true,SqL.of (by rw[hL2,hP,aeb]),?_⟩;rw[show (abi ((ys.length:Nat):Int).toNat true).all id=true by simp];exact q _ hS
noncomputable abbrev vi:Stmt:=qb
theorem scSame:aj ["found","due"] ["found","due"] (ae vi):=pe
theorem Hw (D:Def K mg "_law_same" qb ["found","due"]):Has P w K mg base (k+1) "_law_same" ["found","due"] b9:=D.has pe (λvs H Q E h=>h.elim) (λf cdv A outer s H vs Q E hr h=>h.elim)
theorem K3 (G:Gs w K mg) (D:Def K mg "_law_same" qb ["found","due"]):Has P w K mg base (k+7) "_law_same" ["found","due"] (vh 5):=iq G (iq G (iq G (iq G (iq G (Gu G (Hw D) D) D) D) D) D) D
noncomputable abbrev wo:Stmt:=top 49
theorem scLaw:aj ["script","hand","names","kinds","rules","k","cell","own","shape","deeds","kind","price","book"] ["script"] (ae wo):=⟨rfl,rfl,rfl,by decide+kernel,rfl,by decide+kernel,by decide+kernel⟩
theorem hasLaw {f:Addr} {fd:FuncData} (G:Gs w K mg) (h_law_draw:Has P w K mg base k "_law_draw" ["hand","limit"] gz) (h_law_hand:Has P w K mg base k "_law_hand" ["cell","k"] An) (h_law_names:Has P w K mg base k "_law_names" ["hand","size"] nq) (h_law_rule:Has P w K mg base k "_law_rule" ["kinds","hand"] (jg 0)) (h_law_same:Has P w K mg base k "_law_same" ["found","due"] (vh 5)) (h_sound:Has P w K mg base k "sound" ["book"] ph) (F:Fun K "law" "law" wo f fd):mi P w K mg base CX0 (k+1) f fd ["script"] (Dc K):=by
 refine F.ok scLaw (λvs H Q E h=>?_) (λcdv A outer s H vs Q E hr h=>?_)
 ·obtain ⟨_,_,rfl,_,_,_⟩:=h;rfl
 have nd:=scLaw.nd;have hu:=bu hr;have hu0:=aab hu;have hu8:=sq hr;obtain ⟨a,ns,rfl,ha,hn,q⟩:=h;have m_enumerate:=G.m_enumerate;have m_len:=G.m_len;have m_sum:=G.m_sum;have m_tuple:=G.m_tuple;refine ⟨_,(A4 (A7 1 nd (by first | exact aa1 rfl | exact aa0 rfl) (A6 h_law_hand hr (A1 (AG (@uf _ rfl) m_sum b_sum (A1 (A0 0 (by first | exact aa1 rfl | exact aa0 (aa1 rfl) | exact aa0 (aa0 rfl))) (A2 0))) (A1 (A3 0) (A2 0)))) (by first | exact .inl rfl | exact .inr rfl | assumption)) (A4 (A7 2 nd (by first | exact aa1 rfl | exact aa0 rfl) (A6 h_law_names hr (A1 (A0 1 (by first | exact aa1 rfl | exact aa0 (aa1 rfl) | exact aa0 (aa0 rfl))) (A1 (A3 0) (A2 0)))) (by first | exact .inl rfl | exact .inr rfl | assumption)) (A4 (A7 3 nd (by first | exact aa1 rfl | exact aa0 rfl) (AY (BA 0) m_tuple cu (A1 (BO (@Co _) (A0 2 (by first | exact aa1 rfl | exact aa0 (aa1 rfl) | exact aa0 (aa0 rfl))) (@mh _) (BP (AA (AO 0) (A3 0) (A6 h_law_draw hr (A1 (A0 1 (by first | exact aa1 rfl | exact aa0 (aa1 rfl) | exact aa0 (aa0 rfl))) (A1 (A3 0) (A2 0))))))) (A2 0))) (by first | exact .inl rfl | exact .inr rfl | assumption)) (A4 (A7 4 nd (by first | exact aa1 rfl | exact aa0 rfl) (AM (A2 0)) (by first | exact .inl rfl | exact .inr rfl | assumption)) (A4 (AS (@Lf _ _ _ _ _ _ _ _ rfl m_enumerate (A1 (BO (@Co _) (A0 0 (by first | exact aa1 rfl | exact aa0 (aa1 rfl) | exact aa0 (aa0 rfl))) (@mh _) (BP (A3 0))) (A2 0)) (by rfl)) (BG 2 (AN (AK 5 nd (by first | exact aa1 rfl | exact aa0 rfl) (by first | exact .inl rfl | exact .inr rfl | assumption)) (AN (AK 6 nd (by first | exact aa1 rfl | exact aa0 rfl) (by first | exact .inl rfl | exact .inr rfl | assumption)) (B9 0)))) (A4 (A7 7 nd (by first | exact aa1 rfl | exact aa0 rfl) (A6 h_law_hand hr (A1 (A0 6 (by first | exact aa1 rfl | exact aa0 (aa1 rfl) | exact aa0 (aa0 rfl))) (A1 (A0 5 (by first | exact aa1 rfl | exact aa0 (aa1 rfl) | exact aa0 (aa0 rfl))) (A2 0)))) (by first | exact .inl rfl | exact .inr rfl | assumption)) (A4 (BT (A6 h_law_rule hr (A1 (A0 3 (by first | exact aa1 rfl | exact aa0 (aa1 rfl) | exact aa0 (aa0 rfl))) (A1 (A0 7 (by first | exact aa1 rfl | exact aa0 (aa1 rfl) | exact aa0 (aa0 rfl))) (A2 0)))) (BG 2 (AN (AK 8 nd (by first | exact aa1 rfl | exact aa0 rfl) (by first | exact .inl rfl | exact .inr rfl | assumption)) (AN (AK 9 nd (by first | exact aa1 rfl | exact aa0 rfl) (by first | exact .inl rfl | exact .inr rfl | assumption)) (B9 0))))) (A4 (A7 10 nd (by first | exact aa1 rfl | exact aa0 rfl) (AB (@fg _) (A0 3 (by first | exact aa1 rfl | exact aa0 (aa1 rfl) | exact aa0 (aa0 rfl))) (A6 h_law_draw hr (A1 (A0 7 (by first | exact aa1 rfl | exact aa0 (aa1 rfl) | exact aa0 (aa0 rfl))) (A1 (AG (AX 0) m_len d8 (A1 (A0 3 (by first | exact aa1 rfl | exact aa0 (aa1 rfl) | exact aa0 (aa0 rfl))) (A2 0))) (A2 0))))) (by first | exact .inl rfl | exact .inr rfl | assumption)) (A4 (A7 11 nd (by first | exact aa1 rfl | exact aa0 rfl) (AB (AJ 0) (AM (A1 (AA (AO 0) (A3 0) (A6 h_law_draw hr (A1 (A0 7 (by first | exact aa1 rfl | exact aa0 (aa1 rfl) | exact aa0 (aa0 rfl))) (A1 (A3 0) (A2 0))))) (A1 (AA (AO 0) (A3 0) (A6 h_law_draw hr (A1 (A0 7 (by first | exact aa1 rfl | exact aa0 (aa1 rfl) | exact aa0 (aa0 rfl))) (A1 (A3 0) (A2 0))))) (A1 (A3 0) (A2 0))))) (A6 h_law_draw hr (A1 (A0 7 (by first | exact aa1 rfl | exact aa0 (aa1 rfl) | exact aa0 (aa0 rfl))) (A1 (A3 0) (A2 0))))) (by first | exact .inl rfl | exact .inr rfl | assumption)) (A5 (AR (AQ PySem.F.plainAttrs_list PySem.F.slot_list_append PySem.F.type_list_append (AW 0) (A0 4 (by first | exact aa1 rfl | exact aa0 (aa1 rfl) | exact aa0 (aa0 rfl))) (A1 (AE (A1 (AB (AJ 0) (A0 2 (by first | exact aa1 rfl | exact aa0 (aa1 rfl) | exact aa0 (aa0 rfl))) (AA (AO 0) (A3 0) (A0 5 (by first | exact aa1 rfl | exact aa0 (aa1 rfl) | exact aa0 (aa0 rfl))))) (A1 (A0 10 (by first | exact aa1 rfl | exact aa0 (aa1 rfl) | exact aa0 (aa0 rfl))) (A1 (A0 11 (by first | exact aa1 rfl | exact aa0 (aa1 rfl) | exact aa0 (aa0 rfl))) (A1 (A0 8 (by first | exact aa1 rfl | exact aa0 (aa1 rfl) | exact aa0 (aa0 rfl))) (A1 (A0 9 (by first | exact aa1 rfl | exact aa0 (aa1 rfl) | exact aa0 (aa0 rfl))) (A2 0))))))) (A2 0)))))))))) (A4 (A7 12 nd (by first | exact aa1 rfl | exact aa0 rfl) (AE (A1 (A0 3 (by first | exact aa1 rfl | exact aa0 (aa1 rfl) | exact aa0 (aa0 rfl))) (A1 (AY (BA 0) m_tuple cu (A1 (A0 4 (by first | exact aa1 rfl | exact aa0 (aa1 rfl) | exact aa0 (aa0 rfl))) (A2 0))) (A2 0)))) (by first | exact .inl rfl | exact .inr rfl | assumption)) (A5 (A8 (BB (A6 h_law_same hr (A1 (A6 h_sound hr (A1 (A0 12 (by first | exact aa1 rfl | exact aa0 (aa1 rfl) | exact aa0 (aa0 rfl))) (A2 0))) (A1 (A0 12 (by first | exact aa1 rfl | exact aa0 (aa1 rfl) | exact aa0 (aa0 rfl))) (A2 0)))) (BB (A6 h_law_same hr (A1 (A6 h_sound hr (A1 (A0 12 (by first | exact aa1 rfl | exact aa0 (aa1 rfl) | exact aa0 (aa0 rfl))) (A2 0))) (A1 (A0 12 (by first | exact aa1 rfl | exact aa0 (aa1 rfl) | exact aa0 (aa0 rfl))) (A2 0)))) (BE (B8 (Lu hu8) (A6 h_sound hr (A1 (AE (A1 (AE (A2 0)) (A1 (AE (A2 0)) (A2 0)))) (A2 0))) (AE (A1 (AE (A2 0)) (A1 (AE (A2 0)) (A2 0)))) (AC 0))))))))))))),?_⟩;rw[show start ["script","hand","names","kinds","rules","k","cell","own","shape","deeds","kind","price","book"] [.ref a]=[some (.ref a),none,none,none,none,none,none,none,none,none,none,none,none] from rfl];clear hu hu0 nd hr;push_cast [and_true];have sz:=sizeLine_eq;refine ⟨ns,ha,ns.sum,0,rfl,by omega,λh H1 s1 hh1 hA=>⟨h,rfl,hA,λnl zs H2 s2 hnl hN hz48 hnd hnm hh2=>?_⟩⟩;have nlh:nl≠h:=λe=>by obtain ⟨_,_,_,x1,_⟩:=id hA;rw[e,x1] at hnl;cases hnl
 have S2:ag H H2:=av.fresh ((av.of s1).trans s2) hh1;refine bp hh2 (by omega) (by decide) (by decide+kernel) λy H3 s3 hh3 y0 y8=>?_;have S3:ag H H3:=av.fresh ((av.of s1).trans (s2.trans s3)) hh1;have hN3:=s3 _ _ nlh hN;have zl:(zs.map V.str).length=48:=by rw[aa3];exact hz48
 obtain ⟨m,em,m1,m8⟩:∃m:Nat,1+y=(m:Int)∧1≤m∧m≤8:=⟨(1+y).toNat,by omega,by omega,by omega⟩;push_cast [and_true];rw[em];refine ⟨_,SqL.of hN3,λp hp=>⟨_,.inl ⟨SqL.of aa,λkt hkt=>⟨aac _,λrl hrl=>?_⟩⟩⟩⟩;rw[Ab _ m (by omega),←List.map_take] at hkt hrl ⊢;have hk:Sn.Kinds (zs.take m):=⟨by rw[aad];omega,by rw[aad];omega,hnd.sublist (acj _ _),λz hz=>hnm z (abj hz)⟩;have d1:=ab hp (.lst ((zs.take m).map V.str));have d2:=ab hkt (.tup ((zs.take m).map V.str));have d3:=ab hrl (.lst []);have B0:=S3.trans (d1.trans (d2.trans d3));have hN4:=(d1.trans (d2.trans d3)) _ _ hN3;have kt4:upd (upd (upd H3 p (.lst ((zs.take m).map V.str))) kt (.tup ((zs.take m).map V.str))) rl (.lst []) kt=some (.tup ((zs.take m).map V.str)):=d3 _ _ aa;have rl4:upd (upd (upd H3 p (.lst ((zs.take m).map V.str))) kt (.tup ((zs.take m).map V.str))) rl (.lst []) rl=some (.lst []):=aa;have Hrl:H rl=none:=(S3.trans (d1.trans d2)).free hrl;have nrl:nl≠rl:=ah ((d1.trans d2) _ _ hN3) hrl;generalize upd (upd (upd H3 p (.lst ((zs.take m).map V.str))) kt (.tup ((zs.take m).map V.str))) rl (.lst [])=B at B0 hN4 kt4 rl4 ⊢;have nkr:kt≠rl:=sk kt4 rl4 (by intro e;cases e);clear d1 d2 d3 hp hkt hrl;obtain ⟨kinds,ek⟩:∃kinds,kinds=zs.take m:=⟨_,rfl⟩;rw[←ek] at hk kt4;push_cast [iEnum];refine ⟨ns.map V.int,B0.seq ha,λp1 hp1=>⟨⟨_,SqL.of aa⟩,?_⟩⟩;obtain ⟨ms,es,ml⟩:=Hq ns none (some 40);have m40:ms.length≤40:=by
  rcases abx ns.length 40 with c | c
  ·omega
  ·have e:js (ns.map V.int) none (some 40)=(ns.map V.int).take 40:=Ab (ns.map V.int) 40 (by rw[aa3];exact c);rw[e] at es;have:=congrArg aeg es;rw[aad,aa3,aa3] at this;omega
 rw[es];have d4:=ab hp1 (.lst (ms.map V.int));have B1:=B0.trans d4;have nN:=d4 _ _ hN4;have kN:=d4 _ _ kt4;have rN:=d4 _ _ rl4;have pN:upd B p1 (.lst (ms.map V.int)) p1=some (.lst (ms.map V.int)):=aa;have np:p1≠rl:=(ah rl4 hp1).symm;generalize upd B p1 (.lst (ms.map V.int))=C at B1 nN kN rN pN ⊢;clear d4 hp1 B0 hN4 kt4 rl4;obtain ⟨P1,eP1⟩:∃P1:Nat→L2.St→Hp→Prop,∀i σ H',P1 i σ H'↔∃(ra:List Addr) (rs:List Rd5) (v5 v6 v7 v8 v9 v10 v11:Option V),σ=[some (.ref a),some (.ref h),some (.ref nl),some (.ref kt),some (.ref rl),v5,v6,v7,v8,v9,v10,v11,none]∧av rl C H'∧H' rl=some (.lst (ra.map V.ref))∧df H' ra rs∧rs.length=i∧rs.map (·.name)=(zs.drop 8).take i∧∀r∈rs,r.kind∈kinds∧Snd kinds r.shape r.cn∧r.cn.length≤6:=⟨_,λ_ _ _=>aet⟩;refine Fh (xs:=ms.map V.int) P1 ((eP1 _ _ _).mpr ⟨[],[],none,none,none,none,none,none,none,rfl,av.refl _ _,rN,df.nil _,rfl,rfl,λ_ h=>nomatch h⟩) (λi σ H' _ hh=>?_) ?_ ?_
 ·obtain ⟨_,_,_,_,_,_,_,_,_,_,h,_⟩:=(eP1 _ _ _).mp hh;exact SqL.of (h _ _ np pN)
 ·rintro i x σ H4 t hx hh ht;obtain ⟨ra,rs,v5,v6,v7,v8,v9,v10,v11,rfl,s4,hr4,hR4,li,en,hrs⟩:=(eP1 _ _ _).mp hh;clear hh;rw[aae] at hx;obtain ⟨c,hx',rfl⟩:=Option.map_eq_some_iff.mp hx;have hi:=(List.getElem?_eq_some_iff.mp hx').1;have d1:=ab ht (.tup [.int ((i:Nat):Int),.int c]);refine Ae aa rfl ?_;push_cast [and_true];refine ⟨c,i,rfl,by omega,λown H5 s5 hown hA5=>⟨kt,own,kinds,rfl,hA5,s5 _ _ (d1 _ _ (s4 _ _ nkr kN)),hk,λpp H6 s6 hh6 hRu=>?_⟩⟩;obtain ⟨st,da,sh,as,ts,r1,r2,r3,r4,r5,r6⟩:=hRu;refine Ae r1 rfl ?_;push_cast [and_true];have k1:=hk.1;have k8:=hk.2.1;have lm:(kinds.map V.str).length=kinds.length:=aa3 _;have k4:=d1 _ _ (s4 _ _ nkr kN);have no:=ah k4 hown;have k6:=s6 _ _ no (s5 _ _ k4);refine ⟨_,.inr (SqT.of k6),bp hh6 (by omega) (by omega) (abc (aca _) (by omega)) λy1 H7 s7 hh7 a0 a1=>?_⟩;obtain ⟨v,hv,hm⟩:=iz (kinds.map V.str) y1 a0 a1;obtain ⟨kd,hkd,rfl⟩:=List.mem_map.mp hm;refine de (s7 _ _ no k6) hv (bp hh7 (by omega) (by decide) (by decide+kernel) λy2 H8 s8 hh8 b0 b1=>bp hh8 (by omega) (by decide) (by decide+kernel) λy3 H9 s9 hh9 c0 c1=>⟨by show (3:Nat)≤sizeLine;decide,λpl hpl=>?_⟩);have d2:=ab hpl (.lst [V.int (1+y2),V.int (1+y3),V.int 999999]);have npo:pl≠own:=λe=>by obtain ⟨_,_,_,x1,_⟩:=id hh9;rw[e,x1] at hpl;cases hpl
  refine bp (hh9.same d2) (by omega) (by decide) (by decide+kernel) λy4 H10 s10 hh10 e0 e1=>?_;obtain ⟨v,hv2,hm2⟩:=iz [V.int (1+y2),V.int (1+y3),V.int 999999] y4 e0 (by show y4 < 3;omega);obtain ⟨pr,rfl⟩:∃pr:Int,v=.int pr:=by
   simp only[ab0,aas,or_false] at hm2;rcases hm2 with rfl | rfl | rfl <;> exact ⟨_,rfl⟩
  have s610:=s7.trans (s8.trans (s9.trans ((av.of d2).trans s10)));have SS:ag H4 H10:=d1.trans (av.fresh ((av.of s5).trans (s6.trans s610)) hown);have tk6:Tk H6 H10:=λb xs hb=>s610 b _ (by obtain ⟨_,_,_,x1,_⟩:=id hh6;exact sk hb x1 (by intro e;cases e)) hb;have h48:8+i < zs.length:=by omega
  have atn:atI (zs.map V.str) (8+(i:Int))=some (.str zs[8+i]):=by
   rw[show (8+(i:Int))=((8+i:Nat):Int) by omega];exact cb (by rw[aae,aa2 h48];rfl)
  refine aw (s10 _ _ npo aa) hv2 ⟨bq (SS _ _ hr4),aw (SS _ _ (s4 _ _ nrl nN)) atn ⟨by show (5:Nat)≤sizeLine;decide,λu hu=>?_⟩⟩;have d3:=ab hu (.tup [V.str zs[8+i],V.str kd,V.int pr,V.ref st,V.ref da]);have hr5:=d3 _ _ (SS _ _ hr4);have tkU:Tk (upd H10 u (.tup [V.str zs[8+i],V.str kd,V.int pr,V.ref st,V.ref da])) (upd (upd H10 u (.tup [V.str zs[8+i],V.str kd,V.int pr,V.ref st,V.ref da])) rl (.lst (ra.map V.ref++[V.ref u]))):=Tk.upd (Tk.refl _) λxs e=>by rw[hr5] at e;cases e
  have ral:=hR4.1;refine (bh (K:=K) hr5 (by rw[aa3];omega) ((eP1 _ _ _).mpr ⟨ra++[u],rs++[⟨zs[8+i],kd,pr,sh,ts⟩],_,_,_,_,_,_,_,rfl,λb o nb ho=>by rw[af nb];exact (s4.trans (av.of (SS.trans d3))) b o nb ho,by rw[aa,aag];rfl,((hR4.keep (Tk.of (SS.trans d3))).keep tkU).snoc (oq.keep ⟨st,da,as,aa,d3 _ _ (tk6 _ _ r2),d3 _ _ (tk6 _ _ r3),r4.keep (tk6.trans (Tk.of d3))⟩ tkU),by rw[aa5,li];rfl,?_,λr hr=>?_⟩)).2
  ·rw[aag,en,aan,ace,aa2 h48];rfl
  ·rcases List.mem_append.mp hr with hr | hr
   ·exact hrs r hr
   ·rw[List.mem_singleton.mp hr];exact ⟨hkd,r5,r6⟩
 ·rintro σ H4 hh;obtain ⟨ra,rs,v5,v6,v7,v8,v9,v10,v11,rfl,s4,hr4,hR4,li,en,hrs⟩:=(eP1 _ _ _).mp hh;push_cast [and_true];rw[aa3] at li;refine ⟨_,.inl ⟨SqL.of hr4,λrt hrt=>⟨by show (2:Nat)≤sizeLine;decide,λb hb=>?_⟩⟩⟩;have d1:=ab hrt (.tup (ra.map V.ref));have d2:=ab hb (.tup [V.ref kt,V.ref rt]);have bk:xq (upd (upd H4 rt (.tup (ra.map V.ref))) b (.tup [V.ref kt,V.ref rt])) b kinds rs:=⟨kt,rt,ra,aa,(d1.trans d2) _ _ (s4 _ _ nkr kN),d2 _ _ aa,hR4.keep (Tk.of (d1.trans d2))⟩;have nd:(kinds++rs.map (·.name)).Nodup:=by
   rw[ek,en];refine hnd.sublist ?_;have t8:(zs.take m).Sublist (zs.take 8):=by
    have:=acj m (zs.take 8);rw[List.take_take,aeq m8] at this;exact this
   have e:(zs.take m++(zs.drop 8).take (ms.map V.int).length).Sublist (zs.take 8++zs.drop 8):=List.Sublist.append t8 (acj _ _);rw[ab3] at e;exact e
  have k8:=hk.2.1;have fit:∀r∈rs,r.fit:=λr hr=>(hrs r hr).2.1.fit (hrs r hr).2.2;have snd:∀{H6:Hp} {QQ:VK} {E:XK},xq H6 b kinds rs→(∀H',ag H6 H'→QQ (.ref b) H')→ph [.ref b] H6 QQ E:=λhB k=>⟨b,kinds,rs,rfl,hB,nd,k8,by omega,λr hr=>⟨(hrs r hr).1,(hrs r hr).2.1,aal (hrs r hr).2.2 (by decide)⟩,k⟩;have al:∀{H6:Hp},xq H6 b kinds rs→alt 5 H6 (.ref b) (.ref b):=λhB=>J2 hB hB (by omega) (by omega) fit;refine snd bk λH5 s5=>⟨_,_,rfl,al (bk.keep (Tk.of s5)),λH6 s6=>⟨true,rfl,iy (snd (bk.keep (Tk.of (s5.trans s6))) λH7 s7=>⟨_,_,rfl,al (bk.keep (Tk.of (s5.trans (s6.trans s7)))),λH8 s8=>⟨true,rfl,iy ⟨aac _,λt1 ht1=>⟨aac _,λt2 ht2=>⟨by show (2:Nat)≤sizeLine;decide,λt3 ht3=>?_⟩⟩⟩⟩⟩)⟩⟩;have f2:=ab ht2 (.tup []);have f3:=ab ht3 (.tup [V.ref t1,V.ref t2]);refine ⟨t3,[],[],rfl,⟨t1,t2,[],aa,(f2.trans f3) _ _ aa,f3 _ _ aa,df.nil _⟩,abo,aac _,aac _,(λ_ h=>nomatch h),λH9 s9=>⟨aac _,λu1 hu1=>⟨aac _,λu2 hu2=>⟨by show (2:Nat)≤sizeLine;decide,λu3 hu3=>?_⟩⟩⟩⟩;have g1:=ab hu1 (.tup []);have g2:=ab hu2 (.tup []);have g3:=ab hu3 (.tup [V.ref u1,V.ref u2]);have gg:=s9.trans (g1.trans (g2.trans g3));exact ⟨t3,u3,t1,t2,u1,u2,rfl,rfl,gg _ _ aa,aa,gg _ _ ((f2.trans f3) _ _ aa),gg _ _ (f3 _ _ aa),(g2.trans g3) _ _ aa,g3 _ _ aa,q _⟩
end
end K34
namespace K34
open PySem PySem.Spec L2 PyProof.Rows Pc Fm Bk Sn
theorem all_mk {l:PySem.W.OpenLaw} {w:World} {K:PySem.W.Frag} {h:Heap} {mg:Str→Option Value} {fa:Addr} (X:K.In h) (G:h.Ns mainGlobals mg) (hfa:mg "law"=some (.ref fa))
  {f0 f1 f2 f3 f4 f5 f6 f7 f8 f9 f10 f11 f12 f13 f14 f15 f16 f17 f18 f19 f20 f21 f22 f23 f24 f25 f26 f27 f28 f29 f30 f31 f32 f33 f34 f35 f36 g0:Addr} {od0 an0 od1 an1 od2 an2 od3 an3 od4 an4 od5 an5 od6 an6 od7 an7 od8 an8 od9 an9 od10 an10 od11 an11 od12 an12 od13 an13 od14 an14 od15 an15 od16 an16 od17 an17 od18 an18 od19 an19 od20 an20 od21 an21 od22 an22 od23 an23 od24 an24 od25 an25 od26 an26 od27 an27 od28 an28 od29 an29 od30 an30 od31 an31 od32 an32 od33 an33 od34 an34 od35 an35 od36 an36:Option Addr} {sl0 sl1 sl2 sl3 sl4 sl5 sl6 sl7 sl8 sl9 sl10 sl11 sl12 sl13 sl14 sl15 sl16 sl17 sl18 sl19 sl20 sl21 sl22 sl23 sl24 sl25 sl26 sl27 sl28 sl29 sl30 sl31 sl32 sl33 sl34 sl35 sl36:Array (Option Value)} {oc0 kV0 dc0 pm0 cd0 ct0 oc1 kV1 dc1 pm1 cd1 ct1 oc2 kV2 dc2 pm2 cd2 ct2 oc3 kV3 dc3 pm3 cd3 ct3 oc4 kV4 dc4 pm4 cd4 ct4 oc5 kV5 dc5 pm5 cd5 ct5 oc6 kV6 dc6 pm6 cd6 ct6 oc7 kV7 dc7 pm7 cd7 ct7 oc8 kV8 dc8 pm8 cd8 ct8 oc9 kV9 dc9 pm9 cd9 ct9 oc10 kV10 dc10 pm10 cd10 ct10 oc11 kV11 dc11 pm11 cd11 ct11 oc12 kV12 dc12 pm12 cd12 ct12 oc13 kV13 dc13 pm13 cd13 ct13 oc14 kV14 dc14 pm14 cd14 ct14 oc15 kV15 dc15 pm15 cd15 ct15 oc16 kV16 dc16 pm16 cd16 ct16 oc17 kV17 dc17 pm17 cd17 ct17 oc18 kV18 dc18 pm18 cd18 ct18 oc19 kV19 dc19 pm19 cd19 ct19 oc20 kV20 dc20 pm20 cd20 ct20 oc21 kV21 dc21 pm21 cd21 ct21 oc22 kV22 dc22 pm22 cd22 ct22 oc23 kV23 dc23 pm23 cd23 ct23 oc24 kV24 dc24 pm24 cd24 ct24 oc25 kV25 dc25 pm25 cd25 ct25 oc26 kV26 dc26 pm26 cd26 ct26 oc27 kV27 dc27 pm27 cd27 ct27 oc28 kV28 dc28 pm28 cd28 ct28 oc29 kV29 dc29 pm29 cd29 ct29 oc30 kV30 dc30 pm30 cd30 ct30 oc31 kV31 dc31 pm31 cd31 ct31 oc32 kV32 dc32 pm32 cd32 ct32 oc33 kV33 dc33 pm33 cd33 ct33 oc34 kV34 dc34 pm34 cd34 ct34 oc35 kV35 dc35 pm35 cd35 ct35 oc36 kV36 dc36 pm36 cd36 ct36:Value} {dt0x0 dt0x1 dt0x2 dt0x3 du0x0 du0x1 du0x2 du0x3 dp0:Nat} {dh0x0 dh0x1 dh0x2 dh0x3:Int}
  (a0:PySem.W.nsIn K mainGlobals "how_many_below"=some (some (.ref f0)))
  (l0:K.lookup f0=some ⟨oc0,od0,.func (PySem.W.fnOf "how_many_below" "how_many_below" (ak Cb) (ai Cb) (ae Cb) .none kV0 dc0 pm0 an0 cd0 ct0),sl0⟩)
  (c0:PySem.W.codeIn K cd0 "how_many_below"=true)
  (k0:PySem.W.keepIn K (.ref f0)=true)
  (a1:PySem.W.nsIn K mainGlobals "gathered"=some (some (.ref f1)))
  (l1:K.lookup f1=some ⟨oc1,od1,.func (PySem.W.fnOf "gathered" "gathered" (ak rg) (ai rg) (ae rg) .none kV1 dc1 pm1 an1 cd1 ct1),sl1⟩)
  (c1:PySem.W.codeIn K cd1 "gathered"=true)
  (k1:PySem.W.keepIn K (.ref f1)=true)
  (a2:PySem.W.nsIn K mainGlobals "plus"=some (some (.ref f2)))
  (l2:K.lookup f2=some ⟨oc2,od2,.func (PySem.W.fnOf "plus" "plus" (ak r9) (ai r9) (ae r9) .none kV2 dc2 pm2 an2 cd2 ct2),sl2⟩)
  (c2:PySem.W.codeIn K cd2 "plus"=true)
  (k2:PySem.W.keepIn K (.ref f2)=true)
  (a3:PySem.W.nsIn K mainGlobals "minus"=some (some (.ref f3)))
  (l3:K.lookup f3=some ⟨oc3,od3,.func (PySem.W.fnOf "minus" "minus" (ak j5) (ai j5) (ae j5) .none kV3 dc3 pm3 an3 cd3 ct3),sl3⟩)
  (c3:PySem.W.codeIn K cd3 "minus"=true)
  (k3:PySem.W.keepIn K (.ref f3)=true)
  (a4:PySem.W.nsIn K mainGlobals "times"=some (some (.ref f4)))
  (l4:K.lookup f4=some ⟨oc4,od4,.func (PySem.W.fnOf "times" "times" (ak ke) (ai ke) (ae ke) .none kV4 dc4 pm4 an4 cd4 ct4),sl4⟩)
  (c4:PySem.W.codeIn K cd4 "times"=true)
  (k4:PySem.W.keepIn K (.ref f4)=true)
  (a5:PySem.W.nsIn K mainGlobals "leaf_form"=some (some (.ref f5)))
  (l5:K.lookup f5=some ⟨oc5,od5,.func (PySem.W.fnOf "leaf_form" "leaf_form" (ak rf) (ai rf) (ae rf) .none kV5 dc5 pm5 an5 cd5 ct5),sl5⟩)
  (c5:PySem.W.codeIn K cd5 "leaf_form"=true)
  (k5:PySem.W.keepIn K (.ref f5)=true)
  (a6:PySem.W.nsIn K mainGlobals "joined_forms"=some (some (.ref f6)))
  (l6:K.lookup f6=some ⟨oc6,od6,.func (PySem.W.fnOf "joined_forms" "joined_forms" (ak j0) (ai j0) (ae j0) .none kV6 dc6 pm6 an6 cd6 ct6),sl6⟩)
  (c6:PySem.W.codeIn K cd6 "joined_forms"=true)
  (k6:PySem.W.keepIn K (.ref f6)=true)
  (a7:PySem.W.nsIn K mainGlobals "folded"=some (some (.ref f7)))
  (l7:K.lookup f7=some ⟨oc7,od7,.func (PySem.W.fnOf "folded" "folded" (ak tf) (ai tf) (ae tf) .none kV7 dc7 pm7 an7 cd7 ct7),sl7⟩)
  (c7:PySem.W.codeIn K cd7 "folded"=true)
  (k7:PySem.W.keepIn K (.ref f7)=true)
  (a8:PySem.W.nsIn K mainGlobals "form_of"=some (some (.ref f8)))
  (l8:K.lookup f8=some ⟨oc8,od8,.func (PySem.W.fnOf "form_of" "form_of" (ak h7) (ai h7) (ae h7) .none kV8 dc8 pm8 an8 cd8 ct8),sl8⟩)
  (c8:PySem.W.codeIn K cd8 "form_of"=true)
  (k8:PySem.W.keepIn K (.ref f8)=true)
  (a9:PySem.W.nsIn K mainGlobals "is_one_term"=some (some (.ref f9)))
  (l9:K.lookup f9=some ⟨oc9,od9,.func (PySem.W.fnOf "is_one_term" "is_one_term" (ak Bu) (ai Bu) (ae Bu) .none kV9 dc9 pm9 an9 cd9 ct9),sl9⟩)
  (c9:PySem.W.codeIn K cd9 "is_one_term"=true)
  (k9:PySem.W.keepIn K (.ref f9)=true)
  (a10:PySem.W.nsIn K mainGlobals "leaf_letter"=some (some (.ref f10)))
  (l10:K.lookup f10=some ⟨oc10,od10,.func (PySem.W.fnOf "leaf_letter" "leaf_letter" (ak j4) (ai j4) (ae j4) .none kV10 dc10 pm10 an10 cd10 ct10),sl10⟩)
  (c10:PySem.W.codeIn K cd10 "leaf_letter"=true)
  (k10:PySem.W.keepIn K (.ref f10)=true)
  (a11:PySem.W.nsIn K mainGlobals "stands_in_shapes"=some (some (.ref f11)))
  (l11:K.lookup f11=some ⟨oc11,od11,.func (PySem.W.fnOf "stands_in_shapes" "stands_in_shapes" (ak g7) (ai g7) (ae g7) .none kV11 dc11 pm11 an11 cd11 ct11),sl11⟩)
  (c11:PySem.W.codeIn K cd11 "stands_in_shapes"=true)
  (k11:PySem.W.keepIn K (.ref f11)=true)
  (a12:PySem.W.nsIn K mainGlobals "is_shape"=some (some (.ref f12)))
  (l12:K.lookup f12=some ⟨oc12,od12,.func (PySem.W.fnOf "is_shape" "is_shape" (ak fc) (ai fc) (ae fc) .none kV12 dc12 pm12 an12 cd12 ct12),sl12⟩)
  (c12:PySem.W.codeIn K cd12 "is_shape"=true)
  (k12:PySem.W.keepIn K (.ref f12)=true)
  (a13:PySem.W.nsIn K mainGlobals "leaf_names"=some (some (.ref f13)))
  (l13:K.lookup f13=some ⟨oc13,od13,.func (PySem.W.fnOf "leaf_names" "leaf_names" (ak g6) (ai g6) (ae g6) .none kV13 dc13 pm13 an13 cd13 ct13),sl13⟩)
  (c13:PySem.W.codeIn K cd13 "leaf_names"=true)
  (k13:PySem.W.keepIn K (.ref f13)=true)
  (a14:PySem.W.nsIn K mainGlobals "take_name"=some (some (.ref f14)))
  (l14:K.lookup f14=some ⟨oc14,od14,.func (PySem.W.fnOf "take_name" "take_name" (ak su) (ai su) (ae su) .none kV14 dc14 pm14 an14 cd14 ct14),sl14⟩)
  (c14:PySem.W.codeIn K cd14 "take_name"=true)
  (k14:PySem.W.keepIn K (.ref f14)=true)
  (a15:PySem.W.nsIn K mainGlobals "source_form"=some (some (.ref f15)))
  (l15:K.lookup f15=some ⟨oc15,od15,.func (PySem.W.fnOf "source_form" "source_form" (ak p9) (ai p9) (ae p9) .none kV15 dc15 pm15 an15 cd15 ct15),sl15⟩)
  (c15:PySem.W.codeIn K cd15 "source_form"=true)
  (k15:PySem.W.keepIn K (.ref f15)=true)
  (a16:PySem.W.nsIn K mainGlobals "deed_form"=some (some (.ref f16)))
  (l16:K.lookup f16=some ⟨oc16,od16,.func (PySem.W.fnOf "deed_form" "deed_form" (ak jz) (ai jz) (ae jz) .none kV16 dc16 pm16 an16 cd16 ct16),sl16⟩)
  (c16:PySem.W.codeIn K cd16 "deed_form"=true)
  (k16:PySem.W.keepIn K (.ref f16)=true)
  (a17:PySem.W.nsIn K mainGlobals "out_form"=some (some (.ref f17)))
  (l17:K.lookup f17=some ⟨oc17,od17,.func (PySem.W.fnOf "out_form" "out_form" (ak rh) (ai rh) (ae rh) .none kV17 dc17 pm17 an17 cd17 ct17),sl17⟩)
  (c17:PySem.W.codeIn K cd17 "out_form"=true)
  (k17:PySem.W.keepIn K (.ref f17)=true)
  (a18:PySem.W.nsIn K mainGlobals "names_in"=some (some (.ref f18)))
  (l18:K.lookup f18=some ⟨oc18,od18,.func (PySem.W.fnOf "names_in" "names_in" (ak fb) (ai fb) (ae fb) .none kV18 dc18 pm18 an18 cd18 ct18),sl18⟩)
  (c18:PySem.W.codeIn K cd18 "names_in"=true)
  (k18:PySem.W.keepIn K (.ref f18)=true)
  (a19:PySem.W.nsIn K mainGlobals "most_times"=some (some (.ref f19)))
  (l19:K.lookup f19=some ⟨oc19,od19,.func (PySem.W.fnOf "most_times" "most_times" (ak qw) (ai qw) (ae qw) .none kV19 dc19 pm19 an19 cd19 ct19),sl19⟩)
  (c19:PySem.W.codeIn K cd19 "most_times"=true)
  (k19:PySem.W.keepIn K (.ref f19)=true)
  (a20:PySem.W.nsIn K mainGlobals "name_replaced"=some (some (.ref f20)))
  (l20:K.lookup f20=some ⟨oc20,od20,.func (PySem.W.fnOf "name_replaced" "name_replaced" (ak qh) (ai qh) (ae qh) .none kV20 dc20 pm20 an20 cd20 ct20),sl20⟩)
  (c20:PySem.W.codeIn K cd20 "name_replaced"=true)
  (k20:PySem.W.keepIn K (.ref f20)=true)
  (a21:PySem.W.nsIn K mainGlobals "keeping_value"=some (some (.ref f21)))
  (l21:K.lookup f21=some ⟨oc21,od21,.func (PySem.W.fnOf "keeping_value" "keeping_value" (ak qa) (ai qa) (ae qa) .none kV21 dc21 pm21 an21 cd21 ct21),sl21⟩)
  (c21:PySem.W.codeIn K cd21 "keeping_value"=true)
  (k21:PySem.W.keepIn K (.ref f21)=true)
  (a22:PySem.W.nsIn K mainGlobals "parting"=some (some (.ref f22)))
  (l22:K.lookup f22=some ⟨oc22,od22,.func (PySem.W.fnOf "parting" "parting" (ak rq) (ai rq) (ae rq) .none kV22 dc22 pm22 an22 cd22 ct22),sl22⟩)
  (c22:PySem.W.codeIn K cd22 "parting"=true)
  (k22:PySem.W.keepIn K (.ref f22)=true)
  (a23:PySem.W.nsIn K mainGlobals "refuse_unsound"=some (some (.ref f23)))
  (l23:K.lookup f23=some ⟨oc23,od23,.func (PySem.W.fnOf "refuse_unsound" "refuse_unsound" (ak Bs) (ai Bs) (ae Bs) .none kV23 dc23 pm23 an23 cd23 ct23),sl23⟩)
  (c23:PySem.W.codeIn K cd23 "refuse_unsound"=true)
  (k23:PySem.W.keepIn K (.ref f23)=true)
  (a24:PySem.W.nsIn K mainGlobals "sound"=some (some (.ref f24)))
  (l24:K.lookup f24=some ⟨oc24,od24,.func (PySem.W.fnOf "sound" "sound" (ak j8) (ai j8) (ae j8) .none kV24 dc24 pm24 an24 cd24 ct24),sl24⟩)
  (c24:PySem.W.codeIn K cd24 "sound"=true)
  (k24:PySem.W.keepIn K (.ref f24)=true)
  (a25:PySem.W.nsIn K mainGlobals "_law_hand"=some (some (.ref f25)))
  (l25:K.lookup f25=some ⟨oc25,od25,.func (PySem.W.fnOf "_law_hand" "_law_hand" (ak si) (ai si) (ae si) .none kV25 dc25 pm25 an25 cd25 ct25),sl25⟩)
  (c25:PySem.W.codeIn K cd25 "_law_hand"=true)
  (k25:PySem.W.keepIn K (.ref f25)=true)
  (a26:PySem.W.nsIn K mainGlobals "_law_draw"=some (some (.ref f26)))
  (l26:K.lookup f26=some ⟨oc26,od26,.func (PySem.W.fnOf "_law_draw" "_law_draw" (ak qu) (ai qu) (ae qu) .none kV26 dc26 pm26 an26 cd26 ct26),sl26⟩)
  (c26:PySem.W.codeIn K cd26 "_law_draw"=true)
  (k26:PySem.W.keepIn K (.ref f26)=true)
  (a27:PySem.W.nsIn K mainGlobals "_law_names"=some (some (.ref f27)))
  (l27:K.lookup f27=some ⟨oc27,od27,.func (PySem.W.fnOf "_law_names" "_law_names" (ak ib) (ai ib) (ae ib) .none kV27 dc27 pm27 an27 cd27 ct27),sl27⟩)
  (c27:PySem.W.codeIn K cd27 "_law_names"=true)
  (k27:PySem.W.keepIn K (.ref f27)=true)
  (a28:PySem.W.nsIn K mainGlobals "_law_leaf"=some (some (.ref f28)))
  (l28:K.lookup f28=some ⟨oc28,od28,.func (PySem.W.fnOf "_law_leaf" "_law_leaf" (ak j7) (ai j7) (ae j7) .none kV28 dc28 pm28 an28 cd28 ct28),sl28⟩)
  (c28:PySem.W.codeIn K cd28 "_law_leaf"=true)
  (k28:PySem.W.keepIn K (.ref f28)=true)
  (a29:PySem.W.nsIn K mainGlobals "_law_shape"=some (some (.ref f29)))
  (l29:K.lookup f29=some ⟨oc29,od29,.func (PySem.W.fnOf "_law_shape" "_law_shape" (ak gu) (ai gu) (ae gu) .none kV29 dc29 pm29 an29 cd29 ct29),sl29⟩)
  (c29:PySem.W.codeIn K cd29 "_law_shape"=true)
  (k29:PySem.W.keepIn K (.ref f29)=true)
  (a30:PySem.W.nsIn K mainGlobals "_law_labels"=some (some (.ref f30)))
  (l30:K.lookup f30=some ⟨oc30,od30,.func (PySem.W.fnOf "_law_labels" "_law_labels" (ak gr) (ai gr) (ae gr) .none kV30 dc30 pm30 an30 cd30 ct30),sl30⟩)
  (c30:PySem.W.codeIn K cd30 "_law_labels"=true)
  (k30:PySem.W.keepIn K (.ref f30)=true)
  (a31:PySem.W.nsIn K mainGlobals "_law_deed"=some (some (.ref f31)))
  (l31:K.lookup f31=some ⟨oc31,od31,.func (PySem.W.fnOf "_law_deed" "_law_deed" (ak j6) (ai j6) (ae j6) .none kV31 dc31 pm31 an31 cd31 ct31),sl31⟩)
  (c31:PySem.W.codeIn K cd31 "_law_deed"=true)
  (k31:PySem.W.keepIn K (.ref f31)=true)
  (a32:PySem.W.nsIn K mainGlobals "_law_deeds"=some (some (.ref f32)))
  (l32:K.lookup f32=some ⟨oc32,od32,.func (PySem.W.fnOf "_law_deeds" "_law_deeds" (ak g4) (ai g4) (ae g4) .none kV32 dc32 pm32 an32 cd32 ct32),sl32⟩)
  (c32:PySem.W.codeIn K cd32 "_law_deeds"=true)
  (k32:PySem.W.keepIn K (.ref f32)=true)
  (a33:PySem.W.nsIn K mainGlobals "_law_spread"=some (some (.ref f33)))
  (l33:K.lookup f33=some ⟨oc33,od33,.func (PySem.W.fnOf "_law_spread" "_law_spread" (ak gx) (ai gx) (ae gx) .none kV33 dc33 pm33 an33 cd33 ct33),sl33⟩)
  (c33:PySem.W.codeIn K cd33 "_law_spread"=true)
  (k33:PySem.W.keepIn K (.ref f33)=true)
  (a34:PySem.W.nsIn K mainGlobals "_law_rule"=some (some (.ref f34)))
  (l34:K.lookup f34=some ⟨oc34,od34,.func (PySem.W.fnOf "_law_rule" "_law_rule" (ak ki) (ai ki) (ae ki) .none kV34 dc34 pm34 an34 cd34 ct34),sl34⟩)
  (c34:PySem.W.codeIn K cd34 "_law_rule"=true)
  (k34:PySem.W.keepIn K (.ref f34)=true)
  (a35:PySem.W.nsIn K mainGlobals "_law_same"=some (some (.ref f35)))
  (l35:K.lookup f35=some ⟨oc35,od35,.func (PySem.W.fnOf "_law_same" "_law_same" (ak vi) (ai vi) (ae vi) .none kV35 dc35 pm35 an35 cd35 ct35),sl35⟩)
  (c35:PySem.W.codeIn K cd35 "_law_same"=true)
  (k35:PySem.W.keepIn K (.ref f35)=true)
  (a36:PySem.W.nsIn K mainGlobals "law"=some (some (.ref f36)))
  (l36:K.lookup f36=some ⟨oc36,od36,.func (PySem.W.fnOf "law" "law" (ak wo) (ai wo) (ae wo) .none kV36 dc36 pm36 an36 cd36 ct36),sl36⟩)
  (c36:PySem.W.codeIn K cd36 "law"=true)
  (k36:PySem.W.keepIn K (.ref f36)=true)
  (z0:PySem.W.nsIn K mainGlobals "all"=some none)
  (z1:PySem.W.nsIn K mainGlobals "bool"=some none)
  (z2:PySem.W.nsIn K mainGlobals "enumerate"=some none)
  (z3:PySem.W.nsIn K mainGlobals "int"=some none)
  (z4:PySem.W.nsIn K mainGlobals "isinstance"=some none)
  (z5:PySem.W.nsIn K mainGlobals "len"=some none)
  (z6:PySem.W.nsIn K mainGlobals "max"=some none)
  (z7:PySem.W.nsIn K mainGlobals "range"=some none)
  (z8:PySem.W.nsIn K mainGlobals "reversed"=some none)
  (z9:PySem.W.nsIn K mainGlobals "sorted"=some none)
  (z10:PySem.W.nsIn K mainGlobals "str"=some none)
  (z11:PySem.W.nsIn K mainGlobals "sum"=some none)
  (z12:PySem.W.nsIn K mainGlobals "tuple"=some none)
  (z13:PySem.W.nsIn K mainGlobals "zip"=some none)
  (y0:PySem.W.nsIn K mainGlobals "PARTS_BELOW"=some (some (.ref g0)))
  (x0:K.lookup g0=some ⟨.type "dict",none,.dict #[⟨dh0x0,.str "add" dt0x0,.int 2 du0x0⟩,⟨dh0x1,.str "sub" dt0x1,.int 2 du0x1⟩,⟨dh0x2,.str "mul" dt0x2,.int 2 du0x2⟩,⟨dh0x3,.str "neg" dt0x3,.int 1 du0x3⟩] dp0,#[]⟩)
  (hh0x0:dh0x0=hashStr w "add")
  (hh0x1:dh0x1=hashStr w "sub")
  (hh0x2:dh0x2=hashStr w "mul")
  (hh0x3:dh0x3=hashStr w "neg")
  (ha0:(g0==sysModules)=false):
  ∃fd:FuncData,(∀(s:Shared) (v:Value),BindsTo s fd ⟨[v],[]⟩ [("script",v)])∧∀base:Heap,K.In base→base.Ns mainGlobals mg→mi l.prog w K mg base CX0 11 fa fd ["script"] (Dc K):=by
 have e:=hfa.symm.trans (PySem.W.mg_of X G a36);cases e
 have G0:Gs w K mg:=⟨PySem.W.mg_none_of X G z0,PySem.W.mg_none_of X G z1,PySem.W.mg_none_of X G z2,PySem.W.mg_none_of X G z3,PySem.W.mg_none_of X G z4,PySem.W.mg_none_of X G z5,PySem.W.mg_none_of X G z6,PySem.W.mg_none_of X G z7,PySem.W.mg_none_of X G z8,PySem.W.mg_none_of X G z9,PySem.W.mg_none_of X G z10,PySem.W.mg_none_of X G z11,PySem.W.mg_none_of X G z12,PySem.W.mg_none_of X G z13,⟨g0,PySem.W.mg_of X G y0,Mn [(dh0x0,"add",dt0x0,2,du0x0),(dh0x1,"sub",dt0x1,2,du0x1),(dh0x2,"mul",dt0x2,2,du0x2),(dh0x3,"neg",dt0x3,1,du0x3)] x0 ha0 (by intro e he;simp only[ab0,aas,or_false] at he;rcases he with rfl | rfl | rfl | rfl <;> assumption) (by show abe ([Sum.inr "add",Sum.inr "sub",Sum.inr "mul",Sum.inr "neg"]:List Key);decide+kernel)⟩⟩;have F0:=ay (st:=Cb) l0 c0 k0;have D0:Def K mg "how_many_below" Cb ["word"]:=⟨f0,_,F0,F0.binds (ps:=["word"]) (λ_ _ _ _ _ _ us hl=>by refine us1 (P:=λus=>bindArgs _ ⟨us,[]⟩=pure (aav _ us)) hl ?_;intros;rfl),PySem.W.mg_of X G a0⟩;have F1:=ay (st:=rg) l1 c1 k1;have D1:Def K mg "gathered" rg ["rows"]:=⟨f1,_,F1,F1.binds (ps:=["rows"]) (λ_ _ _ _ _ _ us hl=>by refine us1 (P:=λus=>bindArgs _ ⟨us,[]⟩=pure (aav _ us)) hl ?_;intros;rfl),PySem.W.mg_of X G a1⟩;have F2:=ay (st:=r9) l2 c2 k2;have D2:Def K mg "plus" r9 ["one","other"]:=⟨f2,_,F2,F2.binds (ps:=["one","other"]) (λ_ _ _ _ _ _ us hl=>by refine us2 (P:=λus=>bindArgs _ ⟨us,[]⟩=pure (aav _ us)) hl ?_;intros;rfl),PySem.W.mg_of X G a2⟩;have F3:=ay (st:=j5) l3 c3 k3;have D3:Def K mg "minus" j5 ["one","other"]:=⟨f3,_,F3,F3.binds (ps:=["one","other"]) (λ_ _ _ _ _ _ us hl=>by refine us2 (P:=λus=>bindArgs _ ⟨us,[]⟩=pure (aav _ us)) hl ?_;intros;rfl),PySem.W.mg_of X G a3⟩;have F4:=ay (st:=ke) l4 c4 k4;have D4:Def K mg "times" ke ["one","other"]:=⟨f4,_,F4,F4.binds (ps:=["one","other"]) (λ_ _ _ _ _ _ us hl=>by refine us2 (P:=λus=>bindArgs _ ⟨us,[]⟩=pure (aav _ us)) hl ?_;intros;rfl),PySem.W.mg_of X G a4⟩;have F5:=ay (st:=rf) l5 c5 k5;have D5:Def K mg "leaf_form" rf ["word"]:=⟨f5,_,F5,F5.binds (ps:=["word"]) (λ_ _ _ _ _ _ us hl=>by refine us1 (P:=λus=>bindArgs _ ⟨us,[]⟩=pure (aav _ us)) hl ?_;intros;rfl),PySem.W.mg_of X G a5⟩;have F6:=ay (st:=j0) l6 c6 k6;have D6:Def K mg "joined_forms" j0 ["word","parts"]:=⟨f6,_,F6,F6.binds (ps:=["word","parts"]) (λ_ _ _ _ _ _ us hl=>by refine us2 (P:=λus=>bindArgs _ ⟨us,[]⟩=pure (aav _ us)) hl ?_;intros;rfl),PySem.W.mg_of X G a6⟩;have F7:=ay (st:=tf) l7 c7 k7;have D7:Def K mg "folded" tf ["words","joined"]:=⟨f7,_,F7,F7.binds (ps:=["words","joined"]) (λ_ _ _ _ _ _ us hl=>by refine us2 (P:=λus=>bindArgs _ ⟨us,[]⟩=pure (aav _ us)) hl ?_;intros;rfl),PySem.W.mg_of X G a7⟩;have F8:=ay (st:=h7) l8 c8 k8;have D8:Def K mg "form_of" h7 ["words"]:=⟨f8,_,F8,F8.binds (ps:=["words"]) (λ_ _ _ _ _ _ us hl=>by refine us1 (P:=λus=>bindArgs _ ⟨us,[]⟩=pure (aav _ us)) hl ?_;intros;rfl),PySem.W.mg_of X G a8⟩;have F9:=ay (st:=Bu) l9 c9 k9;have D9:Def K mg "is_one_term" Bu ["words"]:=⟨f9,_,F9,F9.binds (ps:=["words"]) (λ_ _ _ _ _ _ us hl=>by refine us1 (P:=λus=>bindArgs _ ⟨us,[]⟩=pure (aav _ us)) hl ?_;intros;rfl),PySem.W.mg_of X G a9⟩;have F10:=ay (st:=j4) l10 c10 k10;have D10:Def K mg "leaf_letter" j4 ["word","kinds"]:=⟨f10,_,F10,F10.binds (ps:=["word","kinds"]) (λ_ _ _ _ _ _ us hl=>by refine us2 (P:=λus=>bindArgs _ ⟨us,[]⟩=pure (aav _ us)) hl ?_;intros;rfl),PySem.W.mg_of X G a10⟩;have F11:=ay (st:=g7) l11 c11 k11;have D11:Def K mg "stands_in_shapes" g7 ["word","kinds"]:=⟨f11,_,F11,F11.binds (ps:=["word","kinds"]) (λ_ _ _ _ _ _ us hl=>by refine us2 (P:=λus=>bindArgs _ ⟨us,[]⟩=pure (aav _ us)) hl ?_;intros;rfl),PySem.W.mg_of X G a11⟩;have F12:=ay (st:=fc) l12 c12 k12;have D12:Def K mg "is_shape" fc ["words","kinds"]:=⟨f12,_,F12,F12.binds (ps:=["words","kinds"]) (λ_ _ _ _ _ _ us hl=>by refine us2 (P:=λus=>bindArgs _ ⟨us,[]⟩=pure (aav _ us)) hl ?_;intros;rfl),PySem.W.mg_of X G a12⟩;have F13:=ay (st:=g6) l13 c13 k13;have D13:Def K mg "leaf_names" g6 ["shape","kinds"]:=⟨f13,_,F13,F13.binds (ps:=["shape","kinds"]) (λ_ _ _ _ _ _ us hl=>by refine us2 (P:=λus=>bindArgs _ ⟨us,[]⟩=pure (aav _ us)) hl ?_;intros;rfl),PySem.W.mg_of X G a13⟩;have F14:=ay (st:=su) l14 c14 k14;have D14:Def K mg "take_name" su ["name","taken"]:=⟨f14,_,F14,F14.binds (ps:=["name","taken"]) (λ_ _ _ _ _ _ us hl=>by refine us2 (P:=λus=>bindArgs _ ⟨us,[]⟩=pure (aav _ us)) hl ?_;intros;rfl),PySem.W.mg_of X G a14⟩;have F15:=ay (st:=p9) l15 c15 k15;have D15:Def K mg "source_form" p9 ["rule","source","forms"]:=⟨f15,_,F15,F15.binds (ps:=["rule","source","forms"]) (λ_ _ _ _ _ _ us hl=>by refine us3 (P:=λus=>bindArgs _ ⟨us,[]⟩=pure (aav _ us)) hl ?_;intros;rfl),PySem.W.mg_of X G a15⟩;have F16:=ay (st:=jz) l16 c16 k16;have D16:Def K mg "deed_form" jz ["rule","deed","forms"]:=⟨f16,_,F16,F16.binds (ps:=["rule","deed","forms"]) (λ_ _ _ _ _ _ us hl=>by refine us3 (P:=λus=>bindArgs _ ⟨us,[]⟩=pure (aav _ us)) hl ?_;intros;rfl),PySem.W.mg_of X G a16⟩;have F17:=ay (st:=rh) l17 c17 k17;have D17:Def K mg "out_form" rh ["rule","leaves","deeds"]:=⟨f17,_,F17,F17.binds (ps:=["rule","leaves","deeds"]) (λ_ _ _ _ _ _ us hl=>by refine us3 (P:=λus=>bindArgs _ ⟨us,[]⟩=pure (aav _ us)) hl ?_;intros;rfl),PySem.W.mg_of X G a17⟩;have F18:=ay (st:=fb) l18 c18 k18;have D18:Def K mg "names_in" fb ["rows"]:=⟨f18,_,F18,F18.binds (ps:=["rows"]) (λ_ _ _ _ _ _ us hl=>by refine us1 (P:=λus=>bindArgs _ ⟨us,[]⟩=pure (aav _ us)) hl ?_;intros;rfl),PySem.W.mg_of X G a18⟩;have F19:=ay (st:=qw) l19 c19 k19;have D19:Def K mg "most_times" qw ["rows"]:=⟨f19,_,F19,F19.binds (ps:=["rows"]) (λ_ _ _ _ _ _ us hl=>by refine us1 (P:=λus=>bindArgs _ ⟨us,[]⟩=pure (aav _ us)) hl ?_;intros;rfl),PySem.W.mg_of X G a19⟩;have F20:=ay (st:=qh) l20 c20 k20;have D20:Def K mg "name_replaced" qh ["form","name","value"]:=⟨f20,_,F20,F20.binds (ps:=["form","name","value"]) (λ_ _ _ _ _ _ us hl=>by refine us3 (P:=λus=>bindArgs _ ⟨us,[]⟩=pure (aav _ us)) hl ?_;intros;rfl),PySem.W.mg_of X G a20⟩;have F21:=ay (st:=qa) l21 c21 k21;have D21:Def K mg "keeping_value" qa ["form","name","most"]:=⟨f21,_,F21,F21.binds (ps:=["form","name","most"]) (λ_ _ _ _ _ _ us hl=>by refine us3 (P:=λus=>bindArgs _ ⟨us,[]⟩=pure (aav _ us)) hl ?_;intros;rfl),PySem.W.mg_of X G a21⟩;have F22:=ay (st:=rq) l22 c22 k22;have D22:Def K mg "parting" rq ["one","other"]:=⟨f22,_,F22,F22.binds (ps:=["one","other"]) (λ_ _ _ _ _ _ us hl=>by refine us2 (P:=λus=>bindArgs _ ⟨us,[]⟩=pure (aav _ us)) hl ?_;intros;rfl),PySem.W.mg_of X G a22⟩;have F23:=ay (st:=Bs) l23 c23 k23;have D23:Def K mg "refuse_unsound" Bs ["rule","shape","deeds","kinds"]:=⟨f23,_,F23,F23.binds (ps:=["rule","shape","deeds","kinds"]) (λ_ _ _ _ _ _ us hl=>by refine us4 (P:=λus=>bindArgs _ ⟨us,[]⟩=pure (aav _ us)) hl ?_;intros;rfl),PySem.W.mg_of X G a23⟩;have F24:=ay (st:=j8) l24 c24 k24;have D24:Def K mg "sound" j8 ["book"]:=⟨f24,_,F24,F24.binds (ps:=["book"]) (λ_ _ _ _ _ _ us hl=>by refine us1 (P:=λus=>bindArgs _ ⟨us,[]⟩=pure (aav _ us)) hl ?_;intros;rfl),PySem.W.mg_of X G a24⟩;have F25:=ay (st:=si) l25 c25 k25;have D25:Def K mg "_law_hand" si ["cell","k"]:=⟨f25,_,F25,F25.binds (ps:=["cell","k"]) (λ_ _ _ _ _ _ us hl=>by refine us2 (P:=λus=>bindArgs _ ⟨us,[]⟩=pure (aav _ us)) hl ?_;intros;rfl),PySem.W.mg_of X G a25⟩;have F26:=ay (st:=qu) l26 c26 k26;have D26:Def K mg "_law_draw" qu ["hand","limit"]:=⟨f26,_,F26,F26.binds (ps:=["hand","limit"]) (λ_ _ _ _ _ _ us hl=>by refine us2 (P:=λus=>bindArgs _ ⟨us,[]⟩=pure (aav _ us)) hl ?_;intros;rfl),PySem.W.mg_of X G a26⟩;have F27:=ay (st:=ib) l27 c27 k27;have D27:Def K mg "_law_names" ib ["hand","size"]:=⟨f27,_,F27,F27.binds (ps:=["hand","size"]) (λ_ _ _ _ _ _ us hl=>by refine us2 (P:=λus=>bindArgs _ ⟨us,[]⟩=pure (aav _ us)) hl ?_;intros;rfl),PySem.W.mg_of X G a27⟩;have F28:=ay (st:=j7) l28 c28 k28;have D28:Def K mg "_law_leaf" j7 ["hand","kinds"]:=⟨f28,_,F28,F28.binds (ps:=["hand","kinds"]) (λ_ _ _ _ _ _ us hl=>by refine us2 (P:=λus=>bindArgs _ ⟨us,[]⟩=pure (aav _ us)) hl ?_;intros;rfl),PySem.W.mg_of X G a28⟩;have F29:=ay (st:=gu) l29 c29 k29;have D29:Def K mg "_law_shape" gu ["hand","kinds","limit"]:=⟨f29,_,F29,F29.binds (ps:=["hand","kinds","limit"]) (λ_ _ _ _ _ _ us hl=>by refine us3 (P:=λus=>bindArgs _ ⟨us,[]⟩=pure (aav _ us)) hl ?_;intros;rfl),PySem.W.mg_of X G a29⟩;have F30:=ay (st:=gr) l30 c30 k30;have D30:Def K mg "_law_labels" gr ["kinds","shape"]:=⟨f30,_,F30,F30.binds (ps:=["kinds","shape"]) (λ_ _ _ _ _ _ us hl=>by refine us2 (P:=λus=>bindArgs _ ⟨us,[]⟩=pure (aav _ us)) hl ?_;intros;rfl),PySem.W.mg_of X G a30⟩;have F31:=ay (st:=j6) l31 c31 k31;have D31:Def K mg "_law_deed" j6 ["word","box","some"]:=⟨f31,_,F31,F31.binds (ps:=["word","box","some"]) (λ_ _ _ _ _ _ us hl=>by refine us3 (P:=λus=>bindArgs _ ⟨us,[]⟩=pure (aav _ us)) hl ?_;intros;rfl),PySem.W.mg_of X G a31⟩;have F32:=ay (st:=g4) l32 c32 k32;have D32:Def K mg "_law_deeds" g4 ["labels"]:=⟨f32,_,F32,F32.binds (ps:=["labels"]) (λ_ _ _ _ _ _ us hl=>by refine us1 (P:=λus=>bindArgs _ ⟨us,[]⟩=pure (aav _ us)) hl ?_;intros;rfl),PySem.W.mg_of X G a32⟩;have F33:=ay (st:=gx) l33 c33 k33;have D33:Def K mg "_law_spread" gx ["kinds","hand"]:=⟨f33,_,F33,F33.binds (ps:=["kinds","hand"]) (λ_ _ _ _ _ _ us hl=>by refine us2 (P:=λus=>bindArgs _ ⟨us,[]⟩=pure (aav _ us)) hl ?_;intros;rfl),PySem.W.mg_of X G a33⟩;have F34:=ay (st:=ki) l34 c34 k34;have D34:Def K mg "_law_rule" ki ["kinds","hand"]:=⟨f34,_,F34,F34.binds (ps:=["kinds","hand"]) (λ_ _ _ _ _ _ us hl=>by refine us2 (P:=λus=>bindArgs _ ⟨us,[]⟩=pure (aav _ us)) hl ?_;intros;rfl),PySem.W.mg_of X G a34⟩;have F35:=ay (st:=vi) l35 c35 k35;have D35:Def K mg "_law_same" vi ["found","due"]:=⟨f35,_,F35,F35.binds (ps:=["found","due"]) (λ_ _ _ _ _ _ us hl=>by refine us2 (P:=λus=>bindArgs _ ⟨us,[]⟩=pure (aav _ us)) hl ?_;intros;rfl),PySem.W.mg_of X G a35⟩;have F36:=ay (st:=wo) l36 c36 k36;refine ⟨PySem.W.fnOf "law" "law" (ak wo) (ai wo) (ae wo) .none kV36 dc36 pm36 an36 cd36 ct36,λs v=>.of_eq rfl,λbase _ _=>?_⟩;have H0:Has l.prog w K mg base 1 "how_many_below" ["word"] cz:=hasHow (k:=0) G0   D0;have H1:Has l.prog w K mg base 1 "gathered" ["rows"] eo:=Ms (k:=0) G0   D1;have H2:Has l.prog w K mg base 2 "plus" ["one","other"] w6:=M0 (k:=1) G0 (H1.up (by decide))  D2;have H3:Has l.prog w K mg base 2 "minus" ["one","other"] jr:=Jr (k:=1) G0 (H1.up (by decide))  D3;have H4:Has l.prog w K mg base 2 "times" ["one","other"] p6:=Kd (k:=1) G0 (H1.up (by decide))  D4;have H5:Has l.prog w K mg base 2 "leaf_form" ["word"] rp:=Mo (k:=1) G0 (H1.up (by decide)) (H0.up (by decide))  D5;have H6:Has l.prog w K mg base 3 "joined_forms" ["word","parts"] eg:=G3 (k:=2) G0 (H3.up (by decide)) (H2.up (by decide)) (H4.up (by decide))  D6;have H7:Has l.prog w K mg base 4 "folded" ["words","joined"] (xb l.prog w K mg base):=M4 (k:=3) G0 (H0.up (by decide)) (by decide) D7;have H8:Has l.prog w K mg base 5 "form_of" ["words"] (dw K):=Gf (k:=4) G0 (H7.up (by decide)) (H6.up (by decide)) (H5.up (by decide)) H6 D8;have H9:Has l.prog w K mg base 2 "is_one_term" ["words"] (Eb K):=hasOne (k:=1) G0 (H0.up (by decide))  D9;have H10:Has l.prog w K mg base 1 "leaf_letter" ["word","kinds"] (gw K):=Iv (k:=0) G0   D10;have H11:Has l.prog w K mg base 2 "stands_in_shapes" ["word","kinds"] (i7 K):=Fu (k:=1) G0 (H0.up (by decide)) (H10.up (by decide))  D11;have H12:Has l.prog w K mg base 3 "is_shape" ["words","kinds"] (jo K):=Bm (k:=2) G0 (H9.up (by decide)) (H11.up (by decide))  D12;have H13:Has l.prog w K mg base 2 "leaf_names" ["shape","kinds"] (mq K):=Gj (k:=1) G0 (H10.up (by decide))  D13;have H14:Has l.prog w K mg base 1 "take_name" ["name","taken"] qj:=M8 (k:=0) G0   D14;have H15:Has l.prog w K mg base 6 "source_form" ["rule","source","forms"] (tm K):=Lc (k:=5) G0 (H8.up (by decide))  D15;have H16:Has l.prog w K mg base 7 "deed_form" ["rule","deed","forms"] (pq K):=J9 (k:=6) G0 (H0.up (by decide)) (H6.up (by decide)) (H15.up (by decide))  D16;have H17:Has l.prog w K mg base 8 "out_form" ["rule","leaves","deeds"] (we K):=L0 (k:=7) G0 (H16.up (by decide)) (H8.up (by decide))  D17;have H18:Has l.prog w K mg base 1 "names_in" ["rows"] b9:=Cf (k:=0) G0   D18;have H19:Has l.prog w K mg base 1 "most_times" ["rows"] b9:=Lv (k:=0) G0   D19;have H20:Has l.prog w K mg base 1 "name_replaced" ["form","name","value"] b9:=K5 (k:=0) G0   D20;have H21:Has l.prog w K mg base 1 "keeping_value" ["form","name","most"] b9:=Lz (k:=0) G0   D21;have H22:Has l.prog w K mg base 3 "parting" ["one","other"] pd:=K1 (k:=2) G0 (H21.up (by decide)) (H3.up (by decide)) (H19.up (by decide)) (H20.up (by decide)) (H18.up (by decide))  D22;have H23:Has l.prog w K mg base 9 "refuse_unsound" ["rule","shape","deeds","kinds"] (C0 K):=hasUns (k:=8) G0 (H8.up (by decide)) (H13.up (by decide)) (H17.up (by decide)) (H22.up (by decide))  D23;have H24:Has l.prog w K mg base 10 "sound" ["book"] ph:=G2 (k:=9) G0 (H12.up (by decide)) (H23.up (by decide)) (H14.up (by decide))  D24;have H25:Has l.prog w K mg base 1 "_law_hand" ["cell","k"] An:=Mc (k:=0) G0   D25;have H26:Has l.prog w K mg base 1 "_law_draw" ["hand","limit"] gz:=Mj (k:=0) G0   D26;have H27:Has l.prog w K mg base 2 "_law_names" ["hand","size"] nq:=Es (k:=1) G0 (H26.up (by decide))  D27;have H28:Has l.prog w K mg base 2 "_law_leaf" ["hand","kinds"] o7:=Iz (k:=1) G0 (H26.up (by decide))  D28;have H29:Has l.prog w K mg base 3 "_law_shape" ["hand","kinds","limit"] t4:=Ew (k:=2) G0 (H26.up (by decide)) (H28.up (by decide))  D29;have H30:Has l.prog w K mg base 1 "_law_labels" ["kinds","shape"] qt:=Et (k:=0) G0   D30;have H31:Has l.prog w K mg base 1 "_law_deed" ["word","box","some"] wu:=G6 (k:=0) G0   D31;have H32:Has l.prog w K mg base 2 "_law_deeds" ["labels"] sx:=Eo (k:=1) G0 (H31.up (by decide))  D32;have H33:Has l.prog w K mg base 2 "_law_spread" ["kinds","hand"] (jg 1):=Ff (k:=1) G0 (H26.up (by decide))  D33;have H34:Has l.prog w K mg base 4 "_law_rule" ["kinds","hand"] (jg 0):=Ht (k:=3) G0 (H32.up (by decide)) (H26.up (by decide)) (H30.up (by decide)) (H29.up (by decide)) (H33.up (by decide))  D34;have H35:Has l.prog w K mg base 7 "_law_same" ["found","due"] (vh 5):=K3 (k:=0) G0   D35;exact hasLaw (k:=10) G0 (H26.up (by decide)) (H25.up (by decide)) (H27.up (by decide)) (H34.up (by decide)) (H35.up (by decide)) (H24.up (by decide))  F36
theorem walk {l:PySem.W.OpenLaw} {q:Program} {loose:List Str} {XP:(Str→Option Value)→Heap→Prop} {YP:World→Heap→Prop} {d:DefRec} {K:Params→PySem.W.Frag} (hn:l.most=some 63) (hdf:d.params.defaults=[])
  (hY:∀(w:World) (h:Heap),YP w h→(K w.params).In h)
  (F:∀(w:World) (mg:Str→Option Value) (fa:Addr) (h:Heap),(K w.params).In h→h.Ns mainGlobals mg→mg d.name=some (.ref fa)→
   ∃fd:FuncData,(∀(s:Shared) (u:Value),BindsTo s fd ⟨[u],[]⟩ [("script",u)])∧∀base:Heap,(K w.params).In base→base.Ns mainGlobals mg→mi l.prog w (K w.params) mg base CX0 11 fa fd ["script"] (Dc (K w.params))):
  PySem.W.WalkO q loose XP YP l.row.toRowW d [] (λf vs=>PySem.call f vs):=
 L2.Kz (n:=63) (k:=11) (x:="script") (CX:=λ_=>CX0) (sp:=λw=>Dc (K w.params)) hn (by decide) hdf ⟨rfl,by decide,by decide⟩ hY F (λ_ _ a ns hl _ hS=>⟨a,ns,rfl,hS,hl,λ_=>rfl⟩) λ_ _ _ _ _ z=>z
end K34
namespace PySem.W.Fast
def tw17807429339521647482:=()
def tw17745680659309312786:=()
def tw7425014922532407815:=()
def tw10586667683926681495:=()
def tw8669763941164450659:=()
def tw13372612444154404952:=()
def tw14198871678956053255:=()
def tw8613404741899831073:=()
def tw17163185432349534061:=()
def tw3192116114481015335:=()
def tw10077886822573095480:=()
def tw5602690203772245189:=()
def tw3808183102091626486:=()
def tw11797954567767972667:=()
def tw13289572202920796440:=()
def tw8222695947864254542:=()
def tw2898625879368188465:=()
def tw3783549571903178553:=()
def tw10097678345600663990:=()
def tw17986219279137066279:=()
def tw1637917303298196702:=()
def tw292771011118037564:=()
def tw1677211043521974780:=()
def tw8953781693467748960:=()
def tw13795898249908619845:=()
def tw13836924971745915349:=()
def tw6237653044976835538:=()
def tw4166329280622599323:=()
def tw10567714551590607303:=()
def tw14284309613228316751:=()
def tw9322523703404643360:=()
def tw13474919539323889638:=()
def tw16427058722708265837:=()
def tw2244914119042898442:=()
def tw539139336052979630:=()
def tw8161397666047751338:=()
def tw873590608598686439:=()
def tw2877062680840270226:=()
def tw11523557616751510971:=()
def tw1445267136533377085:=()
def tw12663748684476877514:=()
def tw11515381569488921714:=()
def tw17172784437101140551:=()
def tw11733412041377291309:=()
def tw194654547376706360:=()
def tw9454282723917300321:=()
def tw10807084871309571898:=()
def tw5026485081272627934:=()
def tw1989780464997057530:=()
def tw2635636826006285525:=()
def tw6511947632429148207:=()
def tw17206890958067806820:=()
def tw923777884725429435:=()
def tw8970931818246089185:=()
def tw7812149801661207896:=()
def tw14911136751073211611:=()
def tw18027390858739684561:=()
def tw14283653088819423543:=()
def tw3260964360023217542:=()
def tw4132737372595853872:=()
def tw9166200261738640971:=()
def tw3071139643621712007:=()
def tw62612259687622440:=()
def tw10923629487420208793:=()
def tw9322229183133044141:=()
def tw3213206841467754439:=()
def tw3840591808791486546:=()
def tw15831168336753662078:=()
def tw18204989766084810979:=()
def tw14129635465016541953:=()
def tw15915771395087922993:=()
def tw303902427114703879:=()
def tw6931904639456455587:=()
def tw11690535671703462054:=()
def tw2066574874105029048:=()
def tw13634887129926770294:=()
def tw12357149644310543267:=()
def tw13156608267150132978:=()
def tw9636844376573203297:=()
def tw14109353798323321218:=()
def tw1744264576971475224:=()
def tw18245067898922032997:=()
def tw5995042094590764287:=()
def tw15279864103190628106:=()
def tw8240125383182351831:=()
def tw18255227875345430070:=()
def tw4734415142304767803:=()
def tw11156547222451669332:=()
def tw17150134044884402526:=()
def tw2877311809581024304:=()
def tw5049717044554058213:=()
def tw3348615025234596976:=()
def tw12205832490776014543:=()
def tw2934976993817231912:=()
def tw8385226879390978127:=()
def tw11155489648039350750:=()
def tw12573355412310738186:=()
def tw13406263722338100478:=()
def tw3579431846570368679:=()
def tw3921038998344058597:=()
def tw15547357372708746941:=()
def tw11120887819923421524:=()
def tw6262661707760067199:=()
def tw5265269441957595570:=()
def tw6142249035457784018:=()
def tw12166549730951569302:=()
def tw892643370119000623:=()
def tw14575506509184443714:=()
def tw2073641409428285915:=()
def tw1648578229549320581:=()
def tw13963873581111643026:=()
def tw14819583495169850214:=()
def tw17034705359374806018:=()
def tw6593270318325696164:=()
def tw14108822686207362495:=()
def tw4683527549943274323:=()
def tw8766563789442918398:=()
def tw1826098716669561919:=()
def tw3510337654353504998:=()
def tw2870079017689884315:=()
def tw4706692093394549110:=()
def tw3227790076889571297:=()
def tw13830521506258746737:=()
def tw9393037966856109616:=()
def tw2001216230997188912:=()
def tw13757156370638857230:=()
def tw17936492201281752899:=()
def tw18045227759150451510:=()
def tw6168544701060984278:=()
def tw518118904921810257:=()
def tw9985254423451852032:=()
def tw5114037416316487522:=()
def tw1794309389912731598:=()
def tw3998753190806100583:=()
def tw18012932134010772415:=()
def tw17484304394710969847:=()
def tw9927959500065146449:=()
def tw1626316348108614033:=()
def tw4209753389921876641:=()
def tw2567132743266660858:=()
def tw14410350086596991596:=()
def tw3691272023874583182:=()
def tw6590656308352518702:=()
def tw11003994142923398381:=()
def tw17830014105799822494:=()
def tw1219124451402603933:=()
def tw1481595776537175035:=()
def tw10569533621212767281:=()
def tw6128427291136920962:=()
def tw11188137495450844110:=()
def tw3733318305377854036:=()
def tw13729200890801691105:=()
def tw1764885470302990569:=()
def tw4352874542398898916:=()
def tw13885542477853550861:=()
def tw5491301044298420563:=()
def tw5695249765755427900:=()
def tw6029338299287139244:=()
def tw17066518041327965808:=()
def tw5184274781253210182:=()
def tw2770019999865956539:=()
def tw16504048335641906896:=()
def tw12750573285799889721:=()
def tw3536497836633246597:=()
def tw11769694012296764738:=()
def tw18268677922446913929:=()
def tw4994793932852996386:=()
def tw8269827398229764923:=()
def tw10039137031482706977:=()
def tw15519649223663570247:=()
def tw6503527378750425615:=()
def tw13541264539857549719:=()
def tw13040825861462274844:=()
def tw7119475740577823655:=()
def tw9150064692593407288:=()
def tw15074645611645799847:=()
def tw10135105446713145670:=()
def tw4938892633150636747:=()
def tw17245454259713710201:=()
def tw12331731398924194236:=()
def tw6762582065876160252:=()
def tw16576651933254763767:=()
def tw4776249950442378037:=()
def tw634234902797129199:=()
def tw10413217558395365341:=()
def tw11181329760281916390:=()
def tw15377532768541866656:=()
def tw11650258267614288125:=()
def tw10941472661893339871:=()
def tw4452914379918156590:=()
def tw16564431994365730195:=()
def tw13021242086673210181:=()
def tw1265252194043529567:=()
def tw4620028193103153578:=()
def tw11663367762106498552:=()
def tw1503723753609363984:=()
def tw1370932083300917061:=()
def tw1723651057201136901:=()
def tw12043080584669289866:=()
def tw16798920634854521745:=()
def tw8881644576776176816:=()
def tw7033274644331281279:=()
def tw5435693461188669109:=()
def tw16983928271986111355:=()
def tw16700230626703575492:=()
def tw8565642784634150893:=()
def tw2074091682744147193:=()
def tw17367169772498262059:=()
def tw1318857246527667322:=()
def tw2320371499459176608:=()
def tw6182145959227852404:=()
def tw15224972951698703104:=()
def tw13902867226029452283:=()
def tw5097003032410714878:=()
def tw8692568073421881633:=()
def tw8495800426076337726:=()
def tw15035082009579575565:=()
def tw3403615634425159311:=()
def tw8940229064630291109:=()
def tw13164355587915855302:=()
def tw3038757674806429182:=()
def tw4199916238809516875:=()
def tw3944636193515100522:=()
def tw1968822221604868434:=()
def tw6641942566893150778:=()
def tw3672245808636190812:=()
def tw17643095053132906017:=()
def tw9456869388428812193:=()
def tw4066191590144193810:=()
def tw17437168163300457416:=()
def tw14048837144191628475:=()
def tw12404068728931027577:=()
def tw7884578391673396579:=()
def tw7002855830924028634:=()
def tw1533527664597408218:=()
def tw696420707317383042:=()
def tw17327188723106070324:=()
def tw4356574893253516271:=()
def tw9402533024728000383:=()
def tw18048257112997364030:=()
def tw2187728014656956535:=()
def tw13666608469961457684:=()
def tw6714953316087526249:=()
def tw11350902267803582027:=()
def tw7112971067536554876:=()
def tw7984254019077560440:=()
def tw12168488745725970553:=()
def tw2093785099725417367:=()
def tw5691078384404558126:=()
def tw15253160113813989130:=()
def tw13494446806706984380:=()
def tw1482574862296725409:=()
def tw9834144021779390612:=()
def tw8085926983333944902:=()
def tw21079676715927900:=()
def tw10035664791592937632:=()
def tw12158567248578772962:=()
def tw11818096883902626452:=()
def tw13324819127528276999:=()
def tw3352005623193504160:=()
def tw17488916208967327914:=()
def tw18045800280626025425:=()
def tw5794189769817384199:=()
def tw18302599320403256517:=()
def tw3047253298990490381:=()
def tw6073287838030409778:=()
def tw15942723141873524670:=()
def tw6955105897784628882:=()
def tw8194732474685752700:=()
def tw14860180818501401261:=()
def tw13969531375312557021:=()
def tw5051652882561196146:=()
def tw16248787839346360470:=()
def tw10912120382459415227:=()
def tw11927630980019416462:=()
def tw2756340223002815699:=()
def tw9100245814879184419:=()
def tw11754830529576008601:=()
def tw11364838060957013105:=()
def tw4321940214169463235:=()
def tw16733945477876317542:=()
def tw15546582974117615985:=()
def tw14019441994151684834:=()
def tw18329739537661816514:=()
def tw16371392514525490697:=()
def tw404384329544903623:=()
def tw8097194294970158433:=()
def tw3390396701447932847:=()
def tw9933453529582355100:=()
def tw1245014025539234094:=()
def tw8332948107513324578:=()
def tw8842282783372126490:=()
def tw10631898720771366649:=()
def tw10188893824310939804:=()
def tw18375407658742902087:=()
def tw15324488895450288464:=()
def tw13084734227065472982:=()
def tw9829510700592437062:=()
def tw5409858840799582852:=()
def tw9114049926870082701:=()
def tw9236449119298122012:=()
def tw11754498983788632688:=()
def tw10208597608384480756:=()
def tw7709413574490244138:=()
def tw7550375684822377140:=()
def tw4450558448053377121:=()
def tw4697451569892922459:=()
def tw15215136340223883749:=()
def tw14763624824806296577:=()
def tw9885996986530880024:=()
def tw5773348522442293861:=()
def tw5019920170609771605:=()
def tw16540566214087536025:=()
def tw11712066739745511634:=()
def tw13788624897913222558:=()
def tw1520608151055831514:=()
def tw17062357832063700931:=()
def tw7153053780137223958:=()
def tw11567427897236069644:=()
def tw6493191848177940635:=()
def tw18332035430816929575:=()
def tw8131042293219326940:=()
def tw15035792397752582951:=()
def tw8611291115603004441:=()
def tw5388554404102151647:=()
def tw13719219997299809241:=()
def tw11950486026956960952:=()
def tw4905348547435181829:=()
def tw4451811991107224940:=()
def tw18053544498822018902:=()
def tw12192010702872559199:=()
def tw6205330195575899972:=()
def tw5598825074624556718:=()
def tw7065047398799441368:=()
def tw5715278245449786185:=()
def tw6393232068089074437:=()
def tw4507371136298936297:=()
def tw11769460532175277638:=()
def tw15008413059957384321:=()
def tw15558555924508518697:=()
def tw2235435788753084423:=()
def tw9425174938698710485:=()
def tw17999510174466580443:=()
end PySem.W.Fast
open PySem PySem.W PyProof.Rows
set_option maxRecDepth 100000 in
set_option maxHeartbeats 0 in
theorem PySem.Challenge.cw_pricecover_k34_sound_books_holds : PySem.Challenge.rw_pricecover_k34_sound_books.Holds := by
 w_on;o_law;k_head;(case hw=>w_witness2)
 k_fill
 refine K34.walk (l:=PySem.Challenge.rw_pricecover_k34_sound_books) rfl rfl (fun w h Y=>PySem.W.kIn_of Y) ?F
 case F=>
  intro w mg fa h KX G hmg
  refine' K34.all_mk KX G hmg ?a0 ?l0 ?c0 ?k0 ?a1 ?l1 ?c1 ?k1 ?a2 ?l2 ?c2 ?k2 ?a3 ?l3 ?c3 ?k3 ?a4 ?l4 ?c4 ?k4 ?a5 ?l5 ?c5 ?k5 ?a6 ?l6 ?c6 ?k6 ?a7 ?l7 ?c7 ?k7 ?a8 ?l8 ?c8 ?k8 ?a9 ?l9 ?c9 ?k9 ?a10 ?l10 ?c10 ?k10 ?a11 ?l11 ?c11 ?k11 ?a12 ?l12 ?c12 ?k12 ?a13 ?l13 ?c13 ?k13 ?a14 ?l14 ?c14 ?k14 ?a15 ?l15 ?c15 ?k15 ?a16 ?l16 ?c16 ?k16 ?a17 ?l17 ?c17 ?k17 ?a18 ?l18 ?c18 ?k18 ?a19 ?l19 ?c19 ?k19 ?a20 ?l20 ?c20 ?k20 ?a21 ?l21 ?c21 ?k21 ?a22 ?l22 ?c22 ?k22 ?a23 ?l23 ?c23 ?k23 ?a24 ?l24 ?c24 ?k24 ?a25 ?l25 ?c25 ?k25 ?a26 ?l26 ?c26 ?k26 ?a27 ?l27 ?c27 ?k27 ?a28 ?l28 ?c28 ?k28 ?a29 ?l29 ?c29 ?k29 ?a30 ?l30 ?c30 ?k30 ?a31 ?l31 ?c31 ?k31 ?a32 ?l32 ?c32 ?k32 ?a33 ?l33 ?c33 ?k33 ?a34 ?l34 ?c34 ?k34 ?a35 ?l35 ?c35 ?k35 ?a36 ?l36 ?c36 ?k36 ?z0 ?z1 ?z2 ?z3 ?z4 ?z5 ?z6 ?z7 ?z8 ?z9 ?z10 ?z11 ?z12 ?z13 ?y0 ?x0 ?hh0x0 ?hh0x1 ?hh0x2 ?hh0x3 ?ha0
  (case a0=>k_is)
  (case l0=>k_is)
  (case c0=>k_is)
  (case k0=>k_is)
  (case a1=>k_is)
  (case l1=>k_is)
  (case c1=>k_is)
  (case k1=>k_is)
  (case a2=>k_is)
  (case l2=>k_is)
  (case c2=>k_is)
  (case k2=>k_is)
  (case a3=>k_is)
  (case l3=>k_is)
  (case c3=>k_is)
  (case k3=>k_is)
  (case a4=>k_is)
  (case l4=>k_is)
  (case c4=>k_is)
  (case k4=>k_is)
  (case a5=>k_is)
  (case l5=>k_is)
  (case c5=>k_is)
  (case k5=>k_is)
  (case a6=>k_is)
  (case l6=>k_is)
  (case c6=>k_is)
  (case k6=>k_is)
  (case a7=>k_is)
  (case l7=>k_is)
  (case c7=>k_is)
  (case k7=>k_is)
  (case a8=>k_is)
  (case l8=>k_is)
  (case c8=>k_is)
  (case k8=>k_is)
  (case a9=>k_is)
  (case l9=>k_is)
  (case c9=>k_is)
  (case k9=>k_is)
  (case a10=>k_is)
  (case l10=>k_is)
  (case c10=>k_is)
  (case k10=>k_is)
  (case a11=>k_is)
  (case l11=>k_is)
  (case c11=>k_is)
  (case k11=>k_is)
  (case a12=>k_is)
  (case l12=>k_is)
  (case c12=>k_is)
  (case k12=>k_is)
  (case a13=>k_is)
  (case l13=>k_is)
  (case c13=>k_is)
  (case k13=>k_is)
  (case a14=>k_is)
  (case l14=>k_is)
  (case c14=>k_is)
  (case k14=>k_is)
  (case a15=>k_is)
  (case l15=>k_is)
  (case c15=>k_is)
  (case k15=>k_is)
  (case a16=>k_is)
  (case l16=>k_is)
  (case c16=>k_is)
  (case k16=>k_is)
  (case a17=>k_is)
  (case l17=>k_is)
  (case c17=>k_is)
  (case k17=>k_is)
  (case a18=>k_is)
  (case l18=>k_is)
  (case c18=>k_is)
  (case k18=>k_is)
  (case a19=>k_is)
  (case l19=>k_is)
  (case c19=>k_is)
  (case k19=>k_is)
  (case a20=>k_is)
  (case l20=>k_is)
  (case c20=>k_is)
  (case k20=>k_is)
  (case a21=>k_is)
  (case l21=>k_is)
  (case c21=>k_is)
  (case k21=>k_is)
  (case a22=>k_is)
  (case l22=>k_is)
  (case c22=>k_is)
  (case k22=>k_is)
  (case a23=>k_is)
  (case l23=>k_is)
  (case c23=>k_is)
  (case k23=>k_is)
  (case a24=>k_is)
  (case l24=>k_is)
  (case c24=>k_is)
  (case k24=>k_is)
  (case a25=>k_is)
  (case l25=>k_is)
  (case c25=>k_is)
  (case k25=>k_is)
  (case a26=>k_is)
  (case l26=>k_is)
  (case c26=>k_is)
  (case k26=>k_is)
  (case a27=>k_is)
  (case l27=>k_is)
  (case c27=>k_is)
  (case k27=>k_is)
  (case a28=>k_is)
  (case l28=>k_is)
  (case c28=>k_is)
  (case k28=>k_is)
  (case a29=>k_is)
  (case l29=>k_is)
  (case c29=>k_is)
  (case k29=>k_is)
  (case a30=>k_is)
  (case l30=>k_is)
  (case c30=>k_is)
  (case k30=>k_is)
  (case a31=>k_is)
  (case l31=>k_is)
  (case c31=>k_is)
  (case k31=>k_is)
  (case a32=>k_is)
  (case l32=>k_is)
  (case c32=>k_is)
  (case k32=>k_is)
  (case a33=>k_is)
  (case l33=>k_is)
  (case c33=>k_is)
  (case k33=>k_is)
  (case a34=>k_is)
  (case l34=>k_is)
  (case c34=>k_is)
  (case k34=>k_is)
  (case a35=>k_is)
  (case l35=>k_is)
  (case c35=>k_is)
  (case k35=>k_is)
  (case a36=>k_is)
  (case l36=>k_is)
  (case c36=>k_is)
  (case k36=>k_is)
  (case z0=>k_is)
  (case z1=>k_is)
  (case z2=>k_is)
  (case z3=>k_is)
  (case z4=>k_is)
  (case z5=>k_is)
  (case z6=>k_is)
  (case z7=>k_is)
  (case z8=>k_is)
  (case z9=>k_is)
  (case z10=>k_is)
  (case z11=>k_is)
  (case z12=>k_is)
  (case z13=>k_is)
  (case y0=>k_is)
  (case x0=>k_is)
  (case hh0x0=>first | rfl | k_is)
  (case hh0x1=>first | rfl | k_is)
  (case hh0x2=>first | rfl | k_is)
  (case hh0x3=>first | rfl | k_is)
  (case ha0=>first | rfl | decide | k_is)
#print axioms PySem.Challenge.cw_pricecover_k34_sound_books_holds
