import PyProof.Rows.All
import Wide.All
import OpenK.AllK
import Wide.FinOn
import Lean
import PyProof.EqAt
import PyProof.EqKinds
import PyProof.TupleCall
import KE.KSortTup
import PyProof.EnumMake
import PyProof.EnumStmt
import PyProof.ListRange
import PyProof.Rows.SortPure
import PyProof.Rows.SortRuns
import KE.KDictList
import KE.KRevIter
import PyProof.DictItems
import PyProof.ZipIter
import PyProof.DictUpdate
import PyProof.TupleIter
import PyProof.ListNew
import PyProof.Rows.ZipGen
import PyProof.AttrMiss
import PyProof.FactsAll.dict_1
import PyProof.AttrMissHeap
import KE.KDictOf
import PyProof.Rows.SetFrom
import PyProof.Rows.Range3
import PyProof.DictIter
import PyProof.Rows.TupDisplay
import PyProof.ExcClass3
import PyProof.RulesAs
import PyProof.RaisesMany
import PyProof.InstStore
import PyProof.InstStoreFacts
import PyProof.ExcBaseAll.ValueError
import PyProof.ExcArgs
import PyProof.InstLoad
import PyProof.ExcAttrAll.ValueError
import KE.KIsAll
import PyProof.Toks
import PyProof.FString4
import PyProof.StrLawsRepr
import PyProof.FitsReplace
import PyProof.Draws
import PyProof.Rows.CallKwBuiltin
import PySem.Challenge.RW_pricecover_k53_whole_no_cover_is_cheaper
set_option Elab.async false
set_option bootstrap.genMatcherCode false
set_option linter.all false
set_option maxRecDepth 100000
set_option maxHeartbeats 4000000
open List renaming length_map → aa0,getElem?_eq_getElem → aa1,length_append → aa2,size_toArray → aa5,mem_cons_self → aa7,map_append → aa8,not_mem_nil → aa9,length_singleton → aaa,mem_cons_of_mem → aab,getElem?_map → aac,getElem?_append_right → aad,getD_eq_getElem?_getD → aae,getElem?_append_left → aaf,mem_of_getElem? → aah,length_cons → aai,replicate → aal,mem_cons → aan,length_drop → aap,length_reverse → aaq,filter_cons → aar,drop_eq_getElem_cons → aat,mem_append_right → aav,map_cons → aaw,range → aax,length_take → ab1,zip → ab2,replicate_succ → ab3,getElem_mem → ab5,take_add_one → ab6,append_nil → ab7,length_filter_le → ab8,Nodup → aba,length_replicate → abc,getElem?_eq_none → abd,filter_append → abf,take_of_length_le → abj,contains_cons → abm,append_assoc → abn,count_append → abo,take_length → abp,mem_append_left → abr,mem_of_mem_take → abt,length_filterMap_le → abu,flatten_cons → abv,filterMap_cons → abw,drop_length → aby,drop_of_length_le → abz,map_map → ac0,of_mem_zip → ac2,take_append_drop → ac3,getElem?_reverse → ac4,map_drop → ac5,length_range → ac6,count_replicate_self → ac7,sum_cons → aca,find?_cons → acb,length_nil → acd,length_zip → acf,reverse_cons → ach,count_replicate → aco,count_singleton → acp,mem_of_find?_eq_some → acr,getElem?_take_of_lt → acs,headD_eq_head?_getD → acy,length → ad0,any_cons → ad2,getElem?_toArray → ad4,map_nil → ad6,length_dropLast → ad7,toArray → ad9,forIn_cons → ada,reverse_append → ade,nodup_nil → adf,drop_drop → adg,forIn_nil → adh,dropLast_concat_getLast → adi,getElem?_drop → adk,zip_cons_cons → adl,take_sublist → adn,getElem_inj → adq,lookup_cons → adv,getElem?_replicate → adx,getElem?_cons_succ → ady,nil_append → adz,sum_append → ae1,getElem?_set_self → ae2,countP_mono_left → ae4,filterMap_append → ae5,getElem?_set_ne → ae6,map → ae7,dropLast_concat → ae8,mem_of_mem_drop → ae9,getLast?_concat → aea,map_take → aec,getElem?_range → aed,getElem?_tail → aeg,ext_getElem? → aej,mem_of_head? → aek,cons_append → aem,countP_cons → aeo,append_inj' → aep,zipIdx_cons → aeq,map_reverse → aes,foldl → aet,foldl_cons → aeu,zipIdx_nil → aew,range_succ → aex,find?_some → aey
open Nat renaming le_refl → aa3,zero_le → aa6,lt_of_succ_lt → aag,lt_of_lt_of_le → aam,ne_of_lt → aao,le_trans → aau,le_add_right → aay,ne_of_gt → ab9,lt_irrefl → abe,eq_zero_or_pos → abl,le_of_lt → abq,lt_succ_of_lt → aci,le_succ_of_le → acj,sub_zero → ack,zero_add → acm,add_lt_add_left → acq,lt_of_le_of_lt → acu,add_sub_cancel → acw,sub_self → acx,le_succ → ad1,not_lt_zero → adb,add_comm → adt,lt_trans → adu,lt_or_ge → aeh,le_of_not_lt → ael,lt_succ_self → aer,min_eq_left → aev
open Option.some renaming inj → aa4,injEq → adp
open And renaming intro → aaj
open Bool renaming false_ne_true → aak,false_eq_true → abb,and_eq_true → ac8,eq_iff_iff → ad5,or_false → adm,or_true → adw,or_eq_true → ae0,true_or → aee,noConfusion → aen
open Int renaming emod_nonneg → aas,toNat → ab0,le_refl → abg,emod_lt_of_pos → ac1,toNat_natCast → acg
open Or renaming inl → aaz,inr → ab4
open Iff renaming rfl → abh
open List.cons renaming inj → abi,injEq → ace
open Array renaming getElem?_eq_getElem → abk,length_toList → abx,getD_eq_getD_getElem? → acn,getElem?_toList → ad3,getElem?_eq_none → ae3,toArray_toList → aeb,forIn_toList → aef
open Exists renaming intro → ac9
open Option renaming isSome_some → acv,map_some → ad8,isSome_none → adj,isSome_map → ado,getD_none → ads
open List.Perm renaming refl → acz
open List.Pairwise renaming nil → aei
local macro_rules | `(tactic| omega)=>`(tactic| first | lia | omega +splitNatSub)
namespace L2
open PySem PySem.Spec PyProof.Rows
abbrev Key:=Sum Int Str
noncomputable def za:Key→Value→Bool
 | .inl k,v=>Value.isInt k v
 | .inr x,v=>Value.isStrOf x v
noncomputable def keyH (w:World):Key→Int
 | .inl k=>hashInt k
 | .inr x=>hashStr w x
theorem cn:∀{k:Key} {v:Value},za k v=true→(∃i t,k=Sum.inl i∧v=Value.int i t)∨(∃x t,k=Sum.inr x∧v=Value.str x t)
 | .inl i,v,h=>by
  obtain ⟨t,e⟩:=Value.isInt_shape (k:=i) (v:=v) h;exact .inl ⟨i,t,rfl,e⟩
 | .inr x,v,h=>by
  obtain ⟨t,e⟩:=Value.isStrOf_shape (x:=x) (v:=v) h;exact .inr ⟨x,t,rfl,e⟩
theorem Hl (i:Int) (t:Tok):za (.inl i) (.int i t)=true:=by simp[za,Value.isInt]
theorem Hy (x:Str) (t:Tok):za (.inr x) (.str x t)=true:=by simp[za,Value.isStrOf]
theorem key_ll (a b:Int):decide ((Sum.inl a:Key)=Sum.inl b)=(a==b):=by
 by_cases e:a=b
 ·subst e;simp
 ·have h:¬(Sum.inl a:Key)=Sum.inl b:=λq=>e (Sum.inl.inj q);rw[decide_eq_false h];exact (beq_eq_false_iff_ne.mpr e).symm
theorem key_rr (a b:Str):decide ((Sum.inr a:Key)=Sum.inr b)=decide (a=b):=by
 by_cases e:a=b
 ·subst e;simp
 ·have h:¬(Sum.inr a:Key)=Sum.inr b:=λq=>e (Sum.inr.inj q);rw[decide_eq_false h,decide_eq_false e]
theorem key_lr (a:Int) (b:Str):decide ((Sum.inl a:Key)=Sum.inr b)=false:=decide_eq_false (λq=>nomatch q)
theorem key_rl (a:Str) (b:Int):decide ((Sum.inr a:Key)=Sum.inl b)=false:=decide_eq_false (λq=>nomatch q)
noncomputable def bg (prog:Program) (w:World):PySem.KeyKind prog w Key where
 is:=za
 hash:=keyH w
 inj:=λv a b ha hb=>by
  rcases cn ha with ⟨i,t,rfl,rfl⟩ | ⟨x,t,rfl,rfl⟩
  ·rcases cn hb with ⟨j,u,rfl,e⟩ | ⟨y,u,rfl,e⟩
   ·injection e with e1 _;rw[e1]
   ·exact nomatch e
  ·rcases cn hb with ⟨j,u,rfl,e⟩ | ⟨y,u,rfl,e⟩
   ·exact nomatch e
   ·injection e with e1 _;rw[e1]
 byValue:=λk v h=>by
  rcases cn h with ⟨i,t,rfl,rfl⟩ | ⟨x,t,rfl,rfl⟩ <;> rfl
 pyHash:=λhv h=>by
  rcases cn hv with ⟨i,t,rfl,rfl⟩ | ⟨x,t,rfl,rfl⟩
  ·exact wpAny_pyHash_int h
  ·exact wpAny_pyHash_str h
 eqBool:=λhu hv h=>by
  rcases cn hu with ⟨i,t,rfl,rfl⟩ | ⟨x,t,rfl,rfl⟩
  ·rcases cn hv with ⟨j,u,rfl,rfl⟩ | ⟨y,u,rfl,rfl⟩
   ·rw[key_ll] at h;exact wpAny_eqBool_int h
   ·rw[key_lr] at h;exact SeqAt.EqAt.int_str i t y u _ _ _ _ h
  ·rcases cn hv with ⟨j,u,rfl,rfl⟩ | ⟨y,u,rfl,rfl⟩
   ·rw[key_rl] at h;exact SeqAt.EqAt.str_int x t j u _ _ _ _ h
   ·rw[key_rr] at h;exact wpAny_eqBool_str h
 «strs»:=λk x t v h=>by
  rcases cn h with ⟨i,u,rfl,e⟩ | ⟨y,u,rfl,e⟩
  ·exact nomatch e
  ·injection e with e1 _
   subst e1;cases v <;> rfl
theorem Bz (prog:Program) (w:World) (i:Int) (t:Tok):(bg prog w).is (.inl i) (.int i t)=true:=Hl i t
theorem kh (prog:Program) (w:World) (x:Str) (t:Tok):(bg prog w).is (.inr x) (.str x t)=true:=Hy x t
inductive V where
 | non | bl (b:Bool) | int (i:Int) | str (x:Str) | byt (b:Array UInt8) | flt (b:UInt64) | ref (a:Addr) | ty (n:String)
 deriving DecidableEq
def RelV:V→Value→Prop
 | .non,u=>u=Value.none
 | .bl b,u=>u=Value.bool b
 | .int i,u=>∃t,u=Value.int i t
 | .str x,u=>∃t,u=Value.str x t
 | .byt b,u=>∃t,u=Value.bytes b t
 | .flt b,u=>∃t,u=Value.float b t
 | .ref a,u=>u=Value.ref a
 | .ty n,u=>u=Value.type n
abbrev Vals:List V→List Value→Prop:=Paired RelV
theorem Vals.length {xs:List V} {us:List Value} (r:Vals xs us):xs.length=us.length:=Paired.length r
theorem Vals.get:∀{xs:List V} {us:List Value} {i:Nat} {x:V},Vals xs us→xs[i]?=some x→∃u,us[i]?=some u∧RelV x u
 | _,_,_,_,.nil,e=>by simp at e
 | _,_,0,_,.cons r _,e=>by simp at e;subst e;exact ⟨_,rfl,r⟩
 | _,_,i+1,x,.cons _ t,e=>by
  obtain ⟨u,h1,h2⟩:=Vals.get (i:=i) (x:=x) t (by simpa using e);exact ⟨u,by simpa using h1,h2⟩
theorem Vals.set {x:V} {u:Value} (r:RelV x u):∀{xs:List V} {us:List Value} (i:Nat),Vals xs us→Vals (xs.set i x) (us.set i u)
 | _,_,_,.nil=>.nil
 | _,_,0,.cons _ t=>.cons r t
 | _,_,i+1,.cons q t=>.cons q (Vals.set r i t)
theorem Vals.append:∀{xs ys:List V} {us ws:List Value},Vals xs us→Vals ys ws→Vals (xs++ys) (us++ws)
 | _,_,_,_,.nil,s=>s
 | _,_,_,_,.cons r t,s=>.cons r (Vals.append t s)
theorem Vals.take:∀{xs:List V} {us:List Value} (n:Nat),Vals xs us→Vals (xs.take n) (us.take n)
 | _,_,0,_=>.nil
 | _,_,_+1,.nil=>.nil
 | _,_,n+1,.cons r t=>.cons r (Vals.take n t)
theorem Vals.drop:∀{xs:List V} {us:List Value} (n:Nat),Vals xs us→Vals (xs.drop n) (us.drop n)
 | _,_,0,r=>r
 | _,_,_+1,.nil=>.nil
 | _,_,n+1,.cons _ t=>Vals.drop n t
def nu:Option V→Option Value→Prop
 | some v,some u=>RelV v u
 | none,none=>True
 | _,_=>False
def KV {κ:Type}:List (κ×V)→List (κ×Value)→Prop:=Paired λ(p:κ×V) (q:κ×Value)=>p.1=q.1∧RelV p.2 q.2
noncomputable def kV:Key→V
 | .inl i=>.int i
 | .inr x=>.str x
inductive HO where
  | lst (xs:List V)
  | tup (xs:List V)
  | dK (kvs:List (Key×V)) | dT (kvs:List (List Key×V))
  | set (S:Int→Bool) (n:Nat)
  | ins (C dx:Addr) (fs:List (Str×V))
  | own (x:Addr)
  | xd (fs:List (Str×V))
  | met (f x:Addr)
  | rng (lo hi:Int)
  | frz (o:Obj) (u:HO)
  | tbl (ps:Array Value)
  | ext (φ:Heap→Prop)
abbrev Hp:=Addr→Option HO
noncomputable def upd (H:Hp) (a:Addr) (o:HO):Hp:=λb=>if b=a then some o else H b
theorem ae {H:Hp} {a:Addr} {o:HO}:upd H a o a=some o:=by unfold upd;rw[if_pos rfl]
theorem ah {H:Hp} {a b:Addr} {o:HO} (h:b≠a):upd H a o b=H b:=by unfold upd;rw[if_neg h]
theorem gq {H:Hp} {a b:Addr} {o u:HO} (h:H a=some o) (h':H b=some u) (d:o≠u):a≠b:=by
 intro e;subst e;rw[h] at h';exact d (aa4 h')
theorem af {H:Hp} {a b:Addr} {o:HO} (h:H a=some o) (h':H b=none):a≠b:=by
 intro e;subst e;rw[h] at h';cases h'
section
variable (P:Program) (w:World)
def Dx (h:Heap) (a:Addr) (its:Array Value):Prop:=∃o,h.get? a=some o∧o.cls=.type "tuple"∧∃n,o.data=.seq its n∧o.dict=none
theorem Dx.tup {h:Heap} {a:Addr} {its:Array Value} (x:Dx h a its):IsTup h a its:=let ⟨o,h1,h2,n,h3,_⟩:=x;⟨o,h1,h2,n,h3⟩
def cf (H:Hp) (h:Heap) (a:Addr):HO→Prop
 | .lst xs=>xs.length≤sizeLine∧∃(its:List Value) (n:Nat),Vals xs its∧h.get? a=some { cls:=.type "list",data:=.seq its.toArray n }
 | .tup xs=>xs.length≤sizeLine∧∃its:List Value,Vals xs its∧Dx h a its.toArray
 | .dK kvs=>kvs.length≤sizeLine∧(a==sysModules)=false∧∃vs,KV kvs vs∧h.DictOf (bg P w) a vs
 | .dT kvs=>kvs.length≤sizeLine∧(a==sysModules)=false∧∃xs:List (List Key×Addr×Value),
   Paired (λ(p:List Key×V) (q:List Key×Addr×Value)=>p.1=q.1∧H q.2.1=some (.tup (p.1.map kV))∧RelV p.2 q.2.2) kvs xs∧
   ∃o es ep,h.get? a=some o∧o.ExactDict∧o.data=.dict es ep∧es.toList=xs.map (entryOfKey (tupleKind (bg P w)))∧(xs.map (·.1)).Nodup
 | .set S n=>h.SetOf (intKind P w) a S n
 | .ins C dx fs=>H dx=some (.own a)∧fs.length≤1000∧dx≠a∧h.get? a=some (PySem.W.instObj C dx)∧
   ∃mA,h.Ns1 dx mA∧(∀f,nu (fs.lookup f) (mA f))∧PySem.Within mA (fs.map (·.1))
 | .own _=>∃o,h.get? a=some o
 | .xd fs=>∃mA,h.Ns1 a mA∧∀f,nu (fs.lookup f) (mA f)
 | .rng lo hi=>∃t u v,h.get? a=some { cls:=.type "range",data:=.fields #[.int lo t,.int hi u,.int 1 v] }
 | .frz o u=>h.get? a=some o∧cf H h a u
 | .tbl ps=>h.get? a=some { cls:=.none,data:=.fields ps }
 | .met f x=>h.get? a=some (PySem.W.methodObj (.ref f) (.ref x))
 | .ext φ=>φ h∧(∃o,h.get? a=some o)∧∀h1 h2:Heap,φ h1→(∀o,h1.get? a=some o→h2.get? a=some o)→φ h2
def HOk (H:Hp) (h:Heap):Prop:=∀a o,H a=some o→cf P w H h a o
end
section
variable {P:Program} {w:World} {H H':Hp} {h h':Heap} {a:Addr} {o:HO}
theorem cf.lt (x:cf P w H h a o):a < h.objs.size:=by
 cases o with
 | lst xs=>obtain ⟨_,_,_,_,e⟩:=x;exact Heap.lt_size e
 | tup xs=>obtain ⟨_,_,_,p⟩:=x;exact p.tup.lt
 | dK kvs=>obtain ⟨_,_,_,_,o,_,_,e,_⟩:=x;exact Heap.lt_size e
 | dT kvs=>obtain ⟨_,_,_,_,o,_,_,e,_⟩:=x;exact Heap.lt_size e
 | set S n=>obtain ⟨o,_,_,_,e,_⟩:=x;exact Heap.lt_size e
 | ins C dx fs=>obtain ⟨_,_,_,e,_⟩:=x;exact Heap.lt_size e
 | own y=>obtain ⟨_,e⟩:=x;exact Heap.lt_size e
 | xd fs=>obtain ⟨_,⟨_,_,_,e,_⟩,_⟩:=x;exact Heap.lt_size e
 | rng lo hi=>obtain ⟨_,_,_,e⟩:=x;exact Heap.lt_size e
 | frz ob u=>obtain ⟨e,_⟩:=x;exact Heap.lt_size e
 | tbl ps=>exact Heap.lt_size (show h.get? a=some _ from x)
 | met f y=>exact Heap.lt_size (show h.get? a=some _ from x)
 | ext φ=>obtain ⟨_,⟨_,e⟩,_⟩:=x;exact Heap.lt_size e
theorem Paired.mapP {α β:Type} {F G:α→β→Prop}:∀{l₁:List α} {l₂:List β},Paired F l₁ l₂→(∀a b,F a b→G a b)→Paired G l₁ l₂
 | _,_,.nil,_=>.nil
 | _,_,.cons r t,f=>.cons (f _ _ r) (Paired.mapP t f)
theorem cf.Cy (x:cf P w H h a o) (k:∀b u,(b=a∨H b=some (.own a))→h.get? b=some u→h'.get? b=some u)
  (ho:∀b,H b=some (.own a)→H' b=some (.own a)) (ht:∀b xs,H b=some (.tup xs)→H' b=some (.tup xs)):cf P w H' h' a o:=by
 induction o with
 | lst xs=>obtain ⟨z,its,n,r,e⟩:=x;exact ⟨z,its,n,r,k _ _ (.inl rfl) e⟩
 | tup xs=>obtain ⟨z,its,r,ob,e,c⟩:=x;exact ⟨z,its,r,ob,k _ _ (.inl rfl) e,c⟩
 | dK kvs=>obtain ⟨z,y,vs,r,ob,es,ep,e,c⟩:=x;exact ⟨z,y,vs,r,ob,es,ep,k _ _ (.inl rfl) e,c⟩
 | dT kvs=>
  obtain ⟨z,y,xs,r,ob,es,ep,e,c⟩:=x;exact ⟨z,y,xs,Paired.mapP r λp q z=>⟨z.1,ht _ _ z.2.1,z.2.2⟩,ob,es,ep,k _ _ (.inl rfl) e,c⟩
 | set S n=>obtain ⟨ob,es,ep,t,e,c⟩:=x;exact ⟨ob,es,ep,t,k _ _ (.inl rfl) e,c⟩
 | ins C dx fs=>
  obtain ⟨d,z,ne,e,mA,⟨od,es,ep,e2,c⟩,r⟩:=x;exact ⟨ho _ d,z,ne,k _ _ (.inl rfl) e,mA,⟨od,es,ep,k _ _ (.inr d) e2,c⟩,r⟩
 | own y=>obtain ⟨ob,e⟩:=x;exact ⟨ob,k _ _ (.inl rfl) e⟩
 | xd fs=>obtain ⟨mA,⟨od,es,ep,e,c⟩,r⟩:=x;exact ⟨mA,⟨od,es,ep,k _ _ (.inl rfl) e,c⟩,r⟩
 | rng lo hi=>obtain ⟨t,u,v,e⟩:=x;exact ⟨t,u,v,k _ _ (.inl rfl) e⟩
 | frz ob u ih=>obtain ⟨e,q⟩:=x;exact ⟨k _ _ (.inl rfl) e,ih q⟩
 | tbl ps=>
  have e:h.get? a=some { cls:=.none,data:=.fields ps }:=x;show h'.get? a=some { cls:=.none,data:=.fields ps }
  exact k a _ (.inl rfl) e
 | met f y=>
  have e:h.get? a=some (PySem.W.methodObj (.ref f) (.ref y)):=x;show h'.get? a=some (PySem.W.methodObj (.ref f) (.ref y))
  exact k a _ (.inl rfl) e
 | ext φ=>obtain ⟨p,⟨o,e⟩,st⟩:=x;exact ⟨st _ _ p λo q=>k _ _ (.inl rfl) q,⟨o,k _ _ (.inl rfl) e⟩,st⟩
theorem HOk.lt (x:HOk P w H h) (e:H a=some o):a < h.objs.size:=(x a o e).lt
theorem tup_rd {xs:List V} (x:HOk P w H h) (e:H a=some (.tup xs)):xs.length≤sizeLine∧∃its:List Value,Vals xs its∧IsTup h a its.toArray:=
 let ⟨z,its,r,p⟩:=x a _ e
 ⟨z,its,r,p.tup⟩
theorem HOk.fresh (x:HOk P w H h) (e:h.objs.size≤a):H a=none:=by
 cases q:H a with
 | none=>rfl
 | some u=>exact absurd (aam (x.lt q) e) (abe _)
theorem HOk.kept (x:HOk P w H h) (k:∀b u,h.get? b=some u→h'.get? b=some u):HOk P w H h':=λa o e=>
 (x a o e).Cy (λb u _ q=>k b u q) (λ_ q=>q) λ_ _ q=>q
theorem HOk.laid (x:HOk P w H h) (k:∀b u,h.get? b=some u→h'.get? b=some u) (hp:h.objs.size≤a) (new:cf P w (upd H a o) h' a o):HOk P w (upd H a o) h':=λb u e=>by
 have hn:=x.fresh hp;by_cases hb:b=a
 ·subst hb;rw[ae] at e;cases e;exact new
 ·rw[ah hb] at e;exact (x b u e).Cy (λc v _ q=>k c v q) (λc q=>by rw[ah (af q hn)];exact q) λc xs q=>by rw[ah (af q hn)];exact q
end
def Rd (H:Hp) (a:Addr) (u:HO):Prop:=H a=some u∨∃o,H a=some (.frz o u)
theorem Rd.ok {P:Program} {w:World} {H:Hp} {h:Heap} {a:Addr} {u:HO} (r:Rd H a u) (x:HOk P w H h):cf P w H h a u:=by
 rcases r with r | ⟨o,r⟩
 ·exact x a u r
 ·obtain ⟨_,q⟩:=x a _ r;exact q
def Mut:Option HO→Prop
 | some (.lst _)=>True
 | some (.dK _)=>True
 | some (.dT _)=>True
 | some (.set _ _)=>True
 | some (.ins _ _ _)=>True
 | some (.ext _)=>True
 | _=>False
section
variable {P:Program} {w:World} {H:Hp} {h h':Heap} {x e:Addr} {o':HO}
theorem HOk.write (ok:HOk P w H h) (mu:Mut (H x)) (he:e=x∨H e=some (.own x)) (k:∀b u,b≠e→h.get? b=some u→h'.get? b=some u) (heo:∃u,h'.get? e=some u)
  (new:cf P w (upd H x o') h' x o'):HOk P w (upd H x o') h':=λb u q=>by
 have nown:∀c y,H c=some (.own y)→c≠x:=λc y r z=>by subst z;rw[r] at mu;exact mu
 have ntup:∀c xs,H c=some (.tup xs)→c≠x:=λc xs r z=>by subst z;rw[r] at mu;exact mu
 by_cases hb:b=x
 ·subst hb;rw[ae] at q;cases q;exact new
 ·rw[ah hb] at q;by_cases hbe:b=e
  ·have q':H b=some (.own x):=by
    rcases he with z | z
    ·exact absurd (hbe.trans z) hb
    ·rw[hbe];exact z
   rw[q] at q';cases q';obtain ⟨v,hv⟩:=heo;exact ⟨v,by rw[hbe];exact hv⟩
  ·refine (ok b u q).Cy (λc v hc r=>k c v ?_ r) (λc r=>by rw[ah (nown c b r)];exact r) λc xs r=>by rw[ah (ntup c xs r)];exact r
   rcases hc with rfl | hc
   ·exact hbe
   ·rintro rfl;rcases he with z | z
    ·exact nown c b hc z
    ·rw[hc] at z;cases z;exact hb rfl
end
structure Un (fs ex:List Addr) (H H':Hp) (h h':Heap):Prop where
 keep:∀b o,h.get? b=some o→H b=none→b∉fs→b∉ex→h'.get? b=some o
 slot:∀b o,h.get? b=some o→H b=none→b∈fs→b∉ex→∃sl,h'.get? b=some { o with slots:=sl }
 free:∀b o,h.get? b=some o→H b=none→b∉ex→H' b=none
 there:∀b o,h.get? b=some o→b∉ex→∃o',h'.get? b=some o'
 tups:∀b xs,H b=some (.tup xs)→H' b=some (.tup xs)
 frzs:∀b o u,H b=some (.frz o u)→H' b=some (.frz o u)
 tbls:∀b ps,H b=some (.tbl ps)→∃more,H' b=some (.tbl (ps++more))
section
variable {fs fs' ex ex':List Addr} {H H1 H2:Hp} {h h1 h2 h':Heap} {a x e:Addr} {o:HO}
theorem Un.any (u:Un fs ex H H1 h h1) {b:Addr} {ob:Obj} (q:h.get? b=some ob) (n:H b=none) (hx:b∉ex):∃sl,h1.get? b=some { ob with slots:=sl }:=by
 by_cases hb:b∈fs
 ·exact u.slot b ob q n hb hx
 ·exact ⟨ob.slots,u.keep b ob q n hb hx⟩
theorem Un.kept (k:∀b u,h.get? b=some u→h'.get? b=some u):Un fs ex H H h h':=
 ⟨λb ob q _ _ _=>k b ob q,λb ob q _ _ _=>⟨ob.slots,k b ob q⟩,λ_ _ _ n _=>n,λb ob q _=>⟨ob,k b ob q⟩,λ_ _ q=>q,λ_ _ _ q=>q,λ_ ps q=>⟨#[],by rw[q];simp⟩⟩
theorem Un.refl:Un fs ex H H h h:=Un.kept λ_ _ q=>q
theorem Un.laid (k:∀b u,h.get? b=some u→h'.get? b=some u) (hp:h.objs.size≤a) (hn:H a=none):Un fs ex H (upd H a o) h h' where
 keep:=λb u q _ _ _=>k b u q
 slot:=λb u q _ _ _=>⟨u.slots,k b u q⟩
 free:=λb u q n _=>by rw[ah (aao (aam (Heap.lt_size q) hp))];exact n
 there:=λb u q _=>⟨u,k b u q⟩
 tups:=λb xs q=>by rw[ah (af q hn)];exact q
 frzs:=λb u xs q=>by rw[ah (af q hn)];exact q
 tbls:=λb ps q=>⟨#[],by rw[ah (af q hn),q];simp⟩
theorem Un.write (mu:Mut (H x)) (he:e=x∨H e=some (.own x)) (k:∀b u,b≠e→h.get? b=some u→h'.get? b=some u) (heo:∃u,h'.get? e=some u):Un fs ex H (upd H x o) h h':=by
 have hx:∀b,H b=none→b≠x:=λb n z=>by subst z;rw[n] at mu;exact mu
 have hb:∀b,H b=none→b≠e:=λb n z=>by
  subst z;rcases he with r | r
  ·exact hx b n r
  ·rw[n] at r;cases r
 have hm:∀b u,H b=some u→¬Mut (some u)→b≠x:=λb u q nm z=>by subst z;rw[q] at mu;exact nm mu
 refine ⟨λb u q n _ _=>k b u (hb b n) q,λb u q n _ _=>⟨u.slots,k b u (hb b n) q⟩,λb u q n _=>by rw[ah (hx b n)];exact n,λb u q _=>?_,
  λb xs q=>by rw[ah (hm b _ q λz=>z)];exact q,λb u xs q=>by rw[ah (hm b _ q λz=>z)];exact q,λb ps q=>⟨#[],by rw[ah (hm b _ q λz=>z),q];simp⟩⟩
 by_cases hbe:b=e
 ·subst hbe;exact heo
 ·exact ⟨u,k b u hbe q⟩
end
noncomputable def trk (h:Heap) (H:Hp):List Addr:=(aax h.objs.size).filter λa=>(H a).isSome
noncomputable def Ao (h:Heap) (H:Hp):Heap:=PySem.W.hideAll h (trk h H)
theorem Ip (h:Heap) (H:Hp):(Ao h H).objs.size=h.objs.size:=PySem.W.hideAll_size _ _
theorem Lk {h:Heap} {H:Hp} {b:Addr} {o:Obj} (e:h.get? b=some o) (n:H b=none):(Ao h H).get? b=some o:=
 PySem.W.hideAll_get _ e λhm=>by
  have q:(H b).isSome=true:=(List.mem_filter.mp hm).2;rw[n] at q;simp at q
theorem Qb {h:Heap} {H:Hp} {b:Addr} {o:Obj} (e:(Ao h H).get? b=some o):h.get? b=some o∧H b=none:=by
 have e':h.get? b=some o:=PySem.W.of_hideAll (trk h H) e;refine ⟨e',?_⟩;cases q:H b with
 | none=>rfl
 | some x=>
  have hm:b∈trk h H:=List.mem_filter.mpr ⟨List.mem_range.mpr (Heap.lt_size e'),by simp[q]⟩;have z:(Ao h H).get? b=none:=PySem.W.hideAll_none (trk h H) hm;rw[z] at e;cases e
noncomputable def Pl (g h:Heap) (L:Addr):List (Addr×Obj):=(aax h.objs.size).filterMap λa=>if a=L∨(g.get? a).isSome=true then none else (h.get? a).map λo=>(a,o)
noncomputable def rest (g h:Heap) (L d:Addr):List (Addr×Obj):=(Pl g h L).filter λp=>decide (p.1≠d)
structure Mod (K:PySem.W.Frag) (mg:Str→Option Value) (base:Heap):Prop where
 kin:K.In base
 glob:base.Ns mainGlobals mg
 blt:∃mb,base.Ns builtinsNs mb∧∀x:Str,x≠"__name__"→mb x=bootBuiltins x
 nolimit:base.NoLimit
structure Cx where
 prog:Program
 w:World
 K:PySem.W.Frag
 mg:Str→Option Value
 base:Heap
 A:Around
 N:List Str
 s₀:Shared
 H₀:Hp
 env:Env
 outer:List Env
 stack:List Env
 ex:List Addr
 fn:Str→Bool
 calm:Bool
 pn:List (Addr×Obj)
 xe:Value→Shared→Prop
noncomputable def frs (l:List Env):List Addr:=l.filterMap (·.frame)
noncomputable abbrev Cx.fs (X:Cx):List Addr:=frs X.outer
def Vis (sc:Scope) (x:Str):Prop:=sc.names.lookup x=some .local∨sc.names.lookup x=some .cell∨sc.names.lookup x=some .free
def Loc (sc:Scope) (x:Str):Prop:=sc.names.lookup x=some .local∨sc.names.lookup x=some .cell
def Look (env:Env) (h:Heap) (m:Str→Option Value) (x:Str) (u:Value):Prop:=
 (env.kindOf x=some .local∧m x=some u)∨((env.kindOf x=some .cell∨env.kindOf x=some .free)∧∃c,env.cells.lookup x=some c∧h.IsCell c (some u))
structure Cx.Ok (X:Cx):Prop where
 mod:Mod X.K X.mg X.base
 kind:X.env.scope.kind=.function
 glob:X.env.globals=mainGlobals
 blt:X.env.builtins=builtinsNs
 above:X.s₀.heap.objs.size≤X.env.locals
 inj:∀x y c,X.env.cells.lookup x=some c→X.env.cells.lookup y=some c→x=y
 has:∀x,(X.env.kindOf x=some .cell∨X.env.kindOf x=some .free)→∃c,X.env.cells.lookup x=some c
 cab:∀x c,X.fn x=true→X.env.cells.lookup x=some c→X.s₀.heap.objs.size≤c
 hd:X.calm=true→X.A.handled=none
 frames:X.A.frames=some X.stack
 stk:X.stack=X.outer∨(X.stack=X.env::X.outer∧X.env.frame=some X.env.locals)
 exf:∀b∈X.ex,b≠X.env.locals∧∀x c,X.env.cells.lookup x=some c→c≠b
 bs:∀b o,X.base.get? b=some o→X.s₀.heap.get? b=some o∧X.H₀ b=none
 bsz:X.base.objs.size≤X.s₀.heap.objs.size
 noex:∀b o,X.base.get? b=some o→b∉X.ex
 exfs:∀b∈X.ex,b∉X.fs
 qr:X.s₀.heap.FunFrames X.base X.outer
 frf:∀b∈X.fs,X.H₀ b=none
structure Inv (X:Cx) (pins:List (Addr×Obj)) (σ:List (Option V)) (H:Hp) (s:Shared):Prop where
 ok:X.Ok
 os:s.os=X.s₀.os
 bare:AllBare s.gens
 base:Un X.fs X.ex X.H₀ H X.s₀.heap s.heap
 loc:∃m,s.heap.Ns X.env.locals m∧∀(i:Nat) (x:Str) (v:V),X.N[i]?=some x→σ[i]?=some (some v)→Vis X.env.scope x→∃u,RelV v u∧Look X.env s.heap m x u
 cell:∀x c,X.env.cells.lookup x=some c→∃v,s.heap.IsCell c v
 free:H X.env.locals=none
 freeC:∀x c,X.env.cells.lookup x=some c→H c=none
 pin:∀p∈X.pn++pins,s.heap.get? p.1=some p.2∧H p.1=none∧p.1≠X.env.locals∧p.1∉X.fs∧∀v,p.2.data≠.cell v
 hok:HOk X.prog X.w H s.heap
 len:σ.length=X.N.length
section
variable {X:Cx} {pins:List (Addr×Obj)} {σ:List (Option V)} {H H':Hp} {s:Shared} {h':Heap}
theorem Cx.Ok.nofr (ok:X.Ok) {b:Addr} {o:Obj} (e:X.base.get? b=some o):b∉X.fs:=λhb=>by
 have:=(ok.qr.mem hb).1;rw[e] at this;cases this
theorem Inv.bs (I:Inv X pins σ H s):∀b o,X.base.get? b=some o→s.heap.get? b=some o∧H b=none:=λb o e=>
 ⟨I.base.keep b o (I.ok.bs b o e).1 (I.ok.bs b o e).2 (I.ok.nofr e) (I.ok.noex b o e),I.base.free b o (I.ok.bs b o e).1 (I.ok.bs b o e).2 (I.ok.noex b o e)⟩
theorem Inv.bk (I:Inv X pins σ H s):∀b o,X.base.get? b=some o→s.heap.get? b=some o:=λb o e=>(I.bs b o e).1
theorem Inv.mod (I:Inv X pins σ H s):Mod X.K X.mg X.base:=I.ok.mod
theorem Inv.kIn (I:Inv X pins σ H s):X.K.In s.heap:=I.ok.mod.kin.keeps I.bk
theorem Inv.lt (I:Inv X pins σ H s):X.env.locals < s.heap.objs.size:=let ⟨_,hn,_⟩:=I.loc;hn.lt
theorem Inv.sz (I:Inv X pins σ H s):X.s₀.heap.objs.size≤s.heap.objs.size:=aau I.ok.above (abq I.lt)
theorem Inv.nofs (I:Inv X pins σ H s) {a:Addr} (h:s.heap.objs.size≤a):a∉X.fs:=λhb=>by
 obtain ⟨_,o,ho,_⟩:=I.ok.qr.mem hb;exact absurd (aam (Heap.lt_size ho) (aau I.sz h)) (abe _)
theorem Inv.cne (I:Inv X pins σ H s):∀x c,X.env.cells.lookup x=some c→c≠X.env.locals:=λx c e z=>by
 obtain ⟨v,o,ho,hd⟩:=I.cell x c e;obtain ⟨m,⟨o',es,ep,ho',hd',_⟩,_⟩:=I.loc;rw[z,ho'] at ho;cases ho;rw[hd'] at hd;cases hd
theorem Inv.qr (I:Inv X pins σ H s):s.heap.FunFrames X.base X.outer:=by
 have all:∀(l:List Env),(∀b∈frs l,b∈X.fs)→X.s₀.heap.FunFrames X.base l→s.heap.FunFrames X.base l:=by
  intro l;induction l with
  | nil=>intro _ _;trivial
  | cons env r ih=>
   intro hs hl;obtain ⟨hk,⟨L,o,hf,hn,ho,hd⟩,hr⟩:=hl;have hL:L∈X.fs:=hs L (by unfold frs;rw[abw,hf];exact aa7);obtain ⟨sl,e⟩:=I.base.slot L o ho (I.ok.frf L hL) hL λz=>I.ok.exfs L z hL;exact ⟨hk,⟨L,_,hf,hn,e,hd⟩,ih (λb hb=>hs b (by unfold frs;rw[abw,hf];exact aab _ hb)) hr⟩
 exact all X.outer (λ_ hb=>hb) I.ok.qr
theorem Inv.stack (I:Inv X pins σ H s):s.heap.FunFrames X.base X.stack:=by
 rcases I.ok.stk with e | ⟨e,hf⟩
 ·rw[e];exact I.qr
 ·rw[e];obtain ⟨m,hn,_⟩:=I.loc;refine .cons (by rw[I.ok.kind];decide) hf hn ?_ I.qr;exact Heap.get?_none_of_le (aau I.ok.bsz I.ok.above)
theorem Inv.Ew (I:Inv X pins σ H s):∀b∈frs X.stack,b∈X.env.locals::X.fs:=λb hb=>by
 rcases I.ok.stk with e | ⟨e,hf⟩
 ·rw[e] at hb;exact aab _ hb
 ·rw[e] at hb;unfold frs at hb;rw[abw,hf] at hb;exact hb
theorem Inv.Af (I:Inv X pins σ H s):∀b∈frs X.stack,H b=none:=λb hb=>by
 rcases List.mem_cons.mp (I.Ew b hb) with e | hb
 ·rw[e];exact I.free
 ·obtain ⟨_,o,ho,_⟩:=I.ok.qr.mem hb;exact I.base.free b o ho (I.ok.frf b hb) λz=>I.ok.exfs b z hb
theorem Inv.step {g':Array GenState} {t':Nat} {d':Drawn} {ch:List Addr} (I:Inv X pins σ H s)
  (hch:∀b∈ch,(b∈X.ex∨X.s₀.heap.objs.size≤b)∧b≠X.env.locals∧(∀x c,X.env.cells.lookup x=some c→c≠b)∧∀p∈X.pn++pins,p.1≠b)
  (keep:∀b o,b≠X.env.locals→b∉X.fs→b∉ch→s.heap.get? b=some o→H b=none→h'.get? b=some o)
  (slot:∀b o,b≠X.env.locals→b∈X.fs→b∉ch→s.heap.get? b=some o→H b=none→∃sl,h'.get? b=some { o with slots:=sl }) (free:∀b o,b∉ch→s.heap.get? b=some o→H b=none→H' b=none)
  (there:∀b o,b∉ch→s.heap.get? b=some o→∃o',h'.get? b=some o')
  (tups:∀b xs,H b=some (.tup xs)→H' b=some (.tup xs)) (frzs:∀b o u,H b=some (.frz o u)→H' b=some (.frz o u)) (tbls:∀b ps,H b=some (.tbl ps)→∃more,H' b=some (.tbl (ps++more)))
  (ns:∀m,s.heap.Ns X.env.locals m→h'.Ns X.env.locals m) (hok:HOk X.prog X.w H' h') (hg:AllBare g'):
  Inv X pins σ H' { s with heap:=h',gens:=g',drawn:=d',toks:=t' }:=by
 have neL:∀b o,X.s₀.heap.get? b=some o→b≠X.env.locals:=λb o e=>aao (aam (Heap.lt_size e) I.ok.above);have neC:∀b o,X.s₀.heap.get? b=some o→b∉X.ex→b∉ch:=λb o e hx hb=>by
  rcases (hch b hb).1 with z | z
  ·exact hx z
  ·exact absurd (aam (Heap.lt_size e) z) (abe _)
 have cellK:∀x c,X.env.cells.lookup x=some c→∀v,s.heap.IsCell c v→h'.IsCell c v:=λx c e v ⟨o,ho,hd⟩=>by
  have nch:c∉ch:=λz=>(hch c z).2.2.1 x c e rfl;by_cases hc:c∈X.fs
  ·obtain ⟨sl,q⟩:=slot c o (I.cne x c e) hc nch ho (I.freeC x c e);exact ⟨_,q,hd⟩
  ·exact ⟨o,keep c o (I.cne x c e) hc nch ho (I.freeC x c e),hd⟩
 refine ⟨I.ok,I.os,hg,⟨λb o e n hb hx=>?_,λb o e n hb hx=>?_,λb o e n hx=>?_,λb o e hx=>?_,λb xs e=>tups b xs (I.base.tups b xs e),λb o xs e=>frzs b o xs (I.base.frzs b o xs e),λb ps e=>?_⟩,?_,λx c e=>?_,?_,λx c e=>?_,λp hp=>?_,hok,I.len⟩
 ·exact keep b o (neL b o e) hb (neC b o e hx) (I.base.keep b o e n hb hx) (I.base.free b o e n hx)
 ·obtain ⟨sl,e1⟩:=I.base.slot b o e n hb hx;obtain ⟨sl',e2⟩:=slot b _ (neL b o e) hb (neC b o e hx) e1 (I.base.free b o e n hx);exact ⟨sl',e2⟩
 ·obtain ⟨o',e1⟩:=I.base.there b o e hx;exact free b o' (neC b o e hx) e1 (I.base.free b o e n hx)
 ·obtain ⟨o',e1⟩:=I.base.there b o e hx;exact there b o' (neC b o e hx) e1
 ·obtain ⟨m1,e1⟩:=I.base.tbls b ps e;obtain ⟨m2,e2⟩:=tbls b _ e1;exact ⟨m1++m2,by rw[e2,Array.append_assoc]⟩
 ·obtain ⟨m,hn,hl⟩:=I.loc;refine ⟨m,ns m hn,λi x v e1 e2 e3=>?_⟩;obtain ⟨u,r,l⟩:=hl i x v e1 e2 e3;refine ⟨u,r,?_⟩;rcases l with l | ⟨k,c,e,z⟩
  ·exact .inl l
  ·exact .inr ⟨k,c,e,cellK x c e _ z⟩
 ·obtain ⟨v,z⟩:=I.cell x c e;exact ⟨v,cellK x c e v z⟩
 ·obtain ⟨m,⟨o,_,_,ho,_⟩,_⟩:=I.loc;exact free _ o (λz=>(hch _ z).2.1 rfl) ho I.free
 ·obtain ⟨v,o,ho,hd⟩:=I.cell x c e;exact free c o (λz=>(hch c z).2.2.1 x c e rfl) ho (I.freeC x c e)
 ·obtain ⟨e,n,ne,nf,d⟩:=I.pin p hp;have nch:p.1∉ch:=λz=>(hch p.1 z).2.2.2 p hp rfl;exact ⟨keep p.1 p.2 ne nf nch e n,free p.1 p.2 nch e n,ne,nf,d⟩
theorem Inv.un {t':Nat} (I:Inv X pins σ H s) (u:Un X.fs [] H H' s.heap h') (hok:HOk X.prog X.w H' h'):Inv X pins σ H' { s with heap:=h',toks:=t' }:=by
 obtain ⟨m,⟨o,es,ep,ho,r⟩,_⟩:=id I.loc;obtain ⟨sl,hL⟩:=u.any ho I.free (by simp);exact I.step (g':=s.gens) (d':=s.drawn) (ch:=[]) (λ_ z=>nomatch z) (λb o _ hb _ e n=>u.keep b o e n hb (by simp)) (λb o _ hb _ e n=>u.slot b o e n hb (by simp)) (λb o _ e n=>u.free b o e n (by simp)) (λb o _ e=>u.there b o e (by simp)) u.tups u.frzs u.tbls (λm' hm=>by
  obtain ⟨o',es',ep',ho',r'⟩:=hm;rw[ho] at ho';cases ho';exact ⟨_,es',ep',hL,r'⟩) hok I.bare
theorem Inv.call {g':Array GenState} {t':Nat} {d':Drawn} {ch:List Addr} (I:Inv X pins σ H s) (u:Un (frs X.stack) ch H H' s.heap h') (hok:HOk X.prog X.w H' h') (hg:AllBare g')
  (hch:∀b∈ch,(b∈X.ex∨X.s₀.heap.objs.size≤b)∧b≠X.env.locals∧(∀x c,X.env.cells.lookup x=some c→c≠b)∧∀p∈X.pn++pins,p.1≠b):
  Inv X pins σ H' { s with heap:=h',gens:=g',drawn:=d',toks:=t' }:=by
 obtain ⟨m,⟨o,es,ep,ho,r⟩,_⟩:=id I.loc;obtain ⟨sl,hL⟩:=u.any ho I.free λz=>(hch _ z).2.1 rfl;exact I.step (ch:=ch) hch (λb o hL hb hc e n=>u.keep b o e n (λz=>(List.mem_cons.mp (I.Ew b z)).elim hL hb) hc) (λb o _ _ hc e n=>u.any e n hc) (λb o hc e n=>u.free b o e n hc) (λb o hc e=>u.there b o e hc) u.tups u.frzs u.tbls (λm' hm=>by
  obtain ⟨o',es',ep',ho',r'⟩:=hm;rw[ho] at ho';cases ho';exact ⟨_,es',ep',hL,r'⟩) hok hg
theorem Inv.turned {t':Nat} {it:Addr} (I:Inv X pins σ H s) (k:∀b o,b≠it→s.heap.get? b=some o→h'.get? b=some o) (hn:H it=none) (hL:it≠X.env.locals)
  (h1:it∈X.ex∨X.s₀.heap.objs.size≤it) (h2:∀x c,X.env.cells.lookup x=some c→c≠it) (h3:∀p∈X.pn++pins,p.1≠it):Inv X pins σ H { s with heap:=h',toks:=t' }:=by
 have nit:∀b u,H b=some u→b≠it:=λb u e z=>by rw[z,hn] at e;cases e
 refine I.step (g':=s.gens) (d':=s.drawn) (ch:=[it]) (λb hb=>?_) (λb o _ _ hc e _=>k b o (λz=>hc (by simp[z])) e) (λb o _ _ hc e _=>⟨o.slots,k b o (λz=>hc (by simp[z])) e⟩) (λ_ _ _ _ n=>n)
  (λb o hc e=>⟨o,k b o (λz=>hc (by simp[z])) e⟩) (λ_ _ e=>e) (λ_ _ _ e=>e) (λb ps e=>⟨#[],by rw[e];simp⟩) (λm hm=>?_) (λb u e=>?_) I.bare
 ·have e:b=it:=by simpa using hb
  subst e;exact ⟨h1,hL,h2,h3⟩
 ·obtain ⟨o,es,ep,ho,r⟩:=hm;exact ⟨o,es,ep,k _ o (Ne.symm hL) ho,r⟩
 ·refine (I.hok b u e).Cy (λc v hc q=>k c v ?_ q) (λ_ q=>q) λ_ _ q=>q;rcases hc with z | z
  ·rw[z];exact nit b u e
  ·exact nit c _ z
theorem Inv.tok (I:Inv X pins σ H s) (t:Nat):Inv X pins σ H { s with toks:=t }:=I.un (h':=s.heap) (t':=t) Un.refl I.hok
theorem Inv.kept {t':Nat} (I:Inv X pins σ H s) (k:∀b u,s.heap.get? b=some u→h'.get? b=some u):Inv X pins σ H { s with heap:=h',toks:=t' }:=I.un (Un.kept k) (I.hok.kept k)
theorem Inv.laid {a:Addr} {o:HO} {t':Nat} (I:Inv X pins σ H s) (k:∀b u,s.heap.get? b=some u→h'.get? b=some u) (hp:s.heap.objs.size≤a) (new:cf X.prog X.w (upd H a o) h' a o):
  Inv X pins σ (upd H a o) { s with heap:=h',toks:=t' }:=I.un (Un.laid k hp (I.hok.fresh hp)) (I.hok.laid k hp new)
theorem Inv.write {x e:Addr} {o:HO} {t':Nat} (I:Inv X pins σ H s) (mu:Mut (H x)) (he:e=x∨H e=some (.own x)) (k:∀b u,b≠e→s.heap.get? b=some u→h'.get? b=some u) (heo:∃u,h'.get? e=some u)
  (new:cf X.prog X.w (upd H x o) h' x o):Inv X pins σ (upd H x o) { s with heap:=h',toks:=t' }:=I.un (Un.write mu he k heo) (I.hok.write mu he k heo new)
theorem Inv.E8 {pins':List (Addr×Obj)} (I:Inv X pins σ H s) (h:∀p∈pins',s.heap.get? p.1=some p.2∧H p.1=none∧p.1≠X.env.locals∧p.1∉X.fs∧∀v,p.2.data≠.cell v):Inv X pins' σ H s:=
 ⟨I.ok,I.os,I.bare,I.base,I.loc,I.cell,I.free,I.freeC,λp hp=>(List.mem_append.mp hp).elim (λz=>I.pin p (abr _ z)) (h p),I.hok,I.len⟩
theorem B2 {N:List Str} (hN:N.Nodup) {i j:Nat} {x:Str} (a:N[i]?=some x) (b:N[j]?=some x):i=j:=by
 obtain ⟨h1,e1⟩:=List.getElem?_eq_some_iff.mp a;obtain ⟨h2,e2⟩:=List.getElem?_eq_some_iff.mp b;exact (adq hN).mp (e1.trans e2.symm)
theorem yn {M:Model} {A:Around} {E:Value→Shared→Prop} {i:Nat} {x:Str} {v:V} {u:Value} {Q:Unit→Shared→Prop} (I:Inv X pins σ H s) (hN:X.N.Nodup) (hi:X.N[i]?=some x) (hx:Loc X.env.scope x) (r:RelV v u)
  (h:∀s',Inv X pins (σ.set i (some v)) H s'→(∃a,Heap.SameBut a s.heap s'.heap∧(a=X.env.locals∨X.env.cells.lookup x=some a))→Q () s') (hf:X.fn x=true∨X.env.scope.names.lookup x=some .local:=by first | exact .inl rfl | exact .inr rfl | assumption):wpAny M A (storeName X.env x u) Q E s:=by
 obtain ⟨m,hn,hl⟩:=id I.loc;have hcls:(X.env.scope.kind==.class||(X.env.scope.kind==.module&&X.env.locals !=X.env.globals))=false:=by rw[I.ok.kind];rfl
 have hiσ:i < σ.length:=by rw[I.len];exact (List.getElem?_eq_some_iff.mp hi).1
 have cne:=I.cne;have tracked:∀{a:Addr} {h':Heap},(∃o,s.heap.get? a=some o∧H a=none)→Heap.SameBut a s.heap h'→HOk X.prog X.w H h':=λ{a h'} ha hs b ob e=>by
  obtain ⟨_,_,hfree⟩:=ha;refine (I.hok b ob e).Cy (λc w' hc q=>(hs.2 c ?_).trans q) (λ_ q=>q) λ_ _ q=>q;rintro rfl;rcases hc with rfl | hc
  ·rw[hfree] at e;cases e
  ·rw[hfree] at hc;cases hc
 rcases hx with hk | hk
 ·refine wpAny_storeName_local hk hn (λh' hn' hs=>?_) hcls;obtain ⟨oL,_,_,hoL,_⟩:=id hn;refine h _ ⟨I.ok,I.os,I.bare,⟨λb o e n hb hx=>?_,λb o e n hb hx=>?_,I.base.free,λb o e hx=>?_,I.base.tups,I.base.frzs,I.base.tbls⟩,⟨_,hn',λj y v' e1 e2 e3=>?_⟩,λy c e=>?_,I.free,I.freeC,λp hp=>?_,tracked ⟨oL,hoL,I.free⟩ hs,by simpa using I.len⟩ ⟨_,hs,.inl rfl⟩
  ·exact (hs.2 b (aao (aam (Heap.lt_size e) I.ok.above))).trans (I.base.keep b o e n hb hx)
  ·obtain ⟨sl,e1⟩:=I.base.slot b o e n hb hx;exact ⟨sl,(hs.2 b (aao (aam (Heap.lt_size e) I.ok.above))).trans e1⟩
  ·obtain ⟨o',e1⟩:=I.base.there b o e hx;exact ⟨o',(hs.2 b (aao (aam (Heap.lt_size e) I.ok.above))).trans e1⟩
  ·by_cases hj:j=i
   ·subst hj;rw[hi] at e1;cases e1;rw[ae2 hiσ] at e2;cases e2
    exact ⟨u,r,.inl ⟨hk,by simp⟩⟩
   ·rw[ae6 (Ne.symm hj)] at e2;obtain ⟨u',r',q⟩:=hl j y v' e1 e2 e3;refine ⟨u',r',?_⟩;rcases q with ⟨k,e⟩ | ⟨k,c,e,z⟩
    ·refine .inl ⟨k,?_⟩;have:y≠x:=λe=>hj (B2 hN e1 (e ▸ hi));simp[this,e]
    ·exact .inr ⟨k,c,e,z.sameBut hs (cne y c e)⟩
  ·obtain ⟨w',z⟩:=I.cell y c e;exact ⟨w',z.sameBut hs (cne y c e)⟩
  ·obtain ⟨e,n,ne,nf,d⟩:=I.pin p hp;exact ⟨(hs.2 p.1 ne).trans e,n,ne,nf,d⟩
 ·have hfn:X.fn x=true:=by
   rcases hf with z | z
   ·exact z
   ·rw[z] at hk;cases hk
  obtain ⟨c,hc⟩:=I.ok.has x (.inl hk);obtain ⟨w',z⟩:=I.cell x c hc;refine wpAny_storeName_cell I.ok.kind hk hc z (λh' hc' hs=>?_);obtain ⟨oc,hoc,hocd⟩:=id z;refine h { s with heap:=h' } ⟨I.ok,I.os,I.bare,⟨λb o e n hb hx=>?_,λb o e n hb hx=>?_,I.base.free,λb o e hx=>?_,I.base.tups,I.base.frzs,I.base.tbls⟩,⟨m,hn.sameBut hs (Ne.symm (cne x c hc)),λj y v' e1 e2 e3=>?_⟩,λy c' e=>?_,I.free,I.freeC,λp hp=>?_,tracked ⟨oc,hoc,I.freeC x c hc⟩ hs,by simpa using I.len⟩ ⟨c,hs,.inr hc⟩
  ·exact (hs.2 b (aao (aam (Heap.lt_size e) (I.ok.cab x c hfn hc)))).trans (I.base.keep b o e n hb hx)
  ·obtain ⟨sl,e1⟩:=I.base.slot b o e n hb hx;exact ⟨sl,(hs.2 b (aao (aam (Heap.lt_size e) (I.ok.cab x c hfn hc)))).trans e1⟩
  ·obtain ⟨o',e1⟩:=I.base.there b o e hx;exact ⟨o',(hs.2 b (aao (aam (Heap.lt_size e) (I.ok.cab x c hfn hc)))).trans e1⟩
  ·by_cases hj:j=i
   ·subst hj;rw[hi] at e1;cases e1;rw[ae2 hiσ] at e2;cases e2
    exact ⟨u,r,.inr ⟨.inl hk,c,hc,hc'⟩⟩
   ·rw[ae6 (Ne.symm hj)] at e2;obtain ⟨u',r',q⟩:=hl j y v' e1 e2 e3;refine ⟨u',r',?_⟩;rcases q with q | ⟨k,c',e,z'⟩
    ·exact .inl q
    ·refine .inr ⟨k,c',e,z'.sameBut hs ?_⟩;rintro rfl;exact hj (B2 hN e1 (I.ok.inj _ _ _ e hc ▸ hi))
  ·by_cases hcc:c'=c
   ·subst hcc;exact ⟨_,hc'⟩
   ·obtain ⟨w2,z2⟩:=I.cell y c' e;exact ⟨w2,z2.sameBut hs hcc⟩
  ·obtain ⟨e,n,ne,nf,d⟩:=I.pin p hp;refine ⟨(hs.2 p.1 ?_).trans e,n,ne,nf,d⟩;intro q;rw[q,hoc] at e;have q':oc=p.2:=aa4 e;exact d w' (by rw[←q'];exact hocd)
theorem vf {M:Model} {A:Around} {E:Value→Shared→Prop} {i:Nat} {x:Str} {v:V} {u:Value} {Q:Unit→Shared→Prop} (I:Inv X pins σ H s) (hN:X.N.Nodup) (hi:X.N[i]?=some x) (hx:Loc X.env.scope x) (r:RelV v u)
  (h:∀s',Inv X pins (σ.set i (some v)) H s'→Q () s') (hf:X.fn x=true∨X.env.scope.names.lookup x=some .local:=by first | exact .inl rfl | exact .inr rfl | assumption):wpAny M A (storeName X.env x u) Q E s:=
 yn I hN hi hx r (λs' I' _=>h s' I') hf
theorem Inv.Mw {s':Shared} {ch:List Addr} (I:Inv X pins σ H s) (ho:s'.os=s.os) (u:Un (frs X.stack) ch H H' s.heap s'.heap) (hok:HOk X.prog X.w H' s'.heap) (hg:AllBare s'.gens)
  (hch:∀b∈ch,(b∈X.ex∨X.s₀.heap.objs.size≤b)∧b≠X.env.locals∧(∀x c,X.env.cells.lookup x=some c→c≠b)∧∀p∈X.pn++pins,p.1≠b):Inv X pins σ H' s':=by
 obtain ⟨h',g',d',t',o'⟩:=s';have e:o'=s.os:=ho;subst e;exact I.call (g':=g') (t':=t') (d':=d') u hok hg hch
end
abbrev XK:=Value→Option Addr→Hp→Prop
abbrev St:=List (Option V)
abbrev VK:=V→Hp→Prop
abbrev TE:=St→Hp→VK→Prop
abbrev TT:=St→Hp→(Bool→Hp→Prop)→Prop
abbrev TA:=St→Hp→(List V→Hp→Prop)→Prop
structure Ends where
 nx:St→Hp→Prop
 rt:VK
 bk:St→Hp→Prop:=λ_ _=>False
 ct:St→Hp→Prop:=λ_ _=>False
abbrev TS:=Ends→St→Hp→Prop
def EP (X:Cx) (pins:List (Addr×Obj)) (σ:St) (Q:VK) (u:Value) (s':Shared):Prop:=∃v H',Inv X pins σ H' s'∧RelV v u∧Q v H'
def TP (X:Cx) (pins:List (Addr×Obj)) (σ:St) (Q:Bool→Hp→Prop) (b:Bool) (s':Shared):Prop:=∃H',Inv X pins σ H' s'∧Q b H'
def AP (X:Cx) (pins:List (Addr×Obj)) (σ:St) (Q:List V→Hp→Prop) (us:List Value) (s':Shared):Prop:=∃vs H',Inv X pins σ H' s'∧Vals vs us∧Q vs H'
def SP (X:Cx) (pins:List (Addr×Obj)) (D:Ends) (f:Flow) (s':Shared):Prop:=
 match f with
 | .next=>∃σ' H',Inv X pins σ' H' s'∧D.nx σ' H'
 | .brk=>∃σ' H',Inv X pins σ' H' s'∧D.bk σ' H'
 | .cont=>∃σ' H',Inv X pins σ' H' s'∧D.ct σ' H'
 | .ret u=>∃v σ' H',Inv X pins σ' H' s'∧RelV v u∧D.rt v H'
def PE (X:Cx) (e:Expr) (t:TE):Prop:=
 ∀(pins:List (Addr×Obj)) (s:Shared) (σ:St) (H:Hp) (Q:VK),Inv X pins σ H s→t σ H Q→wpAny (model X.prog X.w) X.A (eval e X.env) (EP X pins σ Q) X.xe s
def PT (X:Cx) (e:Expr) (t:TT):Prop:=
 ∀(pins:List (Addr×Obj)) (s:Shared) (σ:St) (H:Hp) (Q:Bool→Hp→Prop),Inv X pins σ H s→t σ H Q→wpAny (model X.prog X.w) X.A (isTrue e X.env (eval e X.env)) (TP X pins σ Q) X.xe s
def PW (X:Cx) (e:Expr) (t:TT):Prop:=
 ∀(whole:Sem Value) (pins:List (Addr×Obj)) (s:Shared) (σ:St) (H:Hp) (Q:Bool→Hp→Prop),Inv X pins σ H s→t σ H Q→wpAny (model X.prog X.w) X.A (isTrue e X.env whole) (TP X pins σ Q) X.xe s
theorem PW.pt {X:Cx} {e:Expr} {t:TT} (h:PW X e t):PT X e t:=h _
def PA (X:Cx) (es:List Expr) (t:TA):Prop:=
 ∀(pos:Pos) (pins:List (Addr×Obj)) (s:Shared) (σ:St) (H:Hp) (Q:List V→Hp→Prop),Inv X pins σ H s→t σ H Q→wpAny (model X.prog X.w) X.A (spliced (backTo pos (starEach es X.env))) (AP X pins σ Q) X.xe s
def PS (X:Cx) (st:Stmt) (t:TS):Prop:=
 ∀(pins:List (Addr×Obj)) (s:Shared) (σ:St) (H:Hp) (D:Ends),Inv X pins σ H s→t D σ H→wpAny (model X.prog X.w) X.A (exec st X.env) (SP X pins D) X.xe s
def PSs (X:Cx) (st:List Stmt) (t:TS):Prop:=
 ∀(pins:List (Addr×Obj)) (s:Shared) (σ:St) (H:Hp) (D:Ends),Inv X pins σ H s→t D σ H→wpAny (model X.prog X.w) X.A (execs st X.env) (SP X pins D) X.xe s
theorem thn {α:Type} {t:Sem α} {Q Q':α→Shared→Prop} {M:Model} {A:Around} {E:Value→Shared→Prop} {s:Shared} (h:wpAny M A t Q E s) (hQ:∀a s,Q a s→Q' a s):wpAny M A t Q' E s:=wpAny_mono h hQ λ_ _ x=>x
section
variable {X:Cx}
def tVar (i:Nat):TE:=λσ H Q=>∃v,σ[i]?=some (some v)∧Q v H
def tC (v:V):TE:=λ_ H Q=>Q v H
theorem pe_var {i:Nat} {x:Str} {pos:Pos} (hN:X.N[i]?=some x) (hv:Vis X.env.scope x) (hd:(x==("__debug__":Str))=false:=by decide) (hcd:(x==("__classdict__":Str))=false:=by decide):PE X (.Name x pos) (tVar i):=by
 intro pins s σ H Q I h;obtain ⟨v,e,h⟩:=h;obtain ⟨m,hn,hl⟩:=I.loc;obtain ⟨u,r,l⟩:=hl i x v hN e hv;have fin:EP X pins σ Q u s:=⟨v,H,I,r,h⟩;rcases l with ⟨hk,hm⟩ | ⟨hk,c,hc,hcell⟩
 ·exact wpAny_Name (wpAny_loadName_local I.ok.kind hk hn hm fin) hd
 ·rcases hk with hk | hk
  ·exact wpAny_Name (wpAny_loadName_cell I.ok.kind hk hc hcell fin) hd
  ·exact wpAny_Name (wpAny_loadName_free I.ok.kind hk hc hcell fin hcd) hd
theorem Mf {i j pos}:PE X (.Constant (.int i) j pos) (tC (.int i)):=λ_ _ _ H _ I h=>wpAny_Constant_int ⟨.int i,H,I.tok _,⟨_,rfl⟩,h⟩
theorem pe_bl {b j pos}:PE X (.Constant (.bool b) j pos) (tC (.bl b)):=λ_ _ _ H _ I h=>Constant_bool ⟨.bl b,H,I,rfl,h⟩
theorem qu {j pos}:PE X (.Constant .none j pos) (tC .non):=λ_ _ _ H _ I h=>Constant_none ⟨.non,H,I,rfl,h⟩
theorem Mv {x j pos}:PE X (.Constant (.str x) j pos) (tC (.str x)):=λ_ _ _ H _ I h=>Calls.Constant_str ⟨.str x,H,I.tok _,⟨_,rfl⟩,h⟩
def Gl (X:Cx) (x:Str):Prop:=X.env.kindOf x=some .globalImplicit
theorem pw {E:Value→Shared→Prop} {pins:List (Addr×Obj)} {s:Shared} {σ:St} {H:Hp} {x:Str} {u:Value} {pos:Pos} {Q:Value→Shared→Prop} (I:Inv X pins σ H s) (hg:Gl X x) (hm:X.mg x=some u) (h:Q u s)
  (hd:(x==("__debug__":Str))=false:=by decide):wpAny (model X.prog X.w) X.A (eval (.Name x pos) X.env) Q E s:=
 Calls.Name_function_global I.ok.kind hg (Calls.loadGlobal_global (by rw[I.ok.glob];exact I.mod.glob.keeps I.bk) hm h) hd
theorem g9 {E:Value→Shared→Prop} {pins:List (Addr×Obj)} {s:Shared} {σ:St} {H:Hp} {x:Str} {u:Value} {pos:Pos} {Q:Value→Shared→Prop} (I:Inv X pins σ H s) (hg:Gl X x) (hm:X.mg x=none) (hv:bootBuiltins x=some u) (h:Q u s)
  (hn:x≠"__name__":=by decide) (hd:(x==("__debug__":Str))=false:=by decide):wpAny (model X.prog X.w) X.A (eval (.Name x pos) X.env) Q E s:=by
 obtain ⟨mb,h1,h2⟩:=I.mod.blt;exact Calls.Name_function_global I.ok.kind hg (Calls.loadGlobal_builtin (by rw[I.ok.glob];exact I.mod.glob.keeps I.bk) hm (by rw[I.ok.blt];exact h1.keeps I.bk) ((h2 x hn).trans hv) h) hd
theorem Ph {x:Str} {v:V} {u:Value} {pos:Pos} (hg:Gl X x) (hm:X.mg x=some u) (r:RelV v u) (hd:(x==("__debug__":Str))=false:=by decide):PE X (.Name x pos) (tC v):=
 λ_ _ _ H _ I h=>pw I hg hm ⟨v,H,I,r,h⟩ hd
theorem Pb {x:Str} {v:V} {u:Value} {pos:Pos} (hg:Gl X x) (hm:X.mg x=none) (hv:bootBuiltins x=some u) (r:RelV v u) (hn:x≠"__name__":=by decide) (hd:(x==("__debug__":Str))=false:=by decide):PE X (.Name x pos) (tC v):=
 λ_ _ _ H _ I h=>g9 I hg hm hv ⟨v,H,I,r,h⟩ hn hd
variable {a b:Expr} {ta tb:TE} {pos:Pos}
def PC (X:Cx) (op:CmpOp) (a b:Expr) (t:TE):Prop:=
 ∀(pins:List (Addr×Obj)) (s:Shared) (σ:St) (H:Hp) (Q:VK),Inv X pins σ H s→t σ H Q→
  wpAny (model X.prog X.w) X.A (eval a X.env) (λv s₁=>wpAny (model X.prog X.w) X.A (eval b X.env) (λu s₂=>wpAny (model X.prog X.w) X.A (compareOp op v u) (EP X pins σ Q) X.xe s₂) X.xe s₁) X.xe s
theorem cq (b:Expr) {op:CmpOp} (h:op≠.In) (h2:op≠.NotIn):behindInMarks op b=false:=by
 have e1:(op==CmpOp.In)=false:=by cases op <;> first | rfl | exact absurd rfl h
 have e2:(op==CmpOp.NotIn)=false:=by cases op <;> first | rfl | exact absurd rfl h2
 cases b <;> simp[behindInMarks,e1,e2]
def tIsN (ta:TE):TE:=λσ H Q=>ta σ H λx H1=>Q (.bl (decide (x=.non))) H1
def iy (ta:TE):TE:=λσ H Q=>ta σ H λx H1=>Q (.bl (!decide (x=.non))) H1
theorem RelV.Bw {x:V} {v:Value} (r:RelV x v):(v==Value.none)=decide (x=.non):=by
 cases x with
 | non=>cases r;rfl
 | bl _=>cases r;rfl
 | int _=>obtain ⟨t,rfl⟩:=r;rfl
 | str _=>obtain ⟨t,rfl⟩:=r;rfl
 | byt _=>obtain ⟨t,rfl⟩:=r;rfl
 | flt _=>obtain ⟨t,rfl⟩:=r;rfl
 | ref _=>cases r;rfl
 | ty _=>cases r;rfl
theorem Jx {j pos'} (ha:PE X a ta):PC X .Is a (.Constant .none j pos') (tIsN ta):=by
 intro pins s σ H Q I h;refine thn (ha pins s σ H _ I h) λv s1 ⟨x,H1,I1,r1,q1⟩=>?_;exact Constant_none (is_none_gen ⟨.bl _,H1,I1,by rw[r1.Bw];rfl,q1⟩)
theorem Nt {j pos'} (ha:PE X a ta):PC X .IsNot a (.Constant .none j pos') (iy ta):=by
 intro pins s σ H Q I h;refine thn (ha pins s σ H _ I h) λv s1 ⟨x,H1,I1,r1,q1⟩=>?_;exact Constant_none (isnot_none_gen ⟨.bl _,H1,I1,by rw[r1.Bw];rfl,q1⟩)
def tB (t:TE):TT:=λσ H Q=>t σ H λx H1=>∃c,x=.bl c∧Q c H1
theorem pt_cmp {op:CmpOp} {t:TE} (h:PC X op a b t) (h1:behindInMarks op b=false:=by first | exact cq _ (by decide) (by decide) | rfl):PT X (.Compare a [op] [b] pos) (tB t):=by
 intro pins s σ H Q I hw;refine wpAny_isTrue_Compare1 (thn (h pins s σ H _ I hw) λv s1 h1=>thn h1 λu s2 h2=>thn h2 λc s3 ⟨x,H1,I1,r1,q1⟩=>?_) h1;obtain ⟨d,rfl,q⟩:=q1;cases r1
 exact wpAny_truthy_bool ⟨H1,I1,q⟩
theorem pt_val {e:Expr} {t:TE} (h:PE X e t) (he:∀whole,isTrue e X.env whole=(do let v ←whole;standAt e.pos;holding [v] (truthy v)):=by intro _;rfl):PT X e (tB t):=by
 intro pins s σ H Q I hw;refine isTrue_plain (thn (h pins s σ H _ I hw) λv s1 ⟨x,H1,I1,r1,q1⟩=>?_) (he _);obtain ⟨d,rfl,q⟩:=q1;cases r1
 exact wpAny_truthy_bool ⟨H1,I1,q⟩
variable {tA tB':TT} {rest:List Expr}
def tAnd (t u:TT):TT:=λσ H Q=>t σ H λc H1=>if c=true then u σ H1 Q else Q false H1
def tOr (t u:TT):TT:=λσ H Q=>t σ H λc H1=>if c=true then Q true H1 else u σ H1 Q
def tNot (t:TT):TT:=λσ H Q=>t σ H λc H1=>Q (!c) H1
theorem Ox (ha:PT X a tA):PW X (.BoolOp .And [a] pos) tA:=by
 intro wh pins s σ H Q I h;refine isTrue_and (thn (ha pins s σ H Q I h) λc s1 e=>?_);cases c with
 | true=>exact isTrue_and_nil e
 | false=>exact e
theorem pw_or1 (ha:PT X a tA):PW X (.BoolOp .Or [a] pos) tA:=by
 intro wh pins s σ H Q I h;refine isTrue_or (thn (ha pins s σ H Q I h) λc s1 e=>?_);cases c with
 | false=>exact isTrue_or_nil e
 | true=>exact e
theorem pw_and (ha:PT X a tA) (hb:PW X (.BoolOp .And (b::rest) pos) tB'):PW X (.BoolOp .And (a::b::rest) pos) (tAnd tA tB'):=by
 intro wh pins s σ H Q I h;refine isTrue_and (thn (ha pins s σ H _ I h) λc s1 ⟨H1,I1,q1⟩=>?_);cases c with
 | true=>exact hb wh pins s1 σ H1 Q I1 q1
 | false=>exact ⟨H1,I1,q1⟩
theorem pw_or (ha:PT X a tA) (hb:PW X (.BoolOp .Or (b::rest) pos) tB'):PW X (.BoolOp .Or (a::b::rest) pos) (tOr tA tB'):=by
 intro wh pins s σ H Q I h;refine isTrue_or (thn (ha pins s σ H _ I h) λc s1 ⟨H1,I1,q1⟩=>?_);cases c with
 | true=>exact ⟨H1,I1,q1⟩
 | false=>exact hb wh pins s1 σ H1 Q I1 q1
theorem Ea (ha:PT X a tA):PT X (.UnaryOp .Not a pos) (tNot tA):=by
 intro pins s σ H Q I h;exact isTrue_not (ha pins s σ H (λc H1=>Q (!c) H1) I h)
def tAndV (ta tb:TE):TE:=λσ H Q=>ta σ H λx H1=>∃c,x=.bl c∧if c=true then tb σ H1 Q else Q (.bl false) H1
def tOrV (ta tb:TE):TE:=λσ H Q=>ta σ H λx H1=>∃c,x=.bl c∧if c=true then Q (.bl true) H1 else tb σ H1 Q
def tNotV (ta:TE):TE:=λσ H Q=>ta σ H λx H1=>∃c,x=.bl c∧Q (.bl (!c)) H1
theorem pe_one {op} {t:TE} (h:PE X a t):PE X (.BoolOp op [a] pos) t:=λpins s σ H Q I hw=>BoolOp_one (h pins s σ H Q I hw)
theorem pe_and (ha:PE X a ta) (hb:PE X (.BoolOp .And (b::rest) pos) tb):PE X (.BoolOp .And (a::b::rest) pos) (tAndV ta tb):=by
 intro pins s σ H Q I h;refine BoolOp_and (thn (ha pins s σ H _ I h) λv s1 ⟨x,H1,I1,r1,q1⟩=>?_);obtain ⟨c,rfl,q1⟩:=q1;cases r1
 refine wpAny_truthy_bool ?_;cases c with
 | true=>exact hb pins s1 σ H1 Q I1 q1
 | false=>exact ⟨.bl false,H1,I1,rfl,q1⟩
theorem pe_not (ha:PE X a ta):PE X (.UnaryOp .Not a pos) (tNotV ta):=by
 intro pins s σ H Q I h;refine UnaryOp_ (thn (ha pins s σ H _ I h) λv s1 ⟨x,H1,I1,r1,q1⟩=>?_);obtain ⟨c,rfl,q1⟩:=q1;cases r1
 exact not_of (wpAny_truthy_bool ⟨.bl (!c),H1,I1,rfl,q1⟩)
def tIf (t:TT) (ta tb:TE):TE:=λσ H Q=>t σ H λc H1=>if c=true then ta σ H1 Q else tb σ H1 Q
theorem M5 {c:Expr} (hc:PT X c tA) (ha:PE X a ta) (hb:PE X b tb):PE X (.IfExp c a b pos) (tIf tA ta tb):=by
 intro pins s σ H Q I h;refine wpAny_IfExp (thn (hc pins s σ H _ I h) λd s1 ⟨H1,I1,q1⟩=>?_);cases d with
 | true=>exact ha pins s1 σ H1 Q I1 q1
 | false=>exact hb pins s1 σ H1 Q I1 q1
end
def SqL (K:PySem.W.Frag) (H:Hp) (a:Addr) (xs:List V):Prop:=
 Rd H a (.lst xs)∨
  ∃(o:Obj) (its:Array Value) (n:Nat),K.lookup a=some o∧o.cls=.type "list"∧o.dict=none∧o.data=.seq its n∧its.size≤sizeLine∧Vals xs its.toList
def SqT (K:PySem.W.Frag) (H:Hp) (a:Addr) (xs:List V):Prop:=
 Rd H a (.tup xs)∨
  ∃(o:Obj) (its:Array Value) (n:Nat),K.lookup a=some o∧o.cls=.type "tuple"∧o.data=.seq its n∧its.size≤sizeLine∧Vals xs its.toList
noncomputable def absV:Value→Option V
 | .none=>some .non
 | .bool b=>some (.bl b)
 | .int i _=>some (.int i)
 | .str x _=>some (.str x)
 | .bytes b _=>some (.byt b)
 | .float b _=>some (.flt b)
 | .ref a=>some (.ref a)
 | .type n=>some (.ty n)
 | _=>none
theorem RelV.abs {x:V} {u:Value} (r:RelV x u):absV u=some x:=by
 cases x with
 | non=>cases r;rfl
 | bl _=>cases r;rfl
 | int _=>obtain ⟨t,rfl⟩:=r;rfl
 | str _=>obtain ⟨t,rfl⟩:=r;rfl
 | byt _=>obtain ⟨t,rfl⟩:=r;rfl
 | flt _=>obtain ⟨t,rfl⟩:=r;rfl
 | ref _=>cases r;rfl
 | ty _=>cases r;rfl
theorem RelV.inj {x y:V} {u:Value} (r:RelV x u) (q:RelV y u):x=y:=aa4 (r.abs.symm.trans q.abs)
theorem Vals.inj:∀{xs ys:List V} {us:List Value},Vals xs us→Vals ys us→xs=ys
 | _,_,_,.nil,.nil=>rfl
 | _,_,_,.cons r t,.cons r' t'=>by rw[r.inj r',Vals.inj t t']
section
variable {X:Cx} {pins:List (Addr×Obj)} {σ:St} {H:Hp} {s:Shared} {a:Addr} {xs ys:List V}
theorem SqL.of {K:PySem.W.Frag} (h:H a=some (.lst xs)):SqL K H a xs:=.inl (.inl h)
theorem SqT.of {K:PySem.W.Frag} (h:H a=some (.tup xs)):SqT K H a xs:=.inl (.inl h)
theorem Inv.list (I:Inv X pins σ H s) (h:SqL X.K H a xs):∃its:List Value,Vals xs its∧PlainL s.heap a its.toArray∧xs.length≤sizeLine:=by
 rcases h with h | ⟨o,its,n,hk,hc,hd,hs,hz,r⟩
 ·obtain ⟨z,its,n,r,e⟩:=h.ok I.hok;exact ⟨its,r,⟨_,n,e,rfl,rfl,rfl⟩,z⟩
 ·refine ⟨its.toList,r,⟨o,n,I.kIn a o hk,hc,hd,by simpa using hs⟩,?_⟩;have e:=r.length;simp only[abx] at e;omega
theorem Inv.tuple (I:Inv X pins σ H s) (h:SqT X.K H a xs):∃its:List Value,Vals xs its∧IsTup s.heap a its.toArray∧xs.length≤sizeLine:=by
 rcases h with h | ⟨o,its,n,hk,hc,hs,hz,r⟩
 ·obtain ⟨z,its,r,p⟩:=h.ok I.hok;exact ⟨its,r,p.tup,z⟩
 ·refine ⟨its.toList,r,⟨o,I.kIn a o hk,hc,n,by simpa using hs⟩,?_⟩;have e:=r.length;simp only[abx] at e;omega
theorem Inv.xa (I:Inv X pins σ H s) (h:SqL X.K H a xs) (h':SqL X.K H a ys):xs=ys:=by
 obtain ⟨its,r,⟨o,n,e,_,_,d⟩,_⟩:=I.list h;obtain ⟨its',r',⟨o',n',e',_,_,d'⟩,_⟩:=I.list h';rw[e] at e';cases e';rw[d] at d';injection d' with d1 _
 have:its=its':=by simpa using congrArg Array.toList d1
 subst this;exact r.inj r'
theorem Inv.y3 (I:Inv X pins σ H s) (h:SqT X.K H a xs) (h':SqT X.K H a ys):xs=ys:=by
 obtain ⟨its,r,⟨o,e,_,n,d⟩,_⟩:=I.tuple h;obtain ⟨its',r',⟨o',e',_,n',d'⟩,_⟩:=I.tuple h';rw[e] at e';cases e';rw[d] at d';injection d' with d1 _
 have:its=its':=by simpa using congrArg Array.toList d1
 subst this;exact r.inj r'
end
noncomputable abbrev Cx.pj (X:Cx) (E:Value→Shared→Prop):Cx:={ X with xe:=E }
noncomputable abbrev Cx.nox (X:Cx):Cx:=X.pj λ_ _=>False
theorem Cx.Ok.pj {X:Cx} (ok:X.Ok) (E:Value→Shared→Prop):(X.pj E).Ok:=
 ⟨ok.mod,ok.kind,ok.glob,ok.blt,ok.above,ok.inj,ok.has,ok.cab,ok.hd,ok.frames,ok.stk,ok.exf,ok.bs,ok.bsz,ok.noex,ok.exfs,ok.qr,ok.frf⟩
theorem Cx.Ok.dy {X:Cx} {E:Value→Shared→Prop} (ok:(X.pj E).Ok):X.Ok:=
 ⟨ok.mod,ok.kind,ok.glob,ok.blt,ok.above,ok.inj,ok.has,ok.cab,ok.hd,ok.frames,ok.stk,ok.exf,ok.bs,ok.bsz,ok.noex,ok.exfs,ok.qr,ok.frf⟩
section
variable {X:Cx} {pins:List (Addr×Obj)} {σ:St} {H:Hp} {s:Shared} {E:Value→Shared→Prop}
theorem Inv.pj (I:Inv X pins σ H s) (E:Value→Shared→Prop):Inv (X.pj E) pins σ H s:=⟨I.ok.pj E,I.os,I.bare,I.base,I.loc,I.cell,I.free,I.freeC,I.pin,I.hok,I.len⟩
theorem Inv.dy (I:Inv (X.pj E) pins σ H s):Inv X pins σ H s:=⟨I.ok.dy,I.os,I.bare,I.base,I.loc,I.cell,I.free,I.freeC,I.pin,I.hok,I.len⟩
theorem SP.dy {D:Ends} {f:Flow} {s':Shared} (h:SP (X.pj E) pins D f s'):SP X pins D f s':=by
 cases f with
 | next=>obtain ⟨σ',H',I,q⟩:=h;exact ⟨σ',H',I.dy,q⟩
 | brk=>obtain ⟨σ',H',I,q⟩:=h;exact ⟨σ',H',I.dy,q⟩
 | cont=>obtain ⟨σ',H',I,q⟩:=h;exact ⟨σ',H',I.dy,q⟩
 | ret u=>obtain ⟨v,σ',H',I,r,q⟩:=h;exact ⟨v,σ',H',I.dy,r,q⟩
theorem PSs.nox {st:List Stmt} {t:TS} (h:PSs X.nox st t):PSs X st t:=λpins s σ H D I hw=>
 wpAny_mono (h pins s σ H D (I.pj _) hw) (λ_ _ q=>q.dy) λ_ _ z=>False.elim z
end
section
variable {X:Cx} {st:Stmt} {rest:List Stmt} {t u:TS} {e:Expr} {te:TE} {pos:Pos}
def tNext:TS:=λD σ H=>D.nx σ H
def tSeq (t u:TS):TS:=λD σ H=>t { D with nx:=u D } σ H
theorem Om:PSs X [] tNext:=λ_ _ σ H _ I h=>wpAny_execs_nil ⟨σ,H,I,h⟩
theorem L5 (h1:PS X st t) (h2:PSs X rest u):PSs X (st::rest) (tSeq t u):=by
 intro pins s σ H D I h;refine wpAny_execs_cons (thn (h1 pins s σ H { D with nx:=u D } I h) λf s1 q=>?_);cases f with
 | next=>
  obtain ⟨σ',H',I',q⟩:=q;exact h2 pins s1 σ' H' D I' q
 | ret v=>exact q
 | brk=>exact q
 | cont=>exact q
theorem Qk (h1:PS X st t):PSs X [st] t:=by
 intro pins s σ H D I h;refine wpAny_execs_cons (thn (h1 pins s σ H D I h) λf s1 q=>?_);cases f with
 | next=>exact wpAny_execs_nil q
 | ret v=>exact q
 | brk=>exact q
 | cont=>exact q
def tCont:TS:=λD σ H=>D.ct σ H
theorem Bu:PS X (.Continue pos) tCont:=λ_ _ σ H _ I h=>wpAny_Continue ⟨σ,H,I,h⟩
theorem Inv.quiet {pins:List (Addr×Obj)} {σ:St} {H:Hp} {s:Shared} (I:Inv X pins σ H s):interactive X.env=false:=by simp[interactive,I.ok.kind]
def tDrop (te:TE):TS:=λD σ H=>te σ H λ_ H1=>D.nx σ H1
theorem Pw (he:PE X e te) (hs:swapsWith e none pos.line X.env=pure false:=by rfl):PS X (.Expr e pos) (tDrop te):=by
 intro pins s σ H D I h;exact wpAny_Expr_any (thn (he pins s σ H _ I h) λv s1 ⟨x,H1,I1,r1,q1⟩=>⟨σ,H1,I1,q1⟩) I.quiet hs
def tRet (te:TE):TS:=λD σ H=>te σ H D.rt
theorem ps_ret (he:PE X e te):PS X (.Return (some e) pos) (tRet te):=by
 intro pins s σ H D I h;exact wpAny_Return_some (thn (he pins s σ H _ I h) λv s1 ⟨x,H1,I1,r1,q1⟩=>⟨x,σ,H1,I1,r1,q1⟩)
def tRetN:TS:=λD _ H=>D.rt .non H
def tIfS (c:TT) (t u:TS):TS:=λD σ H=>c σ H λb H1=>if b=true then t D σ H1 else u D σ H1
theorem ps_if {c:Expr} {a b:List Stmt} {tc:TT} (hc:PT X c tc) (ha:PSs X a t) (hb:PSs X b u):PS X (.If c a b pos) (tIfS tc t u):=by
 intro pins s σ H D I h;refine wpAny_If (thn (hc pins s σ H _ I h) λd s1 ⟨H1,I1,q1⟩=>?_);cases d with
 | true=>exact ha pins s1 σ H1 D I1 q1
 | false=>exact hb pins s1 σ H1 D I1 q1
end
abbrev TG:=V→St→Hp→(St→Hp→Prop)→Prop
abbrev TGs:=List V→St→Hp→(St→Hp→Prop)→Prop
def PG (X:Cx) (target:Expr) (t:TG):Prop:=
 ∀(pins:List (Addr×Obj)) (s:Shared) (σ:St) (H:Hp) (v:V) (u:Value) (Q:St→Hp→Prop),Inv X pins σ H s→RelV v u→t v σ H Q→
  wpAny (model X.prog X.w) X.A (assign target X.env u) (λ_ s'=>∃σ' H',Inv X pins σ' H' s'∧Q σ' H') X.xe s
def PGs (X:Cx) (ts:List Expr) (t:TGs):Prop:=
 ∀(pins:List (Addr×Obj)) (s:Shared) (σ:St) (H:Hp) (vs:List V) (us:List Value) (Q:St→Hp→Prop),Inv X pins σ H s→Vals vs us→t vs σ H Q→
  wpAny (model X.prog X.w) X.A (assignInOrder ((assignEach ts X.env).map (·.2)) us) (λ_ s'=>∃σ' H',Inv X pins σ' H' s'∧Q σ' H') X.xe s
abbrev TSet:=V→V→V→Hp→(Hp→Prop)→Prop
def PSet (X:Cx) (t:TSet):Prop:=
 ∀(pins:List (Addr×Obj)) (s:Shared) (σ:St) (H:Hp) (o i v:V) (ov iv u:Value) (Q:Hp→Prop),Inv X pins σ H s→RelV o ov→RelV i iv→RelV v u→t o i v H Q→
  wpAny (model X.prog X.w) X.A (setItem ov iv u) (λ_ s'=>∃H',Inv X pins σ H' s'∧Q H') X.xe s
section
variable {X:Cx} {pos:Pos}
def cu (i:Nat):TG:=λv σ H Q=>Q (σ.set i (some v)) H
theorem G4 {i:Nat} {x:Str} (hN:X.N.Nodup) (hi:X.N[i]?=some x) (hx:Loc X.env.scope x) (hf:X.fn x=true∨X.env.scope.names.lookup x=some .local:=by first | exact .inl rfl | exact .inr rfl | assumption):PG X (.Name x pos) (cu i):=by
 intro pins s σ H v u Q I r h;exact wpAny_assign_Name (vf I hN hi hx r (λs' I'=>⟨_,H,I',h⟩) hf)
def Dq:TGs:=λvs σ H Q=>vs=[]∧Q σ H
def fm (t:TG) (u:TGs):TGs:=λvs σ H Q=>∃v r,vs=v::r∧t v σ H λσ' H'=>u r σ' H' Q
theorem Qh:PGs X [] Dq:=by
 intro pins s σ H vs us Q I r h;obtain ⟨e,h⟩:=h;subst e;cases r
 exact assignInOrder_nil ⟨σ,H,I,h⟩
theorem Lp {e:Expr} {es:List Expr} {t:TG} {u:TGs} (h1:PG X e t) (h2:PGs X es u)
  (hs:(assignEach (e::es) X.env).map (·.2)=assign e X.env::(assignEach es X.env).map (·.2):=by rfl):PGs X (e::es) (fm t u):=by
 intro pins s σ H vs us Q I r h;obtain ⟨v,vr,e1,h⟩:=h;subst e1;cases r with
 | cons r rr=>
  rw[hs];refine assignInOrder_cons (thn (h1 pins s σ H _ _ _ I r h) λ_ s1 ⟨σ1,H1,I1,q1⟩=>?_);exact h2 pins s1 σ1 H1 _ _ Q I1 rr q1
def zk (K:PySem.W.Frag) (n:Nat) (t:TGs):TG:=λv σ H Q=>∃a xs,v=.ref a∧SqT K H a xs∧xs.length=n∧t xs σ H Q
theorem Ed {es:List Expr} {k:Nat} {t:TGs} {n:Nat} (hc:X.calm=true) (h:PGs X es t)
  (hn:(assignEach es X.env).length=n:=by rfl) (hst:(assignEach es X.env).findIdx? (·.1)=none:=by rfl):PG X (.Tuple es k pos) (zk X.K n t):=by
 intro pins s σ H v u Q I r hw;obtain ⟨a,xs,e1,hq,hl,hw⟩:=hw;subst e1;cases r
 obtain ⟨its,rv,ht,hz⟩:=I.tuple hq;refine assign_Tuple_tuple (I.ok.hd hc) ht (by simp[hn,←hl,rv.length]) hst λh' hx=>?_;have I1:Inv X pins σ H { s with heap:=h' }:=I.kept (t':=s.toks) λb o e=>hx b o (aao (Heap.lt_size e)) e;exact h pins _ σ H xs _ Q I1 (by simpa using rv) hw
def gSub (to ti:TE) (t:TSet):TG:=λv σ H Q=>to σ H λo H1=>ti σ H1 λi H2=>t o i v H2 λH3=>Q σ H3
theorem Me {o i:Expr} {to ti:TE} {t:TSet} (ho:PE X o to) (hi:PE X i ti) (hs:PSet X t)
  (ha:∀v,assign (.Subscript o i pos) X.env v=(do
   let ov ←holding [v] (eval o X.env)
   let iv ←holding [v,ov] (eval i X.env)
   standAt pos
   holding [v,ov,iv] (setItem ov iv v)
   release [v,ov,iv] []):=by intro _;rfl):PG X (.Subscript o i pos) (gSub to ti t):=by
 intro pins s σ H v u Q I r h;rw[ha];refine wpAny_bind (wpAny_holding (thn (ho pins s σ H _ I h) λov s1 ⟨x,H1,I1,r1,q1⟩=>?_));refine wpAny_bind (wpAny_holding (thn (hi pins s1 σ H1 _ I1 q1) λiv s2 ⟨y,H2,I2,r2,q2⟩=>?_));refine wpAny_bind (wpAny_standAt (wpAny_bind (wpAny_holding (thn (hs pins s2 σ H2 x y v ov iv u _ I2 r1 r2 r q2) λ_ s3 ⟨H3,I3,q3⟩=>?_))));exact wpAny_release ⟨σ,H3,I3,q3⟩
def tAsg (te:TE) (g:TG):TS:=λD σ H=>te σ H λx H1=>g x σ H1 D.nx
theorem ps_asg {tg e:Expr} {te:TE} {g:TG} (he:PE X e te) (hg:PG X tg g) (hs:swapsWithSole [tg] e pos.line X.env=pure false:=by rfl) (hw:swappedStores [tg] e X.env=pure none:=by rfl)
  (h1:(assignEach [tg] X.env).map (·.2)=[assign tg X.env]:=by rfl):PS X (.Assign [tg] e pos) (tAsg te g):=by
 intro pins s σ H D I h;refine wpAny_Assign_stores (thn (he pins s σ H _ I h) λv s1 ⟨x,H1,I1,r1,q1⟩=>?_) hs hw;rw[h1];exact thn (hg pins s1 σ H1 x v _ I1 r1 q1) λ_ s2 q=>q
theorem Kl {i:Nat} {x:Str} {e:Expr} {te:TE} {pos':Pos} (hN:X.N.Nodup) (hi:X.N[i]?=some x) (hx:Loc X.env.scope x) (he:PE X e te) (hs:swapsWith e (some (.Name x pos')) pos.line X.env=pure false:=by rfl) (hf:X.fn x=true∨X.env.scope.names.lookup x=some .local:=by first | exact .inl rfl | exact .inr rfl | assumption):
  PS X (.Assign [.Name x pos'] e pos) (tAsg te (cu i)):=by
 intro pins s σ H D I h;refine wpAny_Assign_Name (thn (he pins s σ H _ I h) λv s1 ⟨y,H1,I1,r1,q1⟩=>?_) hs;exact vf I1 hN hi hx r1 (λs2 I2=>⟨_,H1,I2,q1⟩) hf
end
section
variable {X:Cx} {pos:Pos}
def Jo (c:TT) (tb:TS):TS:=λD σ H=>∃W:Nat→St→Hp→Prop,(∃m,W m σ H)∧∀m σ H,W m σ H→
 c σ H λb H1=>if b=true then ∃N:St→Hp→Prop,(∀σ' H',N σ' H'→∃m',m' < m∧W m' σ' H')∧tb { D with nx:=N,ct:=N,bk:=D.nx } σ H1 else D.nx σ H1
theorem Cm {c:Expr} {body:List Stmt} {tc:TT} {tb:TS} (hp:PassesOwn (model X.prog X.w) X.A X.env X.xe) (hc:PT X c tc) (hb:PSs X body tb):PS X (.While c body [] pos) (Jo tc tb):=by
 intro pins s σ H D I h;obtain ⟨W,⟨m0,w0⟩,turn⟩:=h;refine wpAny_While (codeAny_whileLoop (λn s'=>∃σ' H',Inv X pins σ' H' s'∧W n σ' H') ?_ m0 ⟨σ,H,I,w0⟩);rintro n s1 ⟨σ1,H1,I1,w1⟩;refine wpAny_passesOwn hp (thn (hc pins s1 σ1 H1 _ I1 (turn n σ1 H1 w1)) λb s2 ⟨H2,I2,q2⟩=>?_);cases b with
 | true=>
  obtain ⟨N,hN,q2⟩:=q2;rw[if_pos rfl];refine wpAny_passesOwn hp (thn (hb pins s2 σ1 H2 _ I2 q2) λf s3 q3=>?_);cases f with
  | next=>
   obtain ⟨σ3,H3,I3,n3⟩:=q3;obtain ⟨m',hm,w3⟩:=hN σ3 H3 n3;exact ⟨m',hm,σ3,H3,I3,w3⟩
  | cont=>
   obtain ⟨σ3,H3,I3,n3⟩:=q3;obtain ⟨m',hm,w3⟩:=hN σ3 H3 n3;exact ⟨m',hm,σ3,H3,I3,w3⟩
  | brk=>exact q3
  | ret v=>exact q3
 | false=>
  rw[if_neg aak];exact wpAny_execs_nil ⟨σ1,H2,I2,q2⟩
end
structure It where
 go:Nat→Hp→Prop
 yld:Nat→Hp→V→Hp→Prop
 stop:Nat→Hp→Prop
def qw (X:Cx) (pins:List (Addr×Obj)) (H:Hp) (b:Addr):Prop:=
 H b=none∧b≠X.env.locals∧b∉X.fs∧(b∈X.ex∨X.s₀.heap.objs.size≤b)∧(∀x c,X.env.cells.lookup x=some c→c≠b)∧∀p∈X.pn++pins,p.1≠b
theorem Inv.xv {X:Cx} {pins:List (Addr×Obj)} {σ:St} {H H':Hp} {s:Shared} {b:Addr} (I:Inv X pins σ H s) (hb:s.heap.objs.size≤b) (hn:H' b=none):qw X pins H' b:=by
 refine ⟨hn,ab9 (aam I.lt hb),I.nofs hb,.inr (aau I.sz hb),λx c e z=>?_,λp hp z=>?_⟩
 ·obtain ⟨v,q⟩:=I.cell x c e;exact absurd (aam q.lt (by rw[z];exact hb)) (abe _)
 ·exact absurd (aam (Heap.lt_size (I.pin p hp).1) (by rw[z];exact hb)) (abe _)
structure Turn (P:Program) (w:World) (K:PySem.W.Frag) (tg:Expr) (J:It) (fp:List Addr) (it:Addr) (tn:Nat→Heap→Prop):Prop where
 mem:it∈fp
 obj:∀i h,tn i h→∀b∈fp,∃o,h.get? b=some o∧∀v,o.data≠.cell v
 keep:∀i h h',tn i h→(∀b∈fp,∀o,h.get? b=some o→h'.get? b=some o)→tn i h'
 item:∀(X:Cx),X.prog=P→X.w=w→X.K=K→X.calm=true→∀(i:Nat) (pins:List (Addr×Obj)) (s:Shared) (σ:St) (H:Hp) (E:Value→Shared→Prop),Inv X pins σ H s→(∀b∈fp,qw X pins H b)→tn i s.heap→J.go i H→
  wpAny (model P w) X.A (pyNext (.ref it)) (λr s1=>∃u,r=some u∧
   wpAny (model P w) X.A (letOwnedTupleGo tg (.ref it) u) (λ_ s2=>∃x H',Inv X pins σ H' s2∧RelV x u∧J.yld i H x H'∧tn (i+1) s2.heap∧∀b∈fp,H' b=none) E s1) E s
 done:∀(X:Cx),X.prog=P→X.w=w→X.K=K→X.calm=true→∀(i:Nat) (pins:List (Addr×Obj)) (s:Shared) (σ:St) (H:Hp) (E:Value→Shared→Prop),Inv X pins σ H s→(∀b∈fp,qw X pins H b)→tn i s.heap→J.stop i H→
  wpAny (model P w) X.A (pyNext (.ref it)) (λr s1=>r=none∧Inv X pins σ H s1) E s
 self:∀(A:Around) (i:Nat) (s:Shared) (Q:Value→Shared→Prop) (E:Value→Shared→Prop),tn i s.heap→Q (.ref it) s→wpAny (model P w) A (pyIter (.ref it)) Q E s
abbrev TI:=St→Hp→(It→Hp→Prop)→Prop
def PIE (X:Cx) (pins:List (Addr×Obj)) (σ:St) (tg:Expr) (R:It→Hp→Prop) (itv:Value) (s2:Shared):Prop:=
 ∃(it:Addr) (fp:List Addr) (tn:Nat→Heap→Prop) (J:It) (H':Hp),itv=.ref it∧Inv X pins σ H' s2∧Turn X.prog X.w X.K tg J fp it tn∧tn 0 s2.heap∧(∀b∈fp,qw X pins H' b)∧R J H'
def PI (X:Cx) (tg iter:Expr) (wi:TI):Prop:=
 ∀(pins:List (Addr×Obj)) (s:Shared) (σ:St) (H:Hp) (R:It→Hp→Prop),Inv X pins σ H s→wi σ H R→
  wpAny (model X.prog X.w) X.A (eval iter X.env) (λv s1=>wpAny (model X.prog X.w) X.A (pyIter v) (PIE X pins σ tg R) X.xe s1) X.xe s
theorem Cr {M:Model} {A:Around} {E:Value→Shared→Prop} {s:Shared} {tg:Expr} {it:Addr} {u:Value} {o:Obj} {n:String} {vs:Array Value} {Q:Unit→Shared→Prop} (ho:s.heap.get? it=some o) (hc:o.cls=.type n) (hd:o.data=.fields vs)
    (hn:["enumerate","zip","dict_itemiterator","dict_reverseitemiterator","odict_iterator","itertools.zip_longest","itertools.pairwise"].contains n=false) (hQ:Q () s):wpAny M A (letOwnedTupleGo tg (.ref it) u) Q E s:=by
  unfold letOwnedTupleGo;cases tg <;> first
    | exact wpAny_pure hQ
    | (cases u <;> first
        | exact wpAny_pure hQ
        | (refine wpAny_bind (wpAny_load ho ?_)
           rw[hc,hd];show wpAny M A (if (["enumerate","zip","dict_itemiterator","dict_reverseitemiterator","odict_iterator","itertools.zip_longest","itertools.pairwise"].contains n&&vs[0]?==some (rawInt _))=true then _ else _) Q E s
           rw[if_neg (by intro h;rw[hn,Bool.false_and] at h;cases h)];exact wpAny_pure hQ))
noncomputable def Itl (K:PySem.W.Frag) (a:Addr):It:=
 ⟨λi H=>∃xs x,SqL K H a xs∧xs[i]?=some x,λi H x H'=>H'=H∧∀xs,SqL K H a xs→xs[i]?=some x,λi H=>∃xs,SqL K H a xs∧xs.length≤i⟩
noncomputable def Itt (K:PySem.W.Frag) (a:Addr):It:=
 ⟨λi H=>∃xs x,SqT K H a xs∧xs[i]?=some x,λi H x H'=>H'=H∧∀xs,SqT K H a xs→xs[i]?=some x,λi H=>∃xs,SqT K H a xs∧xs.length≤i⟩
noncomputable def Itr (lo:Int) (n:Nat):It:=⟨λi _=>i < n,λi H x H'=>H'=H∧x=.int (lo+i),λi _=>n≤i⟩
theorem Ii {P:Program} {w:World} {K:PySem.W.Frag} {tg:Expr} (a it:Addr):Turn P w K tg (Itl K a) [it] it (λi h=>h.IsListIter it a i) where
 mem:=by simp
 obj:=λi h st b hb=>by
  have e:b=it:=by simpa using hb
  subst e;obtain ⟨o,e,c,d⟩:=st;exact ⟨o,e,λv z=>by rw[d] at z;cases z⟩
 keep:=λi h h' st k=>st.at λo e=>k it (by simp) o e
 item:=by
  intro X hP hw hK hc i pins s σ H E I hf st hg;subst hP hw hK;obtain ⟨xs,x,hq,hx⟩:=hg;obtain ⟨its,rv,p,hz⟩:=I.list hq;obtain ⟨u,hu,ru⟩:=rv.get hx;obtain ⟨f0,f1,f2,f3,f4,f5⟩:=hf it (by simp);refine wpAny_pyNext_list_item st p.isList (x:=u) (by simpa using hu) λh' st' sb=>?_;have I1:Inv X pins σ H { s with heap:=h' }:=I.turned (t':=s.toks) (λb o hb e=>(sb.2 b hb).trans e) f0 f1 f3 f4 f5;obtain ⟨o,e,c,d⟩:=id st';exact ⟨u,rfl,Cr (s:={ s with heap:=h' }) e c d (by decide) ⟨x,H,I1,ru,⟨rfl,λys hy=>by rw[I.xa hy hq];exact hx⟩,st',λb hb=>(hf b hb).1⟩⟩
 done:=by
  intro X hP hw hK hc i pins s σ H E I hf st hg;subst hP hw hK;obtain ⟨xs,hq,hx⟩:=hg;obtain ⟨its,rv,p,hz⟩:=I.list hq;obtain ⟨f0,f1,f2,f3,f4,f5⟩:=hf it (by simp);have hl:=rv.length;exact wpAny_pyNext_list_end (I.ok.hd hc) st p.isList (by simp;omega) λh' eb=>⟨rfl,I.turned (t':=s.toks) (λb o hb e=>eb b o hb e) f0 f1 f3 f4 f5⟩
 self:=λ_ _ _ _ _ st h=>wpAny_pyIter_listiter st h
theorem Ds {P:Program} {w:World} {K:PySem.W.Frag} {tg:Expr} (a it:Addr):Turn P w K tg (Itt K a) [it] it (λi h=>h.IsTupleIter it a i) where
 mem:=by simp
 obj:=λi h st b hb=>by
  have e:b=it:=by simpa using hb
  subst e;obtain ⟨o,e,c,d⟩:=st;exact ⟨o,e,λv z=>by rw[d] at z;cases z⟩
 keep:=λi h h' st k=>st.at λo e=>k it (by simp) o e
 item:=by
  intro X hP hw hK hc i pins s σ H E I hf st hg;subst hP hw hK;obtain ⟨xs,x,hq,hx⟩:=hg;obtain ⟨its,rv,p,hz⟩:=I.tuple hq;obtain ⟨u,hu,ru⟩:=rv.get hx;obtain ⟨f0,f1,f2,f3,f4,f5⟩:=hf it (by simp);refine wpAny_pyNext_tuple_item st (show s.heap.IsTuple a its.toArray from p) (x:=u) (by simpa using hu) λh' st' sb=>?_;have I1:Inv X pins σ H { s with heap:=h' }:=I.turned (t':=s.toks) (λb o hb e=>(sb.2 b hb).trans e) f0 f1 f3 f4 f5;obtain ⟨o,e,c,d⟩:=id st';exact ⟨u,rfl,Cr (s:={ s with heap:=h' }) e c d (by decide) ⟨x,H,I1,ru,⟨rfl,λys hy=>by rw[I.y3 hy hq];exact hx⟩,st',λb hb=>(hf b hb).1⟩⟩
 done:=by
  intro X hP hw hK hc i pins s σ H E I hf st hg;subst hP hw hK;obtain ⟨xs,hq,hx⟩:=hg;obtain ⟨its,rv,p,hz⟩:=I.tuple hq;obtain ⟨f0,f1,f2,f3,f4,f5⟩:=hf it (by simp);have hl:=rv.length;exact wpAny_pyNext_tuple_end (I.ok.hd hc) st (show s.heap.IsTuple a its.toArray from p) (by simp;omega) λh' eb=>⟨rfl,I.turned (t':=s.toks) (λb o hb e=>eb b o hb e) f0 f1 f3 f4 f5⟩
 self:=λ_ _ _ _ _ st h=>wpAny_pyIter_tupleiter st h
theorem Ef {P:Program} {w:World} {K:PySem.W.Frag} {tg:Expr} (it:Addr) (lo:Int) (n:Nat):Turn P w K tg (Itr lo n) [it] it (λi h=>IsRangeIter h it (lo+(i:Nat)*1) ((n:Int) - (i:Nat)) 1) where
 mem:=by simp
 obj:=λi h st b hb=>by
  have e:b=it:=by simpa using hb
  subst e;exact ⟨_,st,λv z=>by
   have z':Data.fields _=Data.cell v:=z;cases z'⟩
 keep:=λi h h' st k=>k it (by simp) _ st
 item:=by
  intro X hP hw hK hc i pins s σ H E I hf st hg;subst hP hw hK;obtain ⟨f0,f1,f2,f3,f4,f5⟩:=hf it (by simp);have W:=Walks.range (prog:=X.prog) (w:=X.w) (I.ok.hd hc) it lo 1 n;refine W.item i s _ _ hg st λv h' tk hv st' kk=>?_;obtain ⟨t,rfl⟩:=hv;have I1:Inv X pins σ H { s with heap:=h',toks:=tk }:=I.turned (λb o hb e=>kk b o (by simpa using hb) e) f0 f1 f3 f4 f5;refine ⟨_,rfl,Cr (s:={ s with heap:=h',toks:=tk }) (n:="range_iterator") st' rfl rfl (by decide) ⟨.int (lo+i),H,I1,⟨t,?_⟩,⟨rfl,rfl⟩,st',λb hb=>(hf b hb).1⟩⟩;rw[Int.mul_one]
 done:=by
  intro X hP hw hK hc i pins s σ H E I hf st hg;subst hP hw hK;obtain ⟨f0,f1,f2,f3,f4,f5⟩:=hf it (by simp);exact wpAny_pyNext_range_end (I.ok.hd hc) st (by have:n≤i:=hg;omega) λh' eb=>⟨rfl,I.turned (t':=s.toks) (λb o hb e=>eb b o hb e) f0 f1 f3 f4 f5⟩
 self:=λ_ _ _ _ _ st h=>wpAny_pyIter_rangeiter st h
section
variable {X:Cx} {tg:Expr}
def iList (K:PySem.W.Frag) (tl:TE):TI:=λσ H R=>tl σ H λx H1=>∃a,x=.ref a∧(∃xs,SqL K H1 a xs)∧R (Itl K a) H1
def iTup (K:PySem.W.Frag) (tl:TE):TI:=λσ H R=>tl σ H λx H1=>∃a,x=.ref a∧(∃xs,SqT K H1 a xs)∧R (Itt K a) H1
theorem Ni {l:Expr} {tl:TE} (hl:PE X l tl):PI X tg l (iList X.K tl):=by
 intro pins s σ H R I h;refine thn (hl pins s σ H _ I h) λv s1 ⟨x,H1,I1,r1,q1⟩=>?_;obtain ⟨a,e,⟨xs,hq⟩,q⟩:=q1;subst e;cases r1
 obtain ⟨its,rv,p,hz⟩:=I1.list hq;refine wpAny_pyIter_list p.isList ?_;refine ⟨s1.heap.objs.size,[s1.heap.objs.size],_,_,H1,rfl,I1.kept (t':=s1.toks) λb o e=>Heap.get?_push_of_some _ e,Ii a _,⟨_,Heap.get?_push_size _ rfl,rfl,rfl⟩,λb hb=>?_,q⟩;have e:b=s1.heap.objs.size:=by simpa using hb
 subst e;exact I1.xv (aa3 _) (I1.hok.fresh (aa3 _))
theorem pi_tup {l:Expr} {tl:TE} (hl:PE X l tl):PI X tg l (iTup X.K tl):=by
 intro pins s σ H R I h;refine thn (hl pins s σ H _ I h) λv s1 ⟨x,H1,I1,r1,q1⟩=>?_;obtain ⟨a,e,⟨xs,hq⟩,q⟩:=q1;subst e;cases r1
 obtain ⟨its,rv,p,hz⟩:=I1.tuple hq;refine wpAny_pyIter_tuple (show s1.heap.IsTuple a its.toArray from p) ?_;refine ⟨s1.heap.objs.size,[s1.heap.objs.size],_,_,H1,rfl,I1.kept (t':=s1.toks) λb o e=>Heap.get?_push_of_some _ e,Ds a _,⟨_,Heap.get?_push_size _ rfl,rfl,rfl⟩,λb hb=>?_,q⟩;have e:b=s1.heap.objs.size:=by simpa using hb
 subst e;exact I1.xv (aa3 _) (I1.hok.fresh (aa3 _))
theorem Mi {pins:List (Addr×Obj)} {σ:St} {H:Hp} {s:Shared} {R:It→Hp→Prop} {E:Value→Shared→Prop} {lo hi:Int} {t u v:Tok} {tk:Nat} (I:Inv X pins σ H s) (h1:-(2 ^ 62)≤lo) (h2:lo < 2 ^ 62) (h3:-(2 ^ 62)≤hi) (h4:hi < 2 ^ 62)
  (q:R (Itr lo (hi - lo).toNat) H):wpAny (model X.prog X.w) X.A (pyIter (.ref s.heap.objs.size)) (PIE X pins σ tg R) E { s with heap:=s.heap.push { cls:=.type "range",data:=.fields #[.int lo t,.int hi u,.int 1 v] },toks:=tk }:=by
 refine wpAny_pyIter_range (IsRange.new ..) (small_one h1 h2 h3 h4) ?_;have I1:Inv X pins σ H { s with heap:=s.heap.push { cls:=.type "range",data:=.fields #[.int lo t,.int hi u,.int 1 v] },toks:=tk }:=I.kept λb o e=>Heap.get?_push_of_some _ e;refine ⟨(s.heap.push { cls:=.type "range",data:=.fields #[.int lo t,.int hi u,.int 1 v] }).objs.size,[(s.heap.push { cls:=.type "range",data:=.fields #[.int lo t,.int hi u,.int 1 v] }).objs.size],_,_,H,rfl,
  I1.kept (t':=tk) λb o e=>Heap.get?_push_of_some _ e,Ef _ lo (hi - lo).toNat,?_,λb hb=>?_,q⟩
 ·have e1:lo+((0:Nat):Int)*1=lo:=by simp
  have e2:(((hi - lo).toNat:Nat):Int) - ((0:Nat):Int)=Builtin.Range.rangeSize lo hi 1:=by rw[rangeSize_one];split <;> omega
  show IsRangeIter _ _ (lo+((0:Nat):Int)*1) ((((hi - lo).toNat:Nat):Int) - ((0:Nat):Int)) 1
  rw[e1,e2];exact Heap.get?_push_size _ rfl
 ·have e:b=(s.heap.push { cls:=.type "range",data:=.fields #[.int lo t,.int hi u,.int 1 v] }).objs.size:=by simpa using hb
  subst e;exact I1.xv (aa3 _) (I1.hok.fresh (aa3 _))
def iRng1 (ta:TA):TI:=λσ H R=>ta σ H λvs H1=>∃j:Int,vs=[.int j]∧-(2 ^ 62)≤j∧j < 2 ^ 62∧R (Itr 0 j.toNat) H1
def iRng2 (ta:TA):TI:=λσ H R=>ta σ H λvs H1=>∃i j:Int,vs=[.int i,.int j]∧(-(2 ^ 62)≤i∧i < 2 ^ 62∧-(2 ^ 62)≤j∧j < 2 ^ 62)∧R (Itr i (j - i).toNat) H1
theorem Ik {a:Expr} {ta:TA} {p pos:Pos} (hg:Gl X "range") (hm:X.mg "range"=none) (ha:PA X [a] ta) (hs:starEach [a] X.env=[(false,eval a X.env)]:=by rfl):PI X tg (.Call (.Name "range" p) [a] [] pos) (iRng1 ta):=by
 intro pins s σ H R I h;refine Call_ (g9 I hg hm boot_range (PyProof.Rows.callWith_type1 (thn (ha pos pins s σ H _ I h) λus s1 ⟨vs,H1,I1,r1,q1⟩=>?_) hs rfl));obtain ⟨j,e,q1,q2,q⟩:=q1;subst e;cases r1 with
 | cons r rr=>
  cases rr
  obtain ⟨t,rfl⟩:=r;exact call_range_1 (Mi I1 (by omega) (by omega) q1 q2 (by simpa using q))
def tFor (wi:TI) (g:TG) (tb:TS):TS:=λD σ H=>wi σ H λJ H1=>∃W:Nat→Nat→St→Hp→Prop,(∃m,W 0 m σ H1)∧∀i m σ H,W i m σ H→
 (J.stop i H∧D.nx σ H)∨(J.go i H∧∃N:St→Hp→Prop,(∀σ' H',N σ' H'→∃m',m' < m∧W (i+1) m' σ' H')∧∀x H',J.yld i H x H'→g x σ H' λσ2 H2=>tb { D with nx:=N,ct:=N,bk:=D.nx } σ2 H2)
noncomputable def wb (fp:List Addr) (h:Heap):List (Addr×Obj):=fp.filterMap λb=>(h.get? b).map λo=>(b,o)
theorem j0 {fp:List Addr} {h:Heap} {b:Addr} {o:Obj} (hb:b∈fp) (e:h.get? b=some o):(b,o)∈wb fp h:=List.mem_filterMap.mpr ⟨b,hb,by rw[e];rfl⟩
theorem Hj {fp:List Addr} {h:Heap} {p:Addr×Obj} (hp:p∈wb fp h):p.1∈fp∧h.get? p.1=some p.2:=by
 obtain ⟨b,hb,e⟩:=List.mem_filterMap.mp hp;cases q:h.get? b with
 | none=>rw[q] at e;cases e
 | some o=>
  rw[q] at e;have e':(b,o)=p:=aa4 e;subst e';exact ⟨hb,q⟩
theorem Inv.pinned {pins:List (Addr×Obj)} {σ:St} {H:Hp} {s:Shared} {fp:List Addr} (I:Inv X pins σ H s) (hf:∀b∈fp,qw X pins H b) (ho:∀b∈fp,∃o,s.heap.get? b=some o∧∀v,o.data≠.cell v):Inv X (pins++wb fp s.heap) σ H s:=
 I.E8 λp hp=>(List.mem_append.mp hp).elim (λz=>I.pin p (aav _ z)) λz=>by
  obtain ⟨hb,e⟩:=Hj z;obtain ⟨f0,f1,f2,_⟩:=hf p.1 hb;obtain ⟨o,e',d⟩:=ho p.1 hb;rw[e] at e';cases e';exact ⟨e,f0,f1,f2,d⟩
theorem Inv.oy {pins pl:List (Addr×Obj)} {σ:St} {H:Hp} {s:Shared} (I:Inv X (pins++pl) σ H s):Inv X pins σ H s:=I.E8 λp hp=>I.pin p (aav _ (abr _ hp))
theorem En {iter:Expr} {body:List Stmt} {wi:TI} {g:TG} {tb:TS} {pos:Pos} (hp:PassesOwn (model X.prog X.w) X.A X.env X.xe) (hc:X.calm=true) (hi:PI X tg iter wi) (hg:PG X tg g) (hb:PSs X body tb)
  (hs:∀x,foldedSetIterable iter X.env x=pure x:=by intro _;rfl):PS X (.For tg iter body [] pos) (tFor wi g tb):=by
 intro pins s σ H D I h;refine wpAny_For (thn (hi pins s σ H _ I h) λv s1 h1=>thn h1 λitv s2 h2=>?_) hs;obtain ⟨it,fp,tn,J,H2,e,I2,T,st2,f2,W,⟨m0,w0⟩,turn⟩:=h2;subst e;have stat:∀{H':Hp},(∀b∈fp,H' b=none)→∀b∈fp,qw X pins H' b:=λhn b hb=>⟨hn b hb,(f2 b hb).2⟩;refine codeAny_forLoop_any (λn s'=>∃i σ' H',Inv X pins σ' H' s'∧tn i s'.heap∧(∀b∈fp,H' b=none)∧W i n σ' H') ?_ m0 ⟨0,σ,H2,I2,st2,λb hb=>(f2 b hb).1,w0⟩;rintro n s3 ⟨i,σ3,H3,I3,st3,fr3,w3⟩;rcases turn i n σ3 H3 w3 with ⟨stop,qn⟩ | ⟨go,N,hN,step⟩
 ·refine wpAny_passesOwn hp (thn (T.done X rfl rfl rfl hc i pins s3 σ3 H3 X.xe I3 (stat fr3) st3 stop) λr s4 ⟨hr,I4⟩=>?_);subst hr;exact wpAny_execs_nil ⟨σ3,H3,I4,qn⟩
 ·refine wpAny_passesOwn hp (thn (T.item X rfl rfl rfl hc i pins s3 σ3 H3 X.xe I3 (stat fr3) st3 go) λr s4 ⟨u,hr,h4⟩=>?_);subst hr;refine wpAny_passesOwn hp (thn h4 λ_ s5 ⟨x,H5,I5,r5,y5,st5,fr5⟩=>?_);have I5':=I5.pinned (stat fr5) (T.obj _ _ st5);refine wpAny_passesOwn hp (thn (hg _ s5 σ3 H5 x u _ I5' r5 (step x H5 y5)) λ_ s6 ⟨σ6,H6,I6,q6⟩=>?_);refine wpAny_passesOwn hp (thn (hb _ s6 σ6 H6 _ I6 q6) λf s7 q7=>?_);have again:∀{σ7:St} {H7:Hp},Inv X (pins++wb fp s5.heap) σ7 H7 s7→N σ7 H7→∃m,m < n∧∃i σ' H',Inv X pins σ' H' s7∧tn i s7.heap∧(∀b∈fp,H' b=none)∧W i m σ' H':=λ{σ7 H7} I7 n7=>by
   obtain ⟨m',hm,w7⟩:=hN σ7 H7 n7;refine ⟨m',hm,i+1,σ7,H7,I7.oy,T.keep _ _ _ st5 λb hb o e=>(I7.pin (b,o) (aav _ (aav _ (j0 hb e)))).1,λb hb=>?_,w7⟩;obtain ⟨o,e,d⟩:=T.obj _ _ st5 b hb;exact (I7.pin (b,o) (aav _ (aav _ (j0 hb e)))).2.1
  cases f with
  | next=>obtain ⟨σ7,H7,I7,n7⟩:=q7;exact again I7 n7
  | cont=>obtain ⟨σ7,H7,I7,n7⟩:=q7;exact again I7 n7
  | brk=>obtain ⟨σ7,H7,I7,q7⟩:=q7;exact ⟨σ7,H7,I7.oy,q7⟩
  | ret v=>obtain ⟨x7,σ7,H7,I7,r7,q7⟩:=q7;exact ⟨x7,σ7,H7,I7.oy,r7,q7⟩
end
theorem Js {K:PySem.W.Frag} {a:Addr} {xs:List V} {g:TG} {tb:TS} {D:Ends} {σ:St} {H:Hp} (Pv:Nat→St→Hp→Prop) (h0:Pv 0 σ H) (hl:∀i σ H,i≤xs.length→Pv i σ H→SqL K H a xs)
  (hs:∀i x σ H,xs[i]?=some x→Pv i σ H→g x σ H λσ2 H2=>tb { D with nx:=Pv (i+1),ct:=Pv (i+1),bk:=D.nx } σ2 H2) (hd:∀σ H,Pv xs.length σ H→D.nx σ H):
  ∃W:Nat→Nat→St→Hp→Prop,(∃m,W 0 m σ H)∧∀i m σ H,W i m σ H→
   ((Itl K a).stop i H∧D.nx σ H)∨((Itl K a).go i H∧∃N:St→Hp→Prop,(∀σ' H',N σ' H'→∃m',m' < m∧W (i+1) m' σ' H')∧∀x H',(Itl K a).yld i H x H'→g x σ H' λσ2 H2=>tb { D with nx:=N,ct:=N,bk:=D.nx } σ2 H2):=by
 refine ⟨λi m σ H=>m=xs.length - i∧i≤xs.length∧Pv i σ H,⟨xs.length,by simp,aa6 _,h0⟩,?_⟩;rintro i m σ H ⟨rfl,hi,p⟩;have q:=hl i σ H hi p;by_cases hlt:i < xs.length
 ·refine .inr ⟨⟨xs,xs[i],q,by simp[hlt]⟩,Pv (i+1),λσ' H' p'=>⟨xs.length - (i+1),by omega,rfl,hlt,p'⟩,λx H' y=>?_⟩;obtain ⟨e,y⟩:=y;subst e;exact hs i x σ _ (y xs q) p
 ·have e:i=xs.length:=by omega
  subst e;exact .inl ⟨⟨xs,q,aa3 _⟩,hd σ H p⟩
theorem Pr {K:PySem.W.Frag} {a:Addr} {xs:List V} {g:TG} {tb:TS} {D:Ends} {σ:St} {H:Hp} (Pv:Nat→St→Hp→Prop) (h0:Pv 0 σ H) (hl:∀i σ H,i≤xs.length→Pv i σ H→SqT K H a xs)
  (hs:∀i x σ H,xs[i]?=some x→Pv i σ H→g x σ H λσ2 H2=>tb { D with nx:=Pv (i+1),ct:=Pv (i+1),bk:=D.nx } σ2 H2) (hd:∀σ H,Pv xs.length σ H→D.nx σ H):
  ∃W:Nat→Nat→St→Hp→Prop,(∃m,W 0 m σ H)∧∀i m σ H,W i m σ H→
   ((Itt K a).stop i H∧D.nx σ H)∨((Itt K a).go i H∧∃N:St→Hp→Prop,(∀σ' H',N σ' H'→∃m',m' < m∧W (i+1) m' σ' H')∧∀x H',(Itt K a).yld i H x H'→g x σ H' λσ2 H2=>tb { D with nx:=N,ct:=N,bk:=D.nx } σ2 H2):=by
 refine ⟨λi m σ H=>m=xs.length - i∧i≤xs.length∧Pv i σ H,⟨xs.length,by simp,aa6 _,h0⟩,?_⟩;rintro i m σ H ⟨rfl,hi,p⟩;have q:=hl i σ H hi p;by_cases hlt:i < xs.length
 ·refine .inr ⟨⟨xs,xs[i],q,by simp[hlt]⟩,Pv (i+1),λσ' H' p'=>⟨xs.length - (i+1),by omega,rfl,hlt,p'⟩,λx H' y=>?_⟩;obtain ⟨e,y⟩:=y;subst e;exact hs i x σ _ (y xs q) p
 ·have e:i=xs.length:=by omega
  subst e;exact .inl ⟨⟨xs,q,aa3 _⟩,hd σ H p⟩
theorem Hw {lo:Int} {n:Nat} {g:TG} {tb:TS} {D:Ends} {σ:St} {H:Hp} (Pv:Nat→St→Hp→Prop) (h0:Pv 0 σ H)
  (hs:∀i σ H,i < n→Pv i σ H→g (.int (lo+i)) σ H λσ2 H2=>tb { D with nx:=Pv (i+1),ct:=Pv (i+1),bk:=D.nx } σ2 H2) (hd:∀σ H,Pv n σ H→D.nx σ H):
  ∃W:Nat→Nat→St→Hp→Prop,(∃m,W 0 m σ H)∧∀i m σ H,W i m σ H→
   ((Itr lo n).stop i H∧D.nx σ H)∨((Itr lo n).go i H∧∃N:St→Hp→Prop,(∀σ' H',N σ' H'→∃m',m' < m∧W (i+1) m' σ' H')∧∀x H',(Itr lo n).yld i H x H'→g x σ H' λσ2 H2=>tb { D with nx:=N,ct:=N,bk:=D.nx } σ2 H2):=by
 refine ⟨λi m σ H=>m=n - i∧i≤n∧Pv i σ H,⟨n,by simp,aa6 _,h0⟩,?_⟩;rintro i m σ H ⟨rfl,hi,p⟩;by_cases hlt:i < n
 ·refine .inr ⟨hlt,Pv (i+1),λσ' H' p'=>⟨n - (i+1),by omega,rfl,hlt,p'⟩,λx H' y=>?_⟩;obtain ⟨e,y⟩:=y;subst e y;exact hs i σ _ hlt p
 ·have e:i=n:=by omega
  subst e;exact .inl ⟨aa3 _,hd σ H p⟩
theorem ja {c:TT} {tb:TS} {D:Ends} {σ:St} {H:Hp} (Pv:St→Hp→Prop) (μ:St→Hp→Nat) (h0:Pv σ H)
  (hs:∀σ H,Pv σ H→c σ H λb H1=>if b=true then tb { D with nx:=λσ' H'=>Pv σ' H'∧μ σ' H' < μ σ H,ct:=λσ' H'=>Pv σ' H'∧μ σ' H' < μ σ H,bk:=D.nx } σ H1 else D.nx σ H1)
  (mono:∀σ H Q Q',(∀b H1,Q b H1→Q' b H1)→c σ H Q→c σ H Q'):Jo c tb D σ H:=by
 refine ⟨λm σ H=>m=μ σ H∧Pv σ H,⟨_,rfl,h0⟩,?_⟩;rintro m σ H ⟨rfl,p⟩;refine mono σ H _ _ (λb H1 q=>?_) (hs σ H p);cases b with
 | true=>exact ⟨_,λσ' H' ⟨p',l⟩=>⟨_,l,rfl,p'⟩,q⟩
 | false=>exact q
abbrev R2:=V→V→Hp→VK→Prop
def OpR (X:Cx) (f:Value→Value→Sem Value) (r:R2):Prop:=
 ∀(pins:List (Addr×Obj)) (s:Shared) (σ:St) (H:Hp) (x y:V) (v u:Value) (Q:VK),Inv X pins σ H s→RelV x v→RelV y u→r x y H Q→
  wpAny (model X.prog X.w) X.A (f v u) (EP X pins σ Q) X.xe s
def UnR (X:Cx) (f:Value→Sem Value) (r:V→Hp→VK→Prop):Prop:=
 ∀(pins:List (Addr×Obj)) (s:Shared) (σ:St) (H:Hp) (x:V) (v:Value) (Q:VK),Inv X pins σ H s→RelV x v→r x H Q→
  wpAny (model X.prog X.w) X.A (f v) (EP X pins σ Q) X.xe s
def jf (X:Cx) (f:Value) (r:List V→Hp→VK→Prop):Prop:=
 ∀(pins:List (Addr×Obj)) (s:Shared) (σ:St) (H:Hp) (xs:List V) (us:List Value) (Q:VK),Inv X pins σ H s→Vals xs us→r xs H Q→
  wpAny (model X.prog X.w) X.A (call f us) (EP X pins σ Q) X.xe s
def tOp (r:R2) (ta tb:TE):TE:=λσ H Q=>ta σ H λx H1=>tb σ H1 λy H2=>r x y H2 Q
def tUn (r:V→Hp→VK→Prop) (ta:TE):TE:=λσ H Q=>ta σ H λx H1=>r x H1 Q
def rI (C:Int→Int→Prop) (g:Int→Int→V):R2:=λx y H Q=>∃i j,x=.int i∧y=.int j∧C i j∧Q (g i j) H
def rI0 (g:Int→Int→V):R2:=λx y H Q=>∃i j,x=.int i∧y=.int j∧Q (g i j) H
def rU (g:Int→V):V→Hp→VK→Prop:=λx H Q=>∃i,x=.int i∧Q (g i) H
section
variable {X:Cx} {a b c:Expr} {ta tb tc:TE} {pos:Pos}
theorem binT (ha:PE X a ta) (hb:PE X b tb) {pins:List (Addr×Obj)} {s:Shared} {σ:St} {H:Hp} {R:V→V→Hp→Prop} (I:Inv X pins σ H s)
  (h:ta σ H λx H1=>tb σ H1 λy H2=>R x y H2) {Q:Value→Shared→Prop} {f:Value→Value→Sem Value}
  (hf:∀v u s2 x y H2,Inv X pins σ H2 s2→RelV x v→RelV y u→R x y H2→wpAny (model X.prog X.w) X.A (f v u) Q X.xe s2):
  wpAny (model X.prog X.w) X.A (eval a X.env) (λv s₁=>wpAny (model X.prog X.w) X.A (eval b X.env) (λu s₂=>wpAny (model X.prog X.w) X.A (f v u) Q X.xe s₂) X.xe s₁) X.xe s:=by
 refine thn (ha pins s σ H _ I h) λv s1 ⟨x,H1,I1,r1,q1⟩=>?_;refine thn (hb pins s1 σ H1 _ I1 q1) λu s2 ⟨y,H2,I2,r2,q2⟩=>?_;exact hf v u s2 x y H2 I2 r1 r2 q2
theorem pe_op {op:Operator} {r:R2} (ho:OpR X (binaryOp op) r) (ha:PE X a ta) (hb:PE X b tb):PE X (.BinOp a op b pos) (tOp r ta tb):=by
 intro pins s σ H Q I h;exact wpAny_BinOp (binT ha hb I h λv u s2 x y H2 I2 rx ry q=>ho pins s2 σ H2 x y v u Q I2 rx ry q)
theorem pe_un {op:UnaryOp} {r:V→Hp→VK→Prop} (ho:UnR X (unaryOp op) r) (ha:PE X a ta):PE X (.UnaryOp op a pos) (tUn r ta):=by
 intro pins s σ H Q I h;exact UnaryOp_ (thn (ha pins s σ H _ I h) λv s1 ⟨x,H1,I1,r1,q1⟩=>ho pins s1 σ H1 x v Q I1 r1 q1)
theorem opI {f:Value→Value→Sem Value} {C:Int→Int→Prop} {g:Int→Int→Int}
  (rule:∀(i j:Int) (t u:Tok) (s:Shared) (Q:Value→Shared→Prop) (E:Value→Shared→Prop),C i j→Q (.int (g i j) s.toks) { s with toks:=s.toks+1 }→wpAny (model X.prog X.w) X.A (f (.int i t) (.int j u)) Q E s):
  OpR X f (rI C λi j=>.int (g i j)):=by
 intro pins s σ H x y v u Q I rx ry h;obtain ⟨i,j,rfl,rfl,hc,q⟩:=h;obtain ⟨t,rfl⟩:=rx;obtain ⟨t',rfl⟩:=ry;exact rule i j t t' s _ _ hc ⟨.int (g i j),H,I.tok _,⟨_,rfl⟩,q⟩
theorem opI0 {f:Value→Value→Sem Value} {g:Int→Int→Int}
  (rule:∀(i j:Int) (t u:Tok) (s:Shared) (Q:Value→Shared→Prop) (E:Value→Shared→Prop),Q (.int (g i j) s.toks) { s with toks:=s.toks+1 }→wpAny (model X.prog X.w) X.A (f (.int i t) (.int j u)) Q E s):
  OpR X f (rI0 λi j=>.int (g i j)):=by
 intro pins s σ H x y v u Q I rx ry h;obtain ⟨i,j,rfl,rfl,q⟩:=h;obtain ⟨t,rfl⟩:=rx;obtain ⟨t',rfl⟩:=ry;exact rule i j t t' s _ _ ⟨.int (g i j),H,I.tok _,⟨_,rfl⟩,q⟩
theorem opB0 {f:Value→Value→Sem Value} {g:Int→Int→Bool}
  (rule:∀(i j:Int) (t u:Tok) (s:Shared) (Q:Value→Shared→Prop) (E:Value→Shared→Prop),Q (.bool (g i j)) s→wpAny (model X.prog X.w) X.A (f (.int i t) (.int j u)) Q E s):
  OpR X f (rI0 λi j=>.bl (g i j)):=by
 intro pins s σ H x y v u Q I rx ry h;obtain ⟨i,j,rfl,rfl,q⟩:=h;obtain ⟨t,rfl⟩:=rx;obtain ⟨t',rfl⟩:=ry;exact rule i j t t' s _ _ ⟨.bl (g i j),H,I,rfl,q⟩
def qp (i j:Int):Prop:=0 < j∧j < 1073741824
def CPow (i j:Int):Prop:=0≤j∧j≤1000000∧i.natAbs < 2 ^ 64
def CMul (i j:Int):Prop:=(-(2 ^ 64) < i∧i < 2 ^ 64)∨(-(2 ^ 64) < j∧j < 2 ^ 64)
theorem CMul.ok {i j:Int} (h:CMul i j):IntMulOk i j:=by
 rcases h with ⟨h1,h2⟩ | ⟨h1,h2⟩
 ·exact .of_left (intBits_le_64 h1 h2)
 ·exact .of_right (intBits_le_64 h1 h2)
theorem op_add:OpR X (binaryOp .Add) (rI0 λi j=>.int (i+j)):=opI0 λ_ _ _ _ _ _ _ q=>add_int q
theorem op_sub:OpR X (binaryOp .Sub) (rI0 λi j=>.int (i - j)):=opI0 λ_ _ _ _ _ _ _ q=>sub_int q
theorem op_mul:OpR X (binaryOp .Mult) (rI CMul λi j=>.int (i*j)):=opI λ_ _ _ _ _ _ _ hc q=>mul_int q hc.ok
theorem Qa:OpR X (binaryOp .FloorDiv) (rI qp λi j=>.int (i / j)):=opI λi j _ _ _ _ _ hc q=>by
 have h1:(0:Int) < j:=hc.1;have h2:j < 1073741824:=hc.2;exact floordiv_int (by omega) (by rw[Int.fdiv_eq_ediv_of_nonneg i (by omega)];exact q) (.inl (PyProof.noPylong_small (by omega)))
theorem op_mod:OpR X (binaryOp .Mod) (rI (λ_ j=>0 < j) λi j=>.int (i % j)):=opI λi j _ _ _ _ _ hc q=>by
 have h1:(0:Int) < j:=hc;exact mod_int' (by omega) (by rw[Int.fmod_eq_emod_of_nonneg i (by omega)];exact q)
theorem op_pow:OpR X (binaryOp .Pow) (rI CPow λi j=>.int (i ^ j.toNat)):=opI λ_ _ _ _ _ _ _ hc q=>pow_int_small hc.1 hc.2.1 hc.2.2 q
theorem unI {f:Value→Sem Value} {g:Int→Int}
  (rule:∀(i:Int) (t:Tok) (s:Shared) (Q:Value→Shared→Prop) (E:Value→Shared→Prop),Q (.int (g i) s.toks) { s with toks:=s.toks+1 }→wpAny (model X.prog X.w) X.A (f (.int i t)) Q E s):
  UnR X f (rU λi=>.int (g i)):=by
 intro pins s σ H x v Q I rx h;obtain ⟨i,rfl,q⟩:=h;obtain ⟨t,rfl⟩:=rx;exact rule i t s _ _ ⟨.int (g i),H,I.tok _,⟨_,rfl⟩,q⟩
theorem un_neg:UnR X (unaryOp .USub) (rU λi=>.int (-i)):=unI λ_ _ _ _ _ q=>neg_int q
end
noncomputable def scal:V→V→Bool
 | .non,.non=>true | .non,.int _=>true | .int _,.non=>true | .non,.bl _=>true | .bl _,.non=>true | .non,.str _=>true | .str _,.non=>true
 | .int _,.int _=>true | .bl _,.bl _=>true | .str _,.str _=>true | .byt _,.byt _=>true
 | .int _,.str _=>true | .str _,.int _=>true | .bl _,.str _=>true | .str _,.bl _=>true
 | _,_=>false
def rEq:R2:=λx y H Q=>scal x y=true∧Q (.bl (decide (x=y))) H
def rNe:R2:=λx y H Q=>scal x y=true∧Q (.bl (!decide (x=y))) H
theorem E6 {i j:Int}:decide (V.int i=V.int j)=(i==j):=by
 rw[ad5];simp
theorem Mx {i j:Bool}:decide (V.bl i=V.bl j)=(i==j):=by
 rw[ad5];simp
theorem Gr {i j:Str}:decide (V.str i=V.str j)=(i==j):=by
 rw[ad5];simp
theorem Gy {i j:Array UInt8}:decide (V.byt i=V.byt j)=(i.toList==j.toList):=by
 rw[ad5];cases i
 cases j
 simp
section
variable {X:Cx} {a b c:Expr} {ta tb tc:TE} {pos:Pos}
theorem bj {pins:List (Addr×Obj)} {σ:St} {H:Hp} {s:Shared} {Q:VK} {k k':Bool} (I:Inv X pins σ H s) (q:Q (.bl k) H) (e:k=k'):EP X pins σ Q (.bool k') s:=by
 subst e;exact ⟨.bl k,H,I,rfl,q⟩
theorem op_eq:OpR X (compareOp .Eq) rEq:=by
 intro pins s σ H x y v u Q I rx ry h;obtain ⟨hs,q⟩:=h;cases x with
 | non=>
  cases rx
  cases y with
  | non=>cases ry;exact PySem.EqNone.eq_none_none (bj I q (by simp))
  | bl j=>cases ry;exact PySem.EqNone.eq_none_bool (bj I q (by simp))
  | int j=>obtain ⟨t',rfl⟩:=ry;exact PySem.EqNone.eq_none_int (bj I q (by simp))
  | str j=>obtain ⟨t',rfl⟩:=ry;exact PySem.EqNone.eq_none_str (bj I q (by simp))
  | _=>exact absurd (show false=true from hs) aak
 | bl i=>
  cases rx
  cases y with
  | non=>cases ry;exact PySem.EqNone.eq_bool_none (bj I q (by simp))
  | bl j=>cases ry;exact eq_bool (bj I q Mx)
  | str j=>obtain ⟨t',rfl⟩:=ry;exact PySem.EqMixed.eq_bool_str (bj I q (by simp))
  | _=>exact absurd (show false=true from hs) aak
 | int i=>
  obtain ⟨t,rfl⟩:=rx;cases y with
  | non=>cases ry;exact PySem.EqNone.eq_int_none (bj I q (by simp))
  | int j=>obtain ⟨t',rfl⟩:=ry;exact eq_int (bj I q E6)
  | str j=>obtain ⟨t',rfl⟩:=ry;exact PySem.EqMixed.eq_int_str (bj I q (by simp))
  | _=>exact absurd (show false=true from hs) aak
 | str i=>
  obtain ⟨t,rfl⟩:=rx;cases y with
  | non=>cases ry;exact PySem.EqNone.eq_str_none (bj I q (by simp))
  | bl j=>cases ry;exact PySem.EqMixed.eq_str_bool (bj I q (by simp))
  | int j=>obtain ⟨t',rfl⟩:=ry;exact PySem.EqMixed.eq_str_int (bj I q (by simp))
  | str j=>obtain ⟨t',rfl⟩:=ry;exact eq_str (bj I q Gr)
  | _=>exact absurd (show false=true from hs) aak
 | byt i=>
  obtain ⟨t,rfl⟩:=rx;cases y with
  | byt j=>obtain ⟨t',rfl⟩:=ry;exact PySem.W.eq_bytes (bj I q Gy)
  | _=>exact absurd (show false=true from hs) aak
 | _=>cases y <;> exact absurd (show false=true from hs) aak
theorem G3:OpR X (compareOp .NotEq) rNe:=by
 intro pins s σ H x y v u Q I rx ry h;obtain ⟨hs,q⟩:=h;cases x with
 | non=>
  cases rx
  cases y with
  | non=>cases ry;exact PySem.EqNone.ne_none_none (bj I q (by simp))
  | bl j=>cases ry;exact PySem.EqNone.ne_none_bool (bj I q (by simp))
  | int j=>obtain ⟨t',rfl⟩:=ry;exact PySem.EqNone.ne_none_int (bj I q (by simp))
  | str j=>obtain ⟨t',rfl⟩:=ry;exact PySem.EqNone.ne_none_str (bj I q (by simp))
  | _=>exact absurd (show false=true from hs) aak
 | bl i=>
  cases rx
  cases y with
  | non=>cases ry;exact PySem.EqNone.ne_bool_none (bj I q (by simp))
  | bl j=>cases ry;exact ne_bool (bj I q (congrArg not Mx))
  | str j=>obtain ⟨t',rfl⟩:=ry;exact PySem.EqMixed.ne_bool_str (bj I q (by simp))
  | _=>exact absurd (show false=true from hs) aak
 | int i=>
  obtain ⟨t,rfl⟩:=rx;cases y with
  | non=>cases ry;exact PySem.EqNone.ne_int_none (bj I q (by simp))
  | int j=>obtain ⟨t',rfl⟩:=ry;exact ne_int (bj I q (congrArg not E6))
  | str j=>obtain ⟨t',rfl⟩:=ry;exact PySem.EqMixed.ne_int_str (bj I q (by simp))
  | _=>exact absurd (show false=true from hs) aak
 | str i=>
  obtain ⟨t,rfl⟩:=rx;cases y with
  | non=>cases ry;exact PySem.EqNone.ne_str_none (bj I q (by simp))
  | bl j=>cases ry;exact PySem.EqMixed.ne_str_bool (bj I q (by simp))
  | int j=>obtain ⟨t',rfl⟩:=ry;exact PySem.EqMixed.ne_str_int (bj I q (by simp))
  | str j=>obtain ⟨t',rfl⟩:=ry;exact ne_str (bj I q (congrArg not Gr))
  | _=>exact absurd (show false=true from hs) aak
 | byt i=>
  obtain ⟨t,rfl⟩:=rx;cases y with
  | byt j=>obtain ⟨t',rfl⟩:=ry;exact PySem.W.ne_bytes (bj I q (congrArg not Gy))
  | _=>exact absurd (show false=true from hs) aak
 | _=>cases y <;> exact absurd (show false=true from hs) aak
theorem op_lt:OpR X (compareOp .Lt) (rI0 λi j=>.bl (decide (i < j))):=opB0 λ_ _ _ _ _ _ _ q=>lt_int q
theorem op_gt:OpR X (compareOp .Gt) (rI0 λi j=>.bl (decide (j < i))):=opB0 λ_ _ _ _ _ _ _ q=>gt_int q
theorem nomark (b:Expr) {op:CmpOp} (h:op≠.In:=by decide) (h2:op≠.NotIn:=by decide):behindInMarks op b=false:=by
 have e1:(op==CmpOp.In)=false:=by cases op <;> first | rfl | exact absurd rfl h
 have e2:(op==CmpOp.NotIn)=false:=by cases op <;> first | rfl | exact absurd rfl h2
 cases b <;> simp[behindInMarks,e1,e2]
theorem Az {op:CmpOp} {r:R2} (ho:OpR X (compareOp op) r) (ha:PE X a ta) (hb:PE X b tb) (hm:behindInMarks op b=false):PE X (.Compare a [op] [b] pos) (tOp r ta tb):=by
 intro pins s σ H Q I h;exact wpAny_Compare1 (binT ha hb I h λv u s2 x y H2 I2 rx ry q=>ho pins s2 σ H2 x y v u Q I2 rx ry q) hm
def xi (t:TE):TT:=λσ H Q=>t σ H λx H'=>∃k,x=.bl k∧Q k H'
theorem Qo {op:CmpOp} {r:R2} (ho:OpR X (compareOp op) r) (ha:PE X a ta) (hb:PE X b tb) (hm:behindInMarks op b=false):PT X (.Compare a [op] [b] pos) (xi (tOp r ta tb)):=by
 intro pins s σ H Q I h;refine wpAny_isTrue_Compare1 (thn (ha pins s σ H _ I h) λv s1 ⟨x,H1,I1,r1,q1⟩=>thn (hb pins s1 σ H1 _ I1 q1) λu s2 ⟨y,H2,I2,r2,q2⟩=>
  thn (ho pins s2 σ H2 x y v u _ I2 r1 r2 q2) λc s3 ⟨z,H3,I3,r3,k,e,q3⟩=>?_) hm
 subst e;cases r3
 exact wpAny_truthy_bool ⟨H3,I3,q3⟩
def Jg (r r':R2) (ta tb tc:TE):TE:=λσ H Q=>ta σ H λx H1=>tb σ H1 λy H2=>r x y H2 λz H3=>∃k,z=.bl k∧
 (if k=true then tc σ H3 λw' H4=>r' y w' H4 Q else Q (.bl false) H3)
theorem L3 {op op':CmpOp} {r r':R2} (ho:OpR X (compareOp op) r) (ho':OpR X (compareOp op') r') (ha:PE X a ta) (hb:PE X b tb) (hc:PE X c tc)
  (hm:lastMarks [op,op'] [b,c]=false:=by with_unfolding_all rfl):PT X (.Compare a [op,op'] [b,c] pos) (xi (Jg r r' ta tb tc)):=by
 intro pins s σ H Q I h;refine isTrue_chain (thn (ha pins s σ H _ I h) λv s1 ⟨x,H1,I1,r1,q1⟩=>test_link (thn (hb pins s1 σ H1 _ I1 q1) λu s2 ⟨y,H2,I2,r2,q2⟩=>
  thn (ho pins s2 σ H2 x y v u _ I2 r1 r2 q2) λd s3 ⟨z,H3,I3,r3,k,e,q3⟩=>?_)) hm
 subst e;cases r3
 refine wpAny_truthy_bool ?_;cases k with
 | false=>
  obtain ⟨k',e',q'⟩:=q3;cases e'
  exact ite_ff ⟨H3,I3,q'⟩
 | true=>
  refine ite_tt (test_last (thn (hc pins s3 σ H3 _ I3 q3) λw' s4 ⟨z',H4,I4,r4,q4⟩=>thn (ho' pins s4 σ H4 y z' u w' _ I4 r2 r4 q4) λd' s5 ⟨z2,H5,I5,r5,k2,e2,q5⟩=>?_));subst e2;cases r5
  exact wpAny_truthy_bool ⟨H5,I5,q5⟩
theorem vz:(sizeLine:Nat) < 2 ^ 63:=by rw[sizeLine_eq];decide
theorem Ec:OpR X (binaryOp .Add) (λx y H Q=>∃i j,x=.str i∧y=.str j∧i.length+j.length≤sizeLine∧Q (.str (i++j)) H):=by
 intro pins s σ H x y v u Q I rx ry h;obtain ⟨i,j,rfl,rfl,hz,q⟩:=h;obtain ⟨t,rfl⟩:=rx;obtain ⟨t',rfl⟩:=ry;exact add_str (λt' tk=>⟨.str (i++j),H,I.tok _,⟨_,rfl⟩,q⟩) hz
theorem vals1 {x:V} {us:List Value} (r:Vals [x] us):∃u,us=[u]∧RelV x u:=by
 cases r with
 | cons r1 r2=>cases r2;exact ⟨_,rfl,r1⟩
theorem vals2 {x y:V} {us:List Value} (r:Vals [x,y] us):∃u w',us=[u,w']∧RelV x u∧RelV y w':=by
 cases r with
 | cons r1 r2=>
  cases r2 with
  | cons r3 r4=>cases r4;exact ⟨_,_,rfl,r1,r3⟩
theorem Hi:jf X (.type "int") (λxs H Q=>(∃i,xs=[.int i]∧Q (.int i) H)∨∃k,xs=[.bl k]∧Q (.int (if k then 1 else 0)) H):=by
 intro pins s σ H xs us Q I r h;rcases h with ⟨i,rfl,q⟩ | ⟨k,rfl,q⟩
 ·obtain ⟨u,rfl,t,rfl⟩:=vals1 r;exact call_int_int ⟨.int i,H,I,⟨_,rfl⟩,q⟩
 ·obtain ⟨u,rfl,r1⟩:=vals1 r;cases r1
  exact call_int_bool ⟨.int (if k then 1 else 0),H,I.tok _,⟨_,rfl⟩,q⟩
end
structure ObjM (h:Heap) (x dx C:Addr) (mA:Str→Option Value):Prop where
 obj:h.get? x=some (PySem.W.instObj C dx)
 ns:h.Ns1 dx mA
 ne:dx≠x
theorem Iz {h:Heap} {dx:Addr} {mA:Str→Option Value} (n:h.Ns1 dx mA):∃od,h.get? dx=some od∧∀name,PySem.W.lookIn name od=some (mA name):=by
 obtain ⟨o,es,ep,ho,hd,hk,_,hm⟩:=n;refine ⟨o,ho,λname=>?_⟩;have e:=hm name;unfold nsFind findBy at e;rw[←Array.find?_toList] at e;unfold PySem.W.lookIn;rw[hd];dsimp only;split
 ·rename_i y q
  rw[q] at e;exact congrArg some e
 ·rename_i q
  rw[q] at e;have a:es.toList.any (·.refKey)=false:=by
   rw[List.any_eq_false];intro y hy;obtain ⟨z,t,hkey⟩:=hk y (Array.mem_toList_iff.mp hy);simp[DictEntry.refKey,hkey]
  have a':¬es.toList.any (·.refKey)=true:=by rw[a];exact aak
  rw[if_neg a'];exact congrArg some e
theorem ObjM.look {h:Heap} {x dx C:Addr} {mA:Str→Option Value} (I:ObjM h x dx C mA):∃od,PySem.W.InstAt h x (PySem.W.instObj C dx) C (some od)∧∀name,PySem.W.lookIn name od=some (mA name):=
 let ⟨od,ho,hl⟩:=Iz I.ns
 ⟨od,⟨I.obj,rfl,rfl,ho⟩,hl⟩
theorem nu.some_of {v:V} {o:Option Value} (r:nu (some v) o):∃u,o=some u∧RelV v u:=by
 cases o with
 | none=>exact (show False from r).elim
 | some u=>exact ⟨u,rfl,r⟩
section
variable {P:Program} {w:World} {H H':Hp} {h h':Heap} {a C dx:Addr} {fs fs':List (Str×V)}
theorem Pm (hok:HOk P w H h) (e:H a=some (.ins C dx fs)):∃mA,ObjM h a dx C mA∧(∀f,nu (fs.lookup f) (mA f))∧PySem.Within mA (fs.map (·.1))∧fs.length≤1000∧H dx=some (.own a):=by
 obtain ⟨d,z,ne,ob,mA,n,r,q⟩:=(show cf P w H h a (.ins C dx fs) from hok a _ e);exact ⟨mA,⟨ob,n,ne⟩,r,q,z,d⟩
end
structure Cls (K:PySem.W.Frag) (C:Addr):Prop where
 pg:PySem.W.plainGet K C Str.empty=true
 hd:PySem.W.hasDictIn K C=true
 po:PySem.W.plainOver K C=true
 sa:PySem.W.findIn K (.ref C) "__setattr__"=some (some (.builtin "object.__setattr__"))
theorem Cls.get {K:PySem.W.Frag} {C:Addr} (c:Cls K C) (f:Str):PySem.W.plainGet K C f=true:=c.pg
section
variable {X:Cx} {pins:List (Addr×Obj)} {σ:St} {H:Hp} {s:Shared} {A:Around} {E:Value→Shared→Prop} {Q:Value→Shared→Prop} {c:Value} {b:Bool}
inductive qy (K:PySem.W.Frag) (H:Hp):V→Value→Prop where
 | non:qy K H .non (.type "NoneType")
 | bl (x:Bool):qy K H (.bl x) (.type "bool")
 | int (i:Int):qy K H (.int i) (.type "int")
 | str (x:Str):qy K H (.str x) (.type "str")
 | flt (x:UInt64):qy K H (.flt x) (.type "float")
 | lst {a:Addr} {xs:List V} (e:H a=some (.lst xs)):qy K H (.ref a) (.type "list")
 | frz {a:Addr} {o:Obj} {xs:List V} (e:H a=some (.frz o (.lst xs))):qy K H (.ref a) (.type "list")
 | tup {a:Addr} {xs:List V} (e:H a=some (.tup xs)):qy K H (.ref a) (.type "tuple")
 | dK {a:Addr} {kvs:List (Key×V)} (e:H a=some (.dK kvs)):qy K H (.ref a) (.type "dict")
 | dT {a:Addr} {kvs:List (List Key×V)} (e:H a=some (.dT kvs)):qy K H (.ref a) (.type "dict")
 | ins {a C dx:Addr} {fs:List (Str×V)} (e:H a=some (.ins C dx fs)) (cl:Cls K C) (ha:PySem.W.findIn K (.ref C) "__class__"=some (some (.builtin "object.__class__")))
   (hn:PySem.W.specialIn K (.builtin "object.__class__") "__get__"=some (some (.builtin "getset_descriptor.__get__"))) (htk:PySem.W.takesIn K (.builtin "object.__class__")=some true)
   (hm:PySem.W.mroIn K C (.type "object")=some true):qy K H (.ref a) (.ref C)
theorem Ha {x:V} {u t:Value} (I:Inv X pins σ H s) (rx:RelV x u) (ty:qy X.K H x t) (e:PySem.W.kitOne X.K t c=some b) (h:∀tk,Q (.bool b) { s with toks:=tk }):
  wpAny (model X.prog X.w) A (call (.builtin "isinstance") [u,c]) Q E s:=by
 cases ty with
 | non=>cases (show u=Value.none from rx);exact PySem.W.kia_one PySem.W.kitx_none I.kIn True.intro e (λz=>nomatch z) h
 | bl y=>cases (show u=Value.bool y from rx);exact PySem.W.kia_one PySem.W.kitx_bool I.kIn True.intro e (λz=>nomatch z) h
 | int i=>obtain ⟨t,q⟩:=(show ∃t,u=Value.int i t from rx);cases q;exact PySem.W.kia_one PySem.W.kitx_int I.kIn True.intro e (λz=>nomatch z) h
 | str y=>obtain ⟨t,q⟩:=(show ∃t,u=Value.str y t from rx);cases q;exact PySem.W.kia_one PySem.W.kitx_str I.kIn True.intro e (λz=>nomatch z) h
 | flt y=>obtain ⟨t,q⟩:=(show ∃t,u=Value.float y t from rx);cases q;exact PySem.W.kia_one PySem.W.kitx_float I.kIn True.intro e (λz=>nomatch z) h
 | @lst a xs ea=>
  cases (show u=Value.ref a from rx)
  obtain ⟨_,_,n,_,h1⟩:=(show cf X.prog X.w H s.heap a (.lst xs) from I.hok a _ ea);exact PySem.W.kia_one PySem.W.kitx_list I.kIn ⟨_,h1,rfl⟩ e (λz=>nomatch z) h
 | @frz a ob xs ea=>
  cases (show u=Value.ref a from rx)
  obtain ⟨_,_,_,n,_,h1⟩:=(show cf X.prog X.w H s.heap a (.frz ob (.lst xs)) from I.hok a _ ea);exact PySem.W.kia_one PySem.W.kitx_list I.kIn ⟨_,h1,rfl⟩ e (λz=>nomatch z) h
 | @tup a xs ea=>
  cases (show u=Value.ref a from rx)
  obtain ⟨_,_,_,p⟩:=(show cf X.prog X.w H s.heap a (.tup xs) from I.hok a _ ea);obtain ⟨o,h1,h2,_⟩:=p;exact PySem.W.kia_one PySem.W.kitx_tuple I.kIn ⟨o,h1,h2⟩ e (λz=>nomatch z) h
 | @dK a kvs ea=>
  cases (show u=Value.ref a from rx)
  obtain ⟨_,_,vs,_,p⟩:=(show cf X.prog X.w H s.heap a (.dK kvs) from I.hok a _ ea);obtain ⟨o,es,ep,h1,h2,_⟩:=p;exact PySem.W.kia_one PySem.W.kitx_dict I.kIn ⟨o,h1,h2.1⟩ e (λz=>nomatch z) h
 | @dT a kvs ea=>
  cases (show u=Value.ref a from rx)
  obtain ⟨_,_,xs,_,o,es,ep,h1,h2,_⟩:=(show cf X.prog X.w H s.heap a (.dT kvs) from I.hok a _ ea);exact PySem.W.kia_one PySem.W.kitx_dict I.kIn ⟨o,h1,h2.1⟩ e (λz=>nomatch z) h
 | @ins a C dx fs ea cl ha hn htk hm=>
  cases (show u=Value.ref a from rx)
  obtain ⟨mA,O,_⟩:=Pm I.hok ea;obtain ⟨od,J,_⟩:=O.look;exact PySem.W.kia_one (PySem.W.kitx_own (cl.get _) cl.hd ha hn htk hm) I.kIn J e (λz=>nomatch z) h
end
structure fz (k:Nat) (A:Around):Prop where
 hd:A.handled=none
 dp:A.depth+3*k+5 < recursionLimit
 un:A.units+16*k+200 < cLine
theorem fz.mono {j k:Nat} {A:Around} (r:fz k A) (h:j≤k):fz j A:=⟨r.hd,by have:=r.dp;omega,by have:=r.un;omega⟩
theorem fz.deeper {k:Nat} {A:Around} (r:fz (k+1) A) (env:Env):fz k (A.deeper env):=
 ⟨r.hd,by have:=r.dp;show A.depth+1+3*k+5 < _;omega,by have:=r.un;show A.units+3+16*k+200 < _;omega⟩
theorem fz.depth {k:Nat} {A:Around} (r:fz k A):A.depth < recursionLimit:=by have:=r.dp;omega
theorem fz.units {k:Nat} {A:Around} (r:fz k A):A.units+64 < cLine:=by have:=r.un;omega
def Dg:TA:=λ_ H Q=>Q [] H
def Bm (ta:TE) (tr:TA):TA:=λσ H Q=>ta σ H λx H1=>tr σ H1 λxs H2=>Q (x::xs) H2
section
variable {X:Cx} {e:Expr} {es:List Expr} {te:TE} {t:TA} {pos:Pos}
theorem Mp:PA X [] Dg:=λ_ _ _ _ H Q I h=>Calls.spliced_nil ⟨[],H,I,.nil,h⟩
theorem Ak (ha:PE X e te) (hr:PA X es t) (hs:starEach (e::es) X.env=(false,eval e X.env)::starEach es X.env:=by rfl):PA X (e::es) (Bm te t):=by
 intro pos pins s σ H Q I h;rw[hs];show wpAny _ _ (spliced ((false,eval e X.env)::backTo pos (starEach es X.env))) _ _ s
 refine Calls.spliced_cons (thn (ha pins s σ H _ I h) λu s1 ⟨x,H1,I1,r1,q1⟩=>?_);exact thn (hr pos pins s1 σ H1 _ I1 q1) λus s2 ⟨xs,H2,I2,r2,q2⟩=>⟨x::xs,H2,I2,.cons r1 r2,q2⟩
def tTup (t:TA):TE:=λσ H Q=>t σ H λxs H1=>xs.length≤sizeLine∧∀p,H1 p=none→Q (.ref p) (upd H1 p (.tup xs))
def tLst (t:TA):TE:=λσ H Q=>t σ H λxs H1=>xs.length≤sizeLine∧∀p,H1 p=none→Q (.ref p) (upd H1 p (.lst xs))
theorem pe_tup {x1} (h:PA X es t):PE X (.Tuple es x1 pos) (tTup t):=by
 intro pins s σ H Q I hq;refine wpAny_Tuple_spliced (thn (h pos pins s σ H _ I hq) λus s1 ⟨xs,H1,I1,r,z,q⟩=>⟨by rw[←r.length];exact z,?_⟩);have hf:H1 s1.heap.objs.size=none:=I1.hok.fresh (aa3 _);refine ⟨.ref s1.heap.objs.size,upd H1 s1.heap.objs.size (.tup xs),I1.laid (t':=s1.toks) (λb u e=>Heap.get?_push_of_some _ e) (aa3 _) ?_,rfl,q _ hf⟩;exact ⟨z,us,r,⟨_,Heap.get?_push_size _ rfl,rfl,_,rfl,rfl⟩⟩
theorem pe_lst (h:PA X es t):PE X (.List es pos) (tLst t):=by
 intro pins s σ H Q I hq;refine wpAny_List_spliced (thn (h pos pins s σ H _ I hq) λus s1 ⟨xs,H1,I1,r,z,q⟩=>⟨by rw[←r.length];exact z,?_⟩);have hf:H1 s1.heap.objs.size=none:=I1.hok.fresh (aa3 _);refine ⟨.ref s1.heap.objs.size,upd H1 s1.heap.objs.size (.lst xs),I1.laid (t':=s1.toks) (λb u e=>Heap.get?_push_of_some _ e) (aa3 _) ?_,rfl,q _ hf⟩;exact ⟨z,us,0,r,Heap.get?_push_size _ rfl⟩
end
abbrev Sp:=List V→Hp→VK→XK→Prop
abbrev CXT:=List Env→Hp→Shared→XK→Value→Shared→Prop
structure Env0 (P:Program) (w:World) (K:PySem.W.Frag) (mg:Str→Option Value) (base:Heap) (A:Around) (outer:List Env) (s:Shared) (H:Hp):Prop where
 frames:A.frames=some outer
 mod:Mod K mg base
 bs:∀b o,base.get? b=some o→s.heap.get? b=some o∧H b=none
 bsz:base.objs.size≤s.heap.objs.size
 qr:s.heap.FunFrames base outer
 frf:∀b∈frs outer,H b=none
 hok:HOk P w H s.heap
 bare:AllBare s.gens
def CE (outer:List Env) (P:Program) (w:World) (H:Hp) (s:Shared) (Q:VK) (u:Value) (s':Shared):Prop:=
 ∃v H',s'.os=s.os∧AllBare s'.gens∧Un (frs outer) [] H H' s.heap s'.heap∧HOk P w H' s'.heap∧RelV v u∧Q v H'
def CR (CX:CXT) (outer:List Env) (P:Program) (w:World) (H:Hp) (s:Shared) (Q:VK) (E:XK) (r:Result) (s':Shared):Prop:=
 match r with
 | .ok (.ret u)=>CE outer P w H s Q u s'
 | .ok _=>False
 | .error e=>CX outer H s E e s'
structure mi (P:Program) (w:World) (K:PySem.W.Frag) (mg:Str→Option Value) (base:Heap) (CX:CXT) (k:Nat) (f:Addr) (fd:FuncData) (ps:List Str) (sp:Sp):Prop where
 len:∀vs H Q E,sp vs H Q E→vs.length=ps.length
 run:∀(A:Around) (outer:List Env) (s:Shared) (H:Hp) (args:Args) (us:List Value) (vs:List V) (Q:VK) (E:XK),fz k A→Env0 P w K mg base A outer s H→BindsTo s fd args (ps.zip us)→Vals vs us→sp vs H Q E→
  codeAny (model P w) A (.call (.ref f) args) (CR CX outer P w H s Q E) s
theorem mi.mono {P:Program} {w:World} {K:PySem.W.Frag} {mg:Str→Option Value} {base:Heap} {CX:CXT} {j k:Nat} {f:Addr} {fd:FuncData} {ps:List Str} {sp:Sp} (F:mi P w K mg base CX j f fd ps sp) (h:j≤k):
  mi P w K mg base CX k f fd ps sp:=⟨F.len,λA outer s H args us vs Q E hr=>F.run A outer s H args us vs Q E (hr.mono h)⟩
section
variable {X:Cx} {pins:List (Addr×Obj)} {σ:St} {H:Hp} {s s':Shared}
theorem Inv.jg (I:Inv X pins σ H s):Env0 X.prog X.w X.K X.mg X.base X.A X.stack s H:=
 ⟨I.ok.frames,I.ok.mod,I.bs,aau I.ok.bsz I.sz,I.stack,I.Af,I.hok,I.bare⟩
theorem Inv.after {Q:VK} {u:Value} (I:Inv X pins σ H s) (h:CE X.stack X.prog X.w H s Q u s'):EP X pins σ Q u s':=by
 obtain ⟨v,H',os,bare,un,hok,r,q⟩:=h;obtain ⟨hh,g,d,t,os'⟩:=s';obtain rfl:os'=s.os:=os;exact ⟨v,H',I.call (h':=hh) (g':=g) (d':=d) (t':=t) (ch:=[]) un hok bare (λb z=>absurd z (by simp)),r,q⟩
end
def Gq (sp:Sp) (dvs:List V) (E:XK) (t:TA):TE:=λσ H Q=>t σ H λvs H1=>sp (vs++dvs) H1 Q E
def Binds (K:PySem.W.Frag) (fd:FuncData) (ps:List Str) (ds:List Value):Prop:=
 ∀(s:Shared) (us:List Value),K.In s.heap→(us++ds).length=ps.length→BindsTo s fd ⟨us,[]⟩ (ps.zip (us++ds))
theorem Binds.all {K:PySem.W.Frag} {fd:FuncData} {ps:List Str} (h:∀us:List Value,us.length=ps.length→bindArgs fd ⟨us,[]⟩=pure (ps.zip us)):Binds K fd ps []:=λs us _ hl=>by
 rw[ab7] at hl ⊢;exact .of_eq (h us hl)
def Passes (CX:CXT) (X:Cx) (E:XK):Prop:=∀(pins:List (Addr×Obj)) (σ:St) (H:Hp) (s:Shared) (e:Value) (s':Shared),Inv X pins σ H s→CX X.stack H s E e s'→X.xe e s'
section
variable {X:Cx} {CX:CXT} {k:Nat} {f C:Addr} {fd:FuncData} {ps:List Str} {sp:Sp} {dvs:List V} {ds:List Value} {E:XK} {x m:Str} {p pos apos:Pos} {e o:Expr} {es:List Expr} {ta:TE} {t:TA}
theorem run_fn {pins:List (Addr×Obj)} {σ:St} {H:Hp} {s:Shared} {Q:VK} {us:List Value} {vs:List V} (F:mi X.prog X.w X.K X.mg X.base CX k f fd ps sp) (hr:fz k X.A) (hb:Binds X.K fd ps ds) (hd:Vals dvs ds) (hx:Passes CX X E)
  (I:Inv X pins σ H s) (r:Vals vs us) (h:sp (vs++dvs) H Q E):wpAny (model X.prog X.w) X.A (call (.ref f) us) (EP X pins σ Q) X.xe s:=by
 have r2:Vals (vs++dvs) (us++ds):=r.append hd;have hl:(us++ds).length=ps.length:=by rw[←r2.length];exact F.len _ _ _ _ h
 refine wpAny_call (codeAny_mono (F.run X.A X.stack s H ⟨us,[]⟩ (us++ds) (vs++dvs) Q E hr I.jg (hb s us I.kIn hl) r2 h) λr s' hq=>?_);cases r with
 | error e=>exact hx pins σ H s e s' I hq
 | ok fl=>
  cases fl with
  | ret u=>exact I.after hq
  | next=>exact False.elim hq
  | brk=>exact False.elim hq
  | cont=>exact False.elim hq
theorem Gi (F:mi X.prog X.w X.K X.mg X.base CX k f fd ps sp) (hr:fz k X.A) (hg:Gl X x) (hm:X.mg x=some (.ref f)) (hk:PySem.W.keepIn X.K (.ref f)=true) (hb:Binds X.K fd ps ds) (hd:Vals dvs ds) (hx:Passes CX X E)
  (ha:PA X (e::es) t) (hdb:(x==("__debug__":Str))=false:=by decide) (he:starEach (e::es) X.env=(false,eval e X.env)::starEach es X.env:=by rfl) (hpl:(backTo pos (starEach es X.env)).any (·.1)=false:=by rfl):
  PE X (.Call (.Name x p) (e::es) [] pos) (Gq sp dvs E t):=by
 intro pins s σ H Q I h;refine wpAny_Call_Name_kw (pw I hg hm ?_ hdb);refine PySem.W.callWith_K (h₀:=X.base) I.ok.mod.kin hk (thn (ha pos pins s σ H _ I h) λus s1 ⟨vs,H1,I1,r,q⟩=>⟨I1.kIn,?_⟩) he hpl;exact run_fn F hr hb hd hx I1 r q
end
structure ax (N P:List Str) (sc:Scope):Prop where
 kind:sc.kind=.function
 co:sc.isCoroutine=false
 gen:sc.isGenerator=false
 nd:N.Nodup
 pre:N.take P.length=P
 par:∀x∈P,sc.names.lookup x=some .local∨sc.names.lookup x=some .cell
 nofree:∀y∈sc.names,y.2≠.free
theorem zb {kindOf:Str→Option NameKind} {x:Str}:∀{binds:List (Str×Value)} {m:Str→Option Value},(∀v,(x,v)∉binds)→bindL kindOf binds m x=m x
 | [],_,_=>rfl
 | (n,v)::r,m,h=>by
  unfold bindL;rw[zb λw hw=>h w (aab _ hw)];split
  ·have:x≠n:=by rintro rfl;exact h v aa7
   simp[this]
  ·rfl
theorem y8 {kindOf:Str→Option NameKind} {x:Str}:∀{binds:List (Str×Value)} {m:Str→Option Value},(∀v,(x,v)∉binds)→bindC kindOf binds m x=m x
 | [],_,_=>rfl
 | (n,v)::r,m,h=>by
  unfold bindC;rw[y8 λw hw=>h w (aab _ hw)];split
  ·rfl
  ·have:x≠n:=by rintro rfl;exact h v aa7
   simp[this]
theorem zd {kindOf:Str→Option NameKind} {x:Str} {v:Value}:∀{P:List Str} {vs:List Value} {i:Nat} {m:Str→Option Value},P.Nodup→P[i]?=some x→vs[i]?=some v→kindOf x=some .local→
  bindL kindOf (P.zip vs) m x=some v
 | [],_,_,_,_,h,_,_=>by simp at h
 | _::_,[],_,_,_,_,h,_=>by simp at h
 | p::P,w::vs,0,m,nd,h1,h2,hk=>by
  simp at h1 h2;subst h1;subst h2;show bindL kindOf ((p,w)::P.zip vs) m p=_
  unfold bindL;rw[zb λv hv=>(List.nodup_cons.mp nd).1 (ac2 hv).1,if_pos hk];simp
 | p::P,w::vs,i+1,m,nd,h1,h2,hk=>by
  show bindL kindOf ((p,w)::P.zip vs) m x=_
  unfold bindL;exact zd (i:=i) (List.nodup_cons.mp nd).2 (by simpa using h1) (by simpa using h2) hk
theorem yw {kindOf:Str→Option NameKind} {x:Str} {v:Value}:∀{P:List Str} {vs:List Value} {i:Nat} {m:Str→Option Value},P.Nodup→P[i]?=some x→vs[i]?=some v→kindOf x≠some .local→
  bindC kindOf (P.zip vs) m x=some v
 | [],_,_,_,_,h,_,_=>by simp at h
 | _::_,[],_,_,_,_,h,_=>by simp at h
 | p::P,w::vs,0,m,nd,h1,h2,hk=>by
  simp at h1 h2;subst h1;subst h2;show bindC kindOf ((p,w)::P.zip vs) m p=_
  unfold bindC;rw[y8 λv hv=>(List.nodup_cons.mp nd).1 (ac2 hv).1,if_neg hk];simp
 | p::P,w::vs,i+1,m,nd,h1,h2,hk=>by
  show bindC kindOf ((p,w)::P.zip vs) m x=_
  unfold bindC;exact yw (i:=i) (List.nodup_cons.mp nd).2 (by simpa using h1) (by simpa using h2) hk
noncomputable def start (N:List Str) (vs:List V):St:=vs.map some++aal (N.length - vs.length) none
noncomputable def nc (CX:CXT) (P:Program) (w:World) (K:PySem.W.Frag) (mg:Str→Option Value) (base:Heap) (N:List Str) (qual:Str) (scope:Scope) (f:Addr) (cd:Value) (A:Around) (outer:List Env) (s:Shared) (H:Hp) (E:XK):Cx where
 prog:=P
 w:=w
 K:=K
 mg:=mg
 base:=base
 A:=A.deeper (envOfC qual scope s.heap.objs.size f cd)
 N:=N
 s₀:=s
 H₀:=H
 env:=envOfC qual scope s.heap.objs.size f cd
 outer:=outer
 stack:=envOfC qual scope s.heap.objs.size f cd::outer
 ex:=[]
 calm:=true
 fn:=λ_=>true
 pn:=[]
 xe:=λe s'=>wpAny (model P w) (A.deeper (envOfC qual scope s.heap.objs.size f cd)) (leaving (envOfC qual scope s.heap.objs.size f cd) e) (λ_ s''=>CX outer H s E e s'') (λe' s''=>CX outer H s E e' s'') s'
theorem Cu {sc:Scope} {n:Nat} {x:Str} (h:sc.names.lookup x=some .cell):∃c,(cellsFrom n sc.names []).lookup x=some c:=by
 have q:=PySem.W.cellsFrom_some sc.names n [] (.inl h);exact Option.isSome_iff_exists.mp q
theorem Hb {CX:CXT} {P:Program} {w:World} {K:PySem.W.Frag} {mg:Str→Option Value} {base:Heap} {N ps:List Str} {qual:Str} {scope:Scope} {f:Addr} {cd:Value} {A:Around} {outer:List Env} {s s1:Shared} {H:Hp} {E:XK} {us:List Value} {vs:List V}
  (S:ax N ps scope) (hd:A.handled=none) (e0:Env0 P w K mg base A outer s H) (hl:vs.length=ps.length) (r:Vals vs us)
  (x:InCallC s s.heap.objs.size (bindL (envOfC qual scope s.heap.objs.size f cd).kindOf (ps.zip us) λ_=>none) (cellsFrom (s.heap.objs.size+1) scope.names []) (bindC (envOfC qual scope s.heap.objs.size f cd).kindOf (ps.zip us) λ_=>none) s1):
  Inv (nc CX P w K mg base N qual scope f cd A outer s H E) [] (start N vs) H s1:=by
 have hpl:ps.length≤N.length:=by have:=congrArg ad0 S.pre;rw[ab1] at this;omega
 obtain ⟨h1,tk,rfl,hk⟩:=x.done;have noA:∀b:Addr,b∉(nc CX P w K mg base N qual scope f cd A outer s H E).ex:=λb z=>absurd (show b∈([]:List Addr) from z) (by simp);refine ⟨⟨e0.mod,S.kind,rfl,rfl,aa3 _,λy z c h1 h2=>?_,λy hy=>?_,λy c _ h=>?_,λ_=>hd,Around.frames_deeper e0.frames,.inr ⟨rfl,rfl⟩,λb z=>absurd z (noA b),e0.bs,e0.bsz,λb _ _=>noA b,λb z=>absurd z (noA b),e0.qr,e0.frf⟩,
  rfl,e0.bare,Un.kept hk,⟨_,x.toInCall.ns,λi y v h1 h2 h3=>?_⟩,λy c h=>⟨_,x.cell y c h⟩,e0.hok.fresh (aa3 _),λy c h=>?_,λp hp=>absurd (show p∈([]:List (Addr×Obj)) from hp) (by simp),e0.hok.kept hk,?_⟩
 ·exact name_of_addr x.apart (PySem.mem_of_lookup h1) (PySem.mem_of_lookup h2)
 ·have hy:scope.names.lookup y=some .cell∨scope.names.lookup y=some .free:=hy;rcases hy with hy | hy
  ·exact Cu hy
  ·exact absurd rfl (S.nofree _ (PySem.mem_of_lookup hy))
 ·exact abq (x.above y c (PySem.mem_of_lookup h))
 ·have hi:i < vs.length:=by
   unfold start at h2;by_cases hi:i < vs.length
   ·exact hi
   ·rw[aad (by simpa using hi)] at h2;rw[adx] at h2;split at h2 <;> cases h2
  have ha:vs[i]?=some v:=by
   unfold start at h2;rw[aaf (by simpa using hi),aac] at h2;cases e:vs[i]? with
   | none=>rw[e] at h2;cases h2
   | some a=>rw[e] at h2;cases h2;rfl
  obtain ⟨u,hu,rv⟩:=r.get ha;have hp:ps[i]?=some y:=by
   rw[←S.pre,acs (by omega)];exact h1
  have ndP:ps.Nodup:=by rw[←S.pre];exact S.nd.sublist (adn _ _)
  refine ⟨u,rv,?_⟩;rcases S.par y (aah hp) with k | k
  ·exact .inl ⟨k,zd ndP hp hu k⟩
  ·obtain ⟨c,e⟩:=Cu (n:=s.heap.objs.size+1) k;refine .inr ⟨.inl k,c,e,?_⟩;have q:=x.cell y c e;rw[yw ndP hp hu (by show scope.names.lookup y≠_;rw[k];decide)] at q;exact q
 ·exact e0.hok.fresh (abq (x.above y c (PySem.mem_of_lookup h)))
 ·unfold start;show _=N.length
  rw[aa2,aa0,abc];omega
theorem fn_of {CX:CXT} {P:Program} {w:World} {K:PySem.W.Frag} {mg:Str→Option Value} {base:Heap} {k:Nat} {f:Addr} {name qual:Str} {params:Arguments} {body:List Stmt} {scope:Scope} {dV kV doc pm cdv ct oc:Value} {an od:Option Addr}
  {osl:Array (Option Value)} {N ps:List Str} {sp:Sp} (lk:K.lookup f=some ⟨oc,od,.func (PySem.W.fnOf name qual params body scope dV kV doc pm an cdv ct),osl⟩) (hcd:PySem.W.codeIn K cdv qual=true) (S:ax N ps scope)
  (len:∀vs H Q E,sp vs H Q E→vs.length=ps.length)
  (hbody:∀(A:Around) (outer:List Env) (s:Shared) (H:Hp) (vs:List V) (Q:VK) (E:XK),fz k (A.deeper (envOfC qual scope s.heap.objs.size f cdv))→sp vs H Q E→
   ∃t,PSs (nc CX P w K mg base N qual scope f cdv A outer s H E) body t∧t { nx:=λ_ H'=>Q .non H',rt:=Q } (start N vs) H):
  mi P w K mg base CX (k+1) f (PySem.W.fnOf name qual params body scope dV kV doc pm an cdv ct) ps sp:=by
 refine ⟨len,λA outer s H args us vs Q E hr e0 hb r hsp=>?_⟩;have hl:=len _ _ _ _ hsp;have KX:K.In s.heap:=e0.mod.kin.keeps λb o e=>(e0.bs b o e).1;have lim:s.heap.NoLimit:=e0.mod.nolimit.keeps λb o e=>(e0.bs b o e).1;have hkind:∀y∈ps.zip us,scope.names.lookup y.1=some .local∨(scope.names.lookup y.1=some .cell∧((cellsFrom (s.heap.objs.size+1) scope.names []).lookup y.1).isSome=true):=λ⟨n,v⟩ hy=>by
  rcases S.par n (ac2 hy).1 with q | q
  ·exact .inl q
  ·exact .inr ⟨q,PySem.W.cellsFrom_some _ _ _ (.inl q)⟩
 refine codeAny_call_function hr.depth (KX _ _ lk) rfl S.co S.gen rfl (PySem.W.codeRec_of KX hcd) (hb _ _ _ _ ?_);refine wpAny_newFunctionEnv_cells S.kind hkind λenv he s1 x=>?_;subst he;refine ⟨lim.keeps x.toInCall.keep,codeAny_func ?_⟩;obtain ⟨t,ht,hq⟩:=hbody A outer s H vs Q E (hr.deeper _) hsp;have I:Inv (nc CX P w K mg base N qual scope f cdv A outer s H E) [] (start N vs) H s1:=Hb S hr.hd e0 hl r x;refine wpAny_mono (ht [] s1 (start N vs) H _ I hq) (λfl s' hs=>?_) λe s' hs=>hs;have fin:∀{σ':St} {H':Hp} {v:V} {u:Value},Inv (nc CX P w K mg base N qual scope f cdv A outer s H E) [] σ' H' s'→RelV v u→Q v H'→CE outer P w H s Q u s':=
  λ{σ' H' v u} J rv q=>⟨v,H',J.os,J.bare,J.base,J.hok,rv,q⟩
 cases fl with
 | ret u=>
  obtain ⟨v,σ',H',J,rv,q⟩:=hs;exact fin J rv q
 | next=>
  obtain ⟨σ',H',J,q⟩:=hs;exact fin (v:=V.non) (u:=Value.none) J rfl q
 | brk=>
  obtain ⟨_,_,_,q⟩:=hs;exact False.elim q
 | cont=>
  obtain ⟨_,_,_,q⟩:=hs;exact False.elim q
section
variable {X:Cx} {x:Str} {p pos:Pos} {e:Expr} {es:List Expr} {t:TA} {id T:String} {r:List V→Hp→VK→Prop}
def tCB (r:List V→Hp→VK→Prop) (t:TA):TE:=λσ H Q=>t σ H λvs H1=>r vs H1 Q
theorem Jk (hc:jf X (.builtin id) r) (hg:Gl X x) (hm:X.mg x=none) (hv:bootBuiltins x=some (.builtin id)) (ha:PA X (e::es) t) (hn:x≠"__name__":=by decide) (hdb:(x==("__debug__":Str))=false:=by decide)
  (he:starEach (e::es) X.env=(false,eval e X.env)::starEach es X.env:=by rfl) (hpl:(backTo pos (starEach es X.env)).any (·.1)=false:=by rfl):PE X (.Call (.Name x p) (e::es) [] pos) (tCB r t):=by
 intro pins s σ H Q I h;refine wpAny_Call_Name_kw (g9 I hg hm hv ?_ hn hdb);exact PyProof.Rows.callWith_builtin1 (thn (ha pos pins s σ H _ I h) λus s1 ⟨vs,H1,I1,r1,q1⟩=>hc pins s1 σ H1 vs us Q I1 r1 q1) he hpl
theorem Hr (hc:jf X (.type T) r) (hg:Gl X x) (hm:X.mg x=none) (hv:bootBuiltins x=some (.type T)) (ha:PA X (e::es) t) (hn:x≠"__name__":=by decide) (hdb:(x==("__debug__":Str))=false:=by decide)
  (he:starEach (e::es) X.env=(false,eval e X.env)::starEach es X.env:=by rfl) (hpl:(backTo pos (starEach es X.env)).any (·.1)=false:=by rfl):PE X (.Call (.Name x p) (e::es) [] pos) (tCB r t):=by
 intro pins s σ H Q I h;refine wpAny_Call_Name_kw (g9 I hg hm hv ?_ hn hdb);exact PyProof.Rows.callWith_type1 (thn (ha pos pins s σ H _ I h) λus s1 ⟨vs,H1,I1,r1,q1⟩=>hc pins s1 σ H1 vs us Q I1 r1 q1) he hpl
end
end L2
namespace HT
open PySem PyProof.Rows
section
open PySem.SeqAt
open PySem.AutoSeq1 (wpAny_loadPart')
open PySem.MeetsSeq PySem.MeetsSeq2 PySem.MeetsSeq3
end
section
variable {prog:Program} {w:World} {A:Around} {E:Value→Shared→Prop} {s:Shared}
theorem Nj {t b:Addr} {vs ws:List Value} {Q:Value→Shared→Prop} (ht:IsTup s.heap t vs.toArray) (hb:IsTup s.heap b ws.toArray) (hv:vs≠[])
  (h1:ws=[]→Q (.ref t) s) (h2:ws≠[]→Q (.ref s.heap.objs.size) { s with heap:=s.heap.push { cls:=.type "tuple",data:=.seq (vs++ws).toArray } })
  (hsz:vs.length+ws.length≤sizeLine):wpAny (model prog w) A (binaryOp .Add (.ref t) (.ref b)) Q E s:=by
 obtain ⟨⟨cls,dd,data,sl⟩,ho,hc,n,hd⟩:=id ht;obtain ⟨⟨cls2,dd2,data2,sl2⟩,ho2,hc2,n2,hd2⟩:=id hb;simp only at hc hd hc2 hd2;subst hc hd hc2 hd2;have e:vs.toArray++ws.toArray=(vs++ws).toArray:=by simp
 by_cases hw:ws=[]
 ·exact concat_meets ⟨_,ho,rfl⟩ ⟨_,ho2,rfl⟩ noFill_tuple_add seq_tuple_add PySem.F.slot_tuple_add PySem.F.entry_tuple_add (PySem.F.args_tuple_add_2 _ _)
   (tuple_addW1 t b vs.toArray ws.toArray n n2 dd dd2 sl sl2 (by simpa using hv) (by simp[hw])) ⟨ho,ho2,h1 hw⟩
 ·refine concat_meets ⟨_,ho,rfl⟩ ⟨_,ho2,rfl⟩ noFill_tuple_add seq_tuple_add PySem.F.slot_tuple_add PySem.F.entry_tuple_add (PySem.F.args_tuple_add_2 _ _)
   (tuple_addW2 t b vs.toArray ws.toArray n n2 dd dd2 sl sl2 (by simpa using hv) (by simpa using hw) (by rw[aa5,aa5];exact hsz)) ⟨ho,ho2,?_⟩
  rw[e];exact h2 hw
noncomputable def sIx (n d:Nat):Option Int→Nat
 | none=>d
 | some v=>if v < 0 then (v+(n:Int)).toNat else min v.toNat n
theorem Di (n d:Nat):sIx n d none=d:=rfl
theorem Fb (n d k:Nat):sIx n d (some (k:Int))=min k n:=by
 show (if (k:Int) < 0 then ((k:Int)+(n:Int)).toNat else min (k:Int).toNat n)=min k n
 rw[if_neg (by omega),acg]
theorem sIx_le (n d:Nat) (hd:d≤n) (o:Option Int):sIx n d o≤n:=by
 cases o with
 | none=>exact hd
 | some v=>
  show (if v < 0 then (v+(n:Int)).toNat else min v.toNat n)≤n
  by_cases hv:v < 0
  ·rw[if_pos hv];omega
  ·rw[if_neg hv];exact Nat.min_le_right _ _
theorem Gh (v:Int) (n d:Nat):(if v < 0 then max (v+(n:Int)) 0 else min v (n:Int))=((sIx n d (some v):Nat):Int):=by
 show (if v < 0 then max (v+(n:Int)) 0 else min v (n:Int))=(((if v < 0 then (v+(n:Int)).toNat else min v.toNat n):Nat):Int)
 by_cases hv:v < 0
 ·simp only[if_pos hv];omega
 ·simp only[if_neg hv];omega
theorem El (lo hi:Option Int) (n:Nat):Builtin.Slice.sliceAdjust lo hi 1 (n:Int)=(((sIx n 0 lo:Nat):Int),((sIx n n hi:Nat):Int)):=by
 have h1:¬((1:Int) < 0):=by omega
 unfold Builtin.Slice.sliceAdjust;simp only[h1,if_false];refine Prod.ext ?_ ?_
 ·cases lo with
  | none=>rfl
  | some v=>exact Gh v n 0
 ·cases hi with
  | none=>rfl
  | some v=>exact Gh v n n
theorem Em (i j:Nat):Builtin.Slice.slicePlaces (i:Int) (j:Int) 1=j - i:=by
 unfold Builtin.Slice.slicePlaces;have h1:(1:Int) > 0:=by omega
 simp only[h1,if_true,Int.ediv_one];split <;> omega
theorem uy {v:Value} {o:Option Int} {Q:Option Int→Shared→Prop} (p:IsPart v o) (h:Q o s):wpAny (model prog w) A (Builtin.Slice.slicePartIndex v) Q E s:=by
 cases p with
 | none=>exact slicePart_none h
 | int i t=>exact slicePart_int h
theorem i6 {sl:Addr} {vl vu:Value} {lo hi:Option Int} {n:Nat} {Q:Int×Int×Nat→Shared→Prop} (hs:s.heap.IsSliceOf sl vl vu .none) (pl:IsPart vl lo) (pu:IsPart vu hi)
  (h:Q (((sIx n 0 lo:Nat):Int),1,sIx n n hi - sIx n 0 lo) s):wpAny (model prog w) A (Builtin.Slice.sliceApplied (.ref sl) (pure (n:Int))) Q E s:=by
 obtain ⟨os,hos,hcs,hds⟩:=id hs;unfold Builtin.Slice.sliceApplied Builtin.Slice.sliceFields;refine wpAny_bind (wpAny_bind (wpAny_field hos hds (x:=vl) rfl (wpAny_bind (wpAny_field hos hds (x:=vu) rfl (wpAny_bind (wpAny_field hos hds (x:=.none) rfl (wpAny_pure ?_)))))));refine wpAny_bind (slicePart_none ?_);show wpAny _ _ (if ((1:Int)==0)=true then _ else _) _ _ s
 rw[if_neg (by decide)];refine wpAny_bind (uy pl (wpAny_bind (uy pu (wpAny_bind (wpAny_pure ?_)))));show wpAny _ _ (match Builtin.Slice.sliceAdjust lo hi 1 (n:Int) with | (lo,hi)=>pure (lo,(1:Int),Builtin.Slice.slicePlaces lo hi 1)) _ _ s
 rw[El lo hi n];show wpAny _ _ (pure (((sIx n 0 lo:Nat):Int),(1:Int),Builtin.Slice.slicePlaces ((sIx n 0 lo:Nat):Int) ((sIx n n hi:Nat):Int) 1)) _ _ s
 rw[Em];exact wpAny_pure h
theorem Ms (xs:Array Value) (i k:Nat):((aax k).filterMap λ(m:Nat)=>xs[((i:Int)+(m:Int)*1).toNat]?).toArray=((xs.toList.drop i).take k).toArray:=by
 have e:(λ(m:Nat)=>xs[((i:Int)+(m:Int)*1).toNat]?)=λm=>xs[i+m]?:=by
  funext m
  have:((i:Int)+(m:Int)*1).toNat=i+m:=by omega
  rw[this]
 rw[e];have:=pick_run xs i k;rw[List.filterMap_map] at this;have e2:((λx=>xs[x]?) ∘ λx=>i+x)=λm=>xs[i+m]?:=rfl;rw[e2] at this;rw[this]
theorem o7 {t sl:Addr} {items:Array Value} {vl vu:Value} {lo hi:Option Int} {Q:Value→Shared→Prop} (ht:IsTup s.heap t items) (hs:s.heap.IsSliceOf sl vl vu .none) (pl:IsPart vl lo) (pu:IsPart vu hi)
  (hw:¬(sIx items.size 0 lo=0∧sIx items.size items.size hi=items.size))
  (h:Q (.ref s.heap.objs.size) { s with heap:=s.heap.push { cls:=.type "tuple",data:=.seq ((items.toList.drop (sIx items.size 0 lo)).take (sIx items.size items.size hi - sIx items.size 0 lo)).toArray } })
  (hsz:items.size≤sizeLine):wpAny (model prog w) A (getItem (.ref t) (.ref sl)) Q E s:=by
 have htake:sizeOk (.seq ((items.toList.drop (sIx items.size 0 lo)).take (sIx items.size items.size hi - sIx items.size 0 lo)).toArray):=by
  show ((items.toList.drop (sIx items.size 0 lo)).take (sIx items.size items.size hi - sIx items.size 0 lo)).toArray.size≤sizeLine
  rw[aa5,ab1,aap,abx];omega
 have hj:sIx items.size items.size hi≤items.size:=sIx_le _ _ (aa3 _) hi;obtain ⟨os,hos,hcs,hds⟩:=id hs;have hTs:s.TypeIs (.ref sl) "slice":=⟨os,hos,hcs⟩;unfold getItem;try with_reducible refine wpAny_holding ?_
 first | refine wpAny_bind (wpAny_pure ?_) | skip
 refine wpAny_bind (wpAny_sequenceKey ht.typeIs (by decide) ?_);refine wpAny_bind (wpAny_callSpecial?_slot (name:=Str.ofString "__getitem__") ht.typeIs PyProof.Rows.slot_tuple_getitem
  (wpAny_call_entry PyProof.Rows.slot_tuple_getitem ht.typeIs entry_tuple_getitem ?_ (args_tuple_getitem _ _)))
 show wpAny _ _ (Builtin.Tuple.tupleItemsOf (.ref t) >>=_) _ _ s
 refine wpAny_bind (tupleItemsOf_ ht ?_);refine wpAny_bind (wpAny_typeOf hTs ?_);rw[if_pos (by decide)];refine wpAny_bind (i6 hs pl pu ?_);have hno:¬((((sIx items.size 0 lo:Nat):Int)==0&&(1:Int)==1&&(sIx items.size items.size hi - sIx items.size 0 lo)==items.size)=true):=by
  intro q;rw[ac8,ac8] at q;have q1:((sIx items.size 0 lo:Nat):Int)=0:=eq_of_beq q.1.1;have q2:sIx items.size items.size hi - sIx items.size 0 lo=items.size:=eq_of_beq q.2;exact hw ⟨by omega,by omega⟩
 show wpAny _ _ (if (((sIx items.size 0 lo:Nat):Int)==0&&(1:Int)==1&&(sIx items.size items.size hi - sIx items.size 0 lo)==items.size)=true then _ else _) _ _ s
 rw[if_neg hno,Ms];first
  | exact wpAny_bind (m:=Builtin.Tuple.tupleExact _) (wpAny_newObj_type (wpAny_pure ⟨_,rfl,wpAny_pure h⟩) htake)
  | exact wpAny_bind (m:=Builtin.Tuple.tupleExact _) (wpAny_newObj_type (wpAny_bind (wpAny_pure (wpAny_pure ⟨_,rfl,wpAny_pure h⟩))) htake)
  | exact wpAny_bind (wpAny_bind (m:=Builtin.Tuple.tupleExact _) (wpAny_newObj_type (wpAny_pure (wpAny_pure ⟨_,rfl,wpAny_pure h⟩)) htake))
  | exact wpAny_bind (wpAny_bind (m:=Builtin.Tuple.tupleExact _) (wpAny_newObj_type (wpAny_pure ⟨_,rfl,wpAny_pure h⟩) htake))
end
end HT
namespace L2
open PySem PySem.Spec PyProof.Rows
abbrev TO:=St→Hp→(Option Int→Hp→Prop)→Prop
def PO (X:Cx) (e:Option Expr) (t:TO):Prop:=
 ∀(pins:List (Addr×Obj)) (s:Shared) (σ:St) (H:Hp) (Q:Option Int→Hp→Prop),Inv X pins σ H s→t σ H Q→
  wpAny (model X.prog X.w) X.A (evalPart e X.env) (λu s'=>∃o H',Inv X pins σ H' s'∧IsPart u o∧Q o H') X.xe s
def Fj:TO:=λ_ H Q=>Q none H
def Mo (t:TE):TO:=λσ H Q=>t σ H λx H1=>∃i,x=.int i∧Q (some i) H1
theorem intsAre_of {ns:List Int}:∀{us:List Value},Vals (ns.map V.int) us→IntsAre us ns:=by
 induction ns with
 | nil=>intro us r;rw[ad6] at r;cases r;exact .nil
 | cons n ns ih=>
  intro us r;rw[aaw] at r;cases r with
  | cons r1 r2=>
   obtain ⟨t,e⟩:=r1;subst e;exact .cons n t (ih r2)
section
variable {X:Cx} {e:Expr} {te:TE} {lo hi:Option Expr} {tl th:TO} {pos p2:Pos}
theorem ll:PO X none Fj:=by
 intro pins s σ H Q I h;rw[evalPart_none];exact wpAny_pure ⟨none,H,I,.none,h⟩
theorem Oc (h:PE X e te):PO X (some e) (Mo te):=by
 intro pins s σ H Q I hw;rw[evalPart_some];refine thn (h pins s σ H _ I hw) λu s1 ⟨x,H1,I1,r1,q1⟩=>?_;obtain ⟨i,rfl,q⟩:=q1;obtain ⟨t,rfl⟩:=r1;exact ⟨some i,H1,I1,.int i t,q⟩
def SlR (X:Cx) (r:V→Option Int→Option Int→Hp→VK→Prop):Prop:=
 ∀(pins:List (Addr×Obj)) (s:Shared) (σ:St) (H:Hp) (x:V) (v vl vu:Value) (lo hi:Option Int) (sl:Addr) (Q:VK),Inv X pins σ H s→RelV x v→s.heap.IsSliceOf sl vl vu .none→IsPart vl lo→IsPart vu hi→r x lo hi H Q→
  ∃T id,typeLookup (.type T) "__getitem__"=pure (some (.builtin id))∧s.TypeIs v T∧wpAny (model X.prog X.w) X.A (getItem v (.ref sl)) (EP X pins σ Q) X.xe s
def tSl (r:V→Option Int→Option Int→Hp→VK→Prop) (te:TE) (tl th:TO):TE:=λσ H Q=>te σ H λx H1=>tl σ H1 λl H2=>th σ H2 λu H3=>r x l u H3 Q
theorem Jb {r:V→Option Int→Option Int→Hp→VK→Prop} (hr:SlR X r) (he:PE X e te) (hl:PO X lo tl) (hu:PO X hi th):PE X (.Subscript e (.Slice lo hi none p2) pos) (tSl r te tl th):=by
 intro pins s σ H Q I h;refine Subscript_ (thn (he pins s σ H _ I h) λv s1 ⟨x,H1,I1,r1,q1⟩=>?_);refine wpAny_Slice (thn (hl pins s1 σ H1 _ I1 q1) λvl s2 ⟨l,H2,I2,pl,q2⟩=>thn (hu pins s2 σ H2 _ I2 q2) λvu s3 ⟨u,H3,I3,pu,q3⟩=>?_);rw[evalPart_none];refine wpAny_pure ?_;have I4:Inv X pins σ H3 { s3 with heap:=s3.heap.push { cls:=.type "slice",data:=.fields #[vl,vu,.none] } }:=I3.kept (t':=s3.toks) λb ob q=>Heap.get?_push_of_some _ q;obtain ⟨T,id,hT,ht,hg⟩:=hr pins { s3 with heap:=s3.heap.push { cls:=.type "slice",data:=.fields #[vl,vu,.none] } } σ H3 x v vl vu l u s3.heap.objs.size Q I4 r1 (Heap.IsSliceOf.new ..) pl pu q3;show wpAny (model X.prog X.w) X.A (subscriptTail e (.Slice lo hi none p2) v (.ref s3.heap.objs.size)) (EP X pins σ Q) X.xe { s3 with heap:=s3.heap.push { cls:=.type "slice",data:=.fields #[vl,vu,.none] } }
 exact tail_any (ops:=[.ref s3.heap.objs.size,v]) ht hT hg (by with_unfolding_all rfl)
noncomputable def jh (xs:List V) (lo hi:Option Int):List V:=(xs.drop (HT.sIx xs.length 0 lo)).take (HT.sIx xs.length xs.length hi - HT.sIx xs.length 0 lo)
theorem sk (xs:List V) (lo hi:Option Int):(jh xs lo hi).length≤xs.length:=by
 unfold jh;rw[ab1,aap];omega
def rSlT (K:PySem.W.Frag):V→Option Int→Option Int→Hp→VK→Prop:=λx lo hi H Q=>∃a xs,x=.ref a∧SqT K H a xs∧
 ¬(HT.sIx xs.length 0 lo=0∧HT.sIx xs.length xs.length hi=xs.length)∧∀p,H p=none→Q (.ref p) (upd H p (.tup (jh xs lo hi)))
theorem sl_tup:SlR X (rSlT X.K):=by
 intro pins s σ H x v vl vu lo hi sl Q I rx hs pl pu h;obtain ⟨a,xs,rfl,hx,hw,q⟩:=h;cases rx
 obtain ⟨its,r,ht,hz⟩:=I.tuple hx;have hlen:its.toArray.size=xs.length:=by rw[aa5];exact r.length.symm
 refine ⟨"tuple",_,PyProof.Rows.slot_tuple_getitem.lookup,ht.typeIs,?_⟩;refine HT.o7 ht hs pl pu (by rw[hlen];exact hw) ?_ (by rw[hlen];exact hz);rw[hlen];refine ⟨.ref s.heap.objs.size,_,I.laid (t':=s.toks) (o:=.tup (jh xs lo hi)) (λb ob q=>Heap.get?_push_of_some _ q) (aa3 _) ?_,rfl,q _ (I.hok.fresh (aa3 _))⟩;exact ⟨aau (sk xs lo hi) hz,_,(r.drop (HT.sIx xs.length 0 lo)).take (HT.sIx xs.length xs.length hi - HT.sIx xs.length 0 lo),⟨_,Heap.get?_push_size _ rfl,rfl,_,rfl,rfl⟩⟩
def rCatT (K:PySem.W.Frag):R2:=λx y H Q=>∃a b xs ys,x=.ref a∧y=.ref b∧SqT K H a xs∧SqT K H b ys∧xs≠[]∧xs.length+ys.length≤sizeLine∧
 (ys=[]→Q (.ref a) H)∧(ys≠[]→∀p,H p=none→Q (.ref p) (upd H p (.tup (xs++ys))))
theorem Vals.uc {xs:List V} {us:List Value} (r:Vals xs us):us=[]↔xs=[]:=by
 cases r with
 | nil=>simp
 | cons _ _=>simp
theorem Pq:OpR X (binaryOp .Add) (rCatT X.K):=by
 intro pins s σ H x y v u Q I rx ry h;obtain ⟨a,b,xs,ys,rfl,rfl,ha,hb,hx,hz,q1,q2⟩:=h;cases rx
 cases ry
 obtain ⟨its,r1,p1,_⟩:=I.tuple ha;obtain ⟨its2,r2,p2,_⟩:=I.tuple hb;refine HT.Nj p1 p2 (λz=>hx (r1.uc.mp z)) (λz=>⟨.ref a,H,I,rfl,q1 (r2.uc.mp z)⟩) (λz=>?_) (by rw[←r1.length,←r2.length];exact hz);refine ⟨.ref s.heap.objs.size,_,I.laid (t':=s.toks) (o:=.tup (xs++ys)) (λb ob q=>Heap.get?_push_of_some _ q) (aa3 _) ?_,rfl,q2 (λw=>z (r2.uc.mpr w)) _ (I.hok.fresh (aa3 _))⟩;exact ⟨by rw[aa2];exact hz,_,r1.append r2,⟨_,Heap.get?_push_size _ rfl,rfl,_,rfl,rfl⟩⟩
end
noncomputable def ixN (n:Nat) (i:Int):Option Nat:=if 0≤i then (if i < n then some i.toNat else none) else if -(n:Int)≤i then some (i+n).toNat else none
noncomputable def atI {α:Type} (xs:List α) (i:Int):Option α:=(ixN xs.length i).bind λj=>xs[j]?
theorem Gk {n:Nat} {i:Int} {j:Nat} (h:ixN n i=some j):seqIndex? i n=some j∧j < n∧-(n:Int)≤i∧i < n:=by
 unfold ixN at h;by_cases h0:0≤i
 ·rw[if_pos h0] at h;by_cases h1:i < n
  ·rw[if_pos h1] at h;have e:i.toNat=j:=aa4 h;exact ⟨by rw[seqIndex_of h0 h1,e],by omega,by omega,h1⟩
  ·rw[if_neg h1] at h;cases h
 ·rw[if_neg h0] at h;by_cases h1:-(n:Int)≤i
  ·rw[if_pos h1] at h;have e:(i+n).toNat=j:=aa4 h;exact ⟨by rw[seqIndex_neg (by omega) h1,e],by omega,h1,by omega⟩
  ·rw[if_neg h1] at h;cases h
theorem Aj {α:Type} {xs:List α} {i:Int} {v:α} (h:atI xs i=some v):∃j,seqIndex? i xs.length=some j∧xs[j]?=some v∧j < xs.length∧-(xs.length:Int)≤i∧i < xs.length:=by
 unfold atI at h;cases e:ixN xs.length i with
 | none=>rw[e] at h;cases h
 | some j=>
  rw[e] at h;obtain ⟨h1,h2,h3,h4⟩:=Gk e;exact ⟨j,h1,h,h2,h3,h4⟩
theorem bb {α:Type} {xs:List α} {j:Nat} {v:α} (h:xs[j]?=some v):atI xs (j:Int)=some v:=by
 have hj:j < xs.length:=(List.getElem?_eq_some_iff.mp h).1;have e:ixN xs.length (j:Int)=some j:=by
  unfold ixN;rw[if_pos (by omega),if_pos (by omega)];simp
 unfold atI;rw[e];exact h
def Oi (b:Expr):Prop:=∀o i,subscripted b false o i=operate [o,i] (getItem o i)
def IxR (X:Cx) (r:R2):Prop:=
 ∀(value slice:Expr) (pins:List (Addr×Obj)) (s:Shared) (σ:St) (H:Hp) (x y:V) (v u:Value) (Q:VK),Inv X pins σ H s→RelV x v→RelV y u→r x y H Q→
  subscripted slice false v u=operate [v,u] (getItem v u)→wpAny (model X.prog X.w) X.A (subscriptTail value slice v u) (EP X pins σ Q) X.xe s
def MtR (X:Cx) (id:String) (r:V→List V→Hp→VK→Prop):Prop:=
 ∀(pins:List (Addr×Obj)) (s:Shared) (σ:St) (H:Hp) (x:V) (xs:List V) (v:Value) (us:List Value) (Q:VK),Inv X pins σ H s→RelV x v→Vals xs us→r x xs H Q→
  wpAny (model X.prog X.w) X.A (call (.builtin id) (v::us)) (EP X pins σ Q) X.xe s
section
variable {X:Cx} {a b:Expr} {ta tb:TE} {pos:Pos}
theorem pe_ix {r:R2} (hr:IxR X r) (ha:PE X a ta) (hb:PE X b tb) (hs:Oi b):PE X (.Subscript a b pos) (tOp r ta tb):=by
 intro pins s σ H Q I h;exact Subscript_ (binT ha hb I h λv u s2 x y H2 I2 rx ry q=>hr a b pins s2 σ H2 x y v u Q I2 rx ry q (hs _ _))
def rIxL (K:PySem.W.Frag):R2:=λx y H Q=>∃p xs i v,x=.ref p∧y=.int i∧SqL K H p xs∧atI xs i=some v∧Q v H
def rIxT (K:PySem.W.Frag):R2:=λx y H Q=>∃p xs i v,x=.ref p∧y=.int i∧SqT K H p xs∧atI xs i=some v∧Q v H
def rIxS:R2:=λx y H Q=>∃z i c,x=.str z∧y=.int i∧z.length≤sizeLine∧atI z.cps.toList i=some c∧Q (.str ⟨#[c]⟩) H
theorem Fe:IxR X (rIxL X.K):=by
 intro value slice pins s σ H x y v u Q I rx ry h hs;obtain ⟨p,xs,i,z,rfl,rfl,hq,he,q⟩:=h;cases rx
 obtain ⟨t,rfl⟩:=ry;obtain ⟨its,r,pl,hz⟩:=I.list hq;obtain ⟨j,h1,h2,h3,h4,h5⟩:=Aj he;obtain ⟨w,ew,rw'⟩:=r.get h2;have hl:=r.length;have hn:=vz;have fin:EP X pins σ Q w s:=⟨z,H,I,rw',q⟩;by_cases h0:0≤i
 ·have hj:i.toNat=j:=by
   rw[seqIndex_of h0 h5] at h1;exact aa4 h1
  exact item_listR pl.isList h0 (by omega) (by rw[hj];simpa using ew) fin hs
 ·have hj:(i+(its.toArray.size:Int)).toNat=j:=by
   rw[seqIndex_neg (by omega) h4] at h1;rw[aa5,←hl];exact aa4 h1
  exact subscriptTail_builtinR (x:=w) pl.isList.typeIs slot_list_getitem.lookup
   (wpAny_getItem_list_neg (Q:=λr s'=>r=w∧EP X pins σ Q r s') pl.isList (by omega) (by rw[aa5] <;> omega) (by omega) (by rw[hj];simpa using ew) ⟨rfl,fin⟩) hs
theorem Jl:IxR X (rIxT X.K):=by
 intro value slice pins s σ H x y v u Q I rx ry h hs;obtain ⟨p,xs,i,z,rfl,rfl,hq,he,q⟩:=h;cases rx
 obtain ⟨t,rfl⟩:=ry;obtain ⟨its,r,pl,hz⟩:=I.tuple hq;obtain ⟨j,h1,h2,h3,h4,h5⟩:=Aj he;obtain ⟨w,ew,rw'⟩:=r.get h2;have hl:=r.length;have hn:=vz;have fin:EP X pins σ Q w s:=⟨z,H,I,rw',q⟩;exact subscriptTail_builtinR (x:=w) pl.typeIs slot_tuple_getitem.lookup
  (getItem_tuple (j:=j) (Q:=λr s'=>r=w∧EP X pins σ Q r s') pl (by omega) (by omega) (by rw[aa5,←hl];exact h1) (by simpa using ew) ⟨rfl,fin⟩) hs
theorem lh:IxR X rIxS:=by
 intro value slice pins s σ H x y v u Q I rx ry h hs;obtain ⟨z,i,c,rfl,rfl,hz,he,q⟩:=h;obtain ⟨t,rfl⟩:=rx;obtain ⟨t',rfl⟩:=ry;obtain ⟨j,h1,h2,h3,h4,h5⟩:=Aj he;have hl:z.cps.toList.length=z.length:=by simp[Str.length]
 rw[hl] at h1 h4 h5;have hn:=vz;exact tail_any (typeIs_str s z t) slot_str_getitem.lookup (getItem_str (c:=c) (by
  have e1:decide (i < -(2 ^ 63:Int))=false:=decide_eq_false (by omega);have e2:decide (i≥2 ^ 63)=false:=decide_eq_false (by omega);rw[e1,e2,adm]) (by rw[h1];simpa using h2) ⟨.str ⟨#[c]⟩,H,I.tok _,⟨_,rfl⟩,q⟩) hs
theorem Et (its:List Value) (n j:Nat) (u:Value):Obj.mapSeq (·.setIfInBounds j u) { cls:=.type "list",data:=.seq its.toArray n }={ cls:=.type "list",data:=.seq (its.set j u).toArray n }:=by
 simp[Obj.mapSeq]
theorem Inv.lst {pins:List (Addr×Obj)} {σ:St} {H:Hp} {s:Shared} {p:Addr} {xs:List V} (I:Inv X pins σ H s) (h:H p=some (.lst xs)):
  ∃(its:List Value) (n:Nat),Vals xs its∧s.heap.get? p=some { cls:=.type "list",data:=.seq its.toArray n }∧xs.length≤sizeLine:=by
 obtain ⟨z,its,n,r,e⟩:=I.hok p _ h;exact ⟨its,n,r,e,z⟩
theorem Inv.lstUpd {pins:List (Addr×Obj)} {σ:St} {H:Hp} {s:Shared} {p:Addr} {xs ys:List V} {its its':List Value} {n n':Nat} {f:Obj→Obj} (I:Inv X pins σ H s) (h:H p=some (.lst xs))
  (ho:s.heap.get? p=some { cls:=.type "list",data:=.seq its.toArray n }) (hf:f { cls:=.type "list",data:=.seq its.toArray n }={ cls:=.type "list",data:=.seq its'.toArray n' }) (r:Vals ys its') (hz:ys.length≤sizeLine) (t:Nat):
  Inv X pins σ (upd H p (.lst ys)) { s with heap:=s.heap.update p f,toks:=t }:=by
 have e:(s.heap.update p f).get? p=some { cls:=.type "list",data:=.seq its'.toArray n' }:=by
  rw[Heap.get?_update_self f ho (by rw[hf] <;> rfl),hf]
 refine I.write (x:=p) (e:=p) (by rw[h];trivial) (.inl rfl) (λb u hb q=>(Heap.get?_update_other _ _ (Ne.symm hb)).trans q) ⟨_,e⟩ ?_;exact ⟨hz,its',n',r,e⟩
def Lz:V→V→V→Hp→(Hp→Prop)→Prop:=λo i v H Q=>∃p xs k j,o=.ref p∧i=.int k∧H p=some (.lst xs)∧ixN xs.length k=some j∧Q (upd H p (.lst (xs.set j v)))
theorem set_list:PSet X Lz:=by
 intro pins s σ H o i v ov iv u Q I ro ri rv h;obtain ⟨p,xs,k,j,rfl,rfl,hp,hj,q⟩:=h;cases ro
 obtain ⟨t,rfl⟩:=ri;obtain ⟨its,n,r,ho,hz⟩:=I.lst hp;obtain ⟨h1,h2,h3,h4⟩:=Gk hj;have hl:=r.length;have hn:=vz;have I':Inv X pins σ (upd H p (.lst (xs.set j v))) { s with heap:=s.heap.update p (Obj.mapSeq (·.setIfInBounds j u)) }:=
  I.lstUpd hp ho (Et its n j u) (r.set rv j) (by rw[List.length_set];exact hz) s.toks
 by_cases h0:0≤k
 ·have hk:k.toNat=j:=by
   rw[seqIndex_of h0 h4] at h1;exact aa4 h1
  exact PySem.W.ki_setAt ho h0 (by omega) (by rw[aa5,←hl];exact h4) (by rw[hk];exact ⟨_,I',q⟩)
 ·have hk:(k+(its.toArray.size:Int)).toNat=j:=by
   rw[seqIndex_neg (by omega) h3] at h1;rw[aa5,←hl];exact aa4 h1
  exact PySem.W.ki_setBack ho (by omega) (by rw[aa5,←hl];exact h3) (by omega) (by rw[hk];exact ⟨_,I',q⟩)
theorem Av (lo hi:Option Int) (n:Nat):(sliceBounds lo hi none n).1=((HT.sIx n 0 lo:Nat):Int)∧(sliceBounds lo hi none n).2.1=((HT.sIx n n hi:Nat):Int)∧(sliceBounds lo hi none n).2.2=1:=by
 refine ⟨?_,?_,rfl⟩
 ·cases lo with
  | none=>simp[sliceBounds,HT.sIx]
  | some i=>
   simp only[sliceBounds,HT.sIx,ads,show (1:Int) > 0 by decide,if_true];by_cases h:i < 0
   ·simp only[h,if_true] <;> omega
   ·simp only[h,if_false] <;> omega
 ·cases hi with
  | none=>simp[sliceBounds,HT.sIx]
  | some i=>
   simp only[sliceBounds,HT.sIx,ads,show (1:Int) > 0 by decide,if_true];by_cases h:i < 0
   ·simp only[h,if_true] <;> omega
   ·simp only[h,if_false] <;> omega
theorem x5 (its:List Value) (lo hi:Option Int):slicePick its.toArray lo hi none=((its.drop (HT.sIx its.length 0 lo)).take (HT.sIx its.length its.length hi - HT.sIx its.length 0 lo)).toArray:=by
 obtain ⟨h1,h2,h3⟩:=Av lo hi its.toArray.size;unfold slicePick;rw[h1,h2,h3];simp only[sliceRange_one,pick_run,aa5] <;> rfl
def rSlL (K:PySem.W.Frag):V→Option Int→Option Int→Hp→VK→Prop:=λx lo hi H Q=>∃a xs,x=.ref a∧SqL K H a xs∧∀p,H p=none→Q (.ref p) (upd H p (.lst (jh xs lo hi)))
theorem t6:SlR X (rSlL X.K):=by
 intro pins s σ H x v vl vu lo hi sl Q I rx hs pl pu h;obtain ⟨a,xs,rfl,hx,q⟩:=h;cases rx
 obtain ⟨its,r,ht,hz⟩:=I.list hx;have hlen:=r.length;refine ⟨"list",_,slot_list_getitem.lookup,ht.isList.typeIs,?_⟩;refine wpAny_getItem_list_slice ht.isList hs pl pu .none (by simp) ?_ (by rw[aa5] <;> omega);rw[x5,←hlen];refine ⟨.ref s.heap.objs.size,_,I.laid (t':=s.toks) (o:=.lst (jh xs lo hi)) (λb ob q=>Heap.get?_push_of_some _ q) (aa3 _) ?_,rfl,q _ (I.hok.fresh (aa3 _))⟩;exact ⟨aau (sk xs lo hi) hz,_,0,(r.drop (HT.sIx xs.length 0 lo)).take (HT.sIx xs.length xs.length hi - HT.sIx xs.length 0 lo),Heap.get?_push_size _ rfl⟩
noncomputable def g6:V→Bool
 | .non=>true
 | .bl _=>true
 | .int _=>true
 | .str _=>true
 | _=>false
noncomputable def eqV:V→V→Bool
 | .non,.non=>true
 | .bl a,.bl b=>a==b
 | .bl a,.int b=>(if a then 1 else 0)==b
 | .int a,.bl b=>a==(if b then 1 else 0)
 | .int a,.int b=>a==b
 | .str a,.str b=>a==b
 | _,_=>false
theorem eqAt_V {A:Around} {s:Shared} {y x:V} {u v:Value} (ry:RelV y u) (rx:RelV x v) (fy:g6 y=true) (fx:g6 x=true):SeqAt.EqAt A s u v (eqV y x):=by
 cases y with
 | non=>
  cases ry
  cases x with
  | non=>cases rx;exact SeqAt.EqAt.same _
  | bl b=>cases rx;exact SeqAt.EqAt.none_bool b
  | int b=>obtain ⟨t,rfl⟩:=rx;exact SeqAt.EqAt.none_int b t
  | str b=>obtain ⟨t,rfl⟩:=rx;exact SeqAt.EqAt.none_str b t
  | _=>exact absurd (show false=true from fx) aak
 | bl a=>
  cases ry
  cases x with
  | non=>cases rx;exact SeqAt.EqAt.bool_none a
  | bl b=>cases rx;exact SeqAt.EqAt.bool_bool a b
  | int b=>obtain ⟨t,rfl⟩:=rx;exact SeqAt.EqAt.bool_int a b t
  | str b=>obtain ⟨t,rfl⟩:=rx;exact SeqAt.EqAt.bool_str a b t
  | _=>exact absurd (show false=true from fx) aak
 | int a=>
  obtain ⟨t',rfl⟩:=ry;cases x with
  | non=>cases rx;exact SeqAt.EqAt.int_none a t'
  | bl b=>cases rx;exact SeqAt.EqAt.int_bool a t' b
  | int b=>obtain ⟨t,rfl⟩:=rx;exact SeqAt.EqAt.int_int a t' b t
  | str b=>obtain ⟨t,rfl⟩:=rx;exact SeqAt.EqAt.int_str a t' b t
  | _=>exact absurd (show false=true from fx) aak
 | str a=>
  obtain ⟨t',rfl⟩:=ry;cases x with
  | non=>cases rx;exact SeqAt.EqAt.str_none a t'
  | bl b=>cases rx;exact SeqAt.EqAt.str_bool a t' b
  | int b=>obtain ⟨t,rfl⟩:=rx;exact SeqAt.EqAt.str_int a t' b t
  | str b=>obtain ⟨t,rfl⟩:=rx;exact SeqAt.EqAt.str_str a t' b t
  | _=>exact absurd (show false=true from fx) aak
 | _=>exact absurd (show false=true from fy) aak
noncomputable def eqU (x:V) (u:Value):Bool:=match u with
 | .none=>eqV .non x
 | .bool b=>eqV (.bl b) x
 | .int i _=>eqV (.int i) x
 | .str z _=>eqV (.str z) x
 | _=>false
theorem La {x y:V} {u:Value} (r:RelV y u) (f:g6 y=true):eqU x u=eqV y x:=by
 cases y with
 | non=>cases r;rfl
 | bl b=>cases r;rfl
 | int i=>obtain ⟨t,rfl⟩:=r;rfl
 | str z=>obtain ⟨t,rfl⟩:=r;rfl
 | _=>exact absurd (show false=true from f) aak
theorem qm {x:V}:∀{xs:List V} {us:List Value},Vals xs us→xs.all g6=true→us.any (eqU x)=xs.any λy=>eqV y x
 | _,_,.nil,_=>rfl
 | y::xs,u::us,.cons r t,f=>by
  rw[List.all_cons,ac8] at f;rw[ad2,ad2,La r f.1,qm t f.2]
theorem kc {A:Around} {s:Shared} {x:V} {v:Value} (rx:RelV x v) (fx:g6 x=true):∀{xs:List V} {us:List Value},Vals xs us→xs.all g6=true→∀u∈us,SeqAt.EqAt A s u v (eqU x u)
 | _,_,.nil,_=>λu hu=>by cases hu
 | y::xs,u::us,.cons r t,f=>λu' hu=>by
  rw[List.all_cons,ac8] at f;rcases List.mem_cons.mp hu with rfl | hu
  ·rw[La r f.1];exact eqAt_V r rx f.1 fx
  ·exact kc rx fx t f.2 u' hu
noncomputable def inV (x:V) (xs:List V):Bool:=xs.any λy=>eqV y x
def rIn (K:PySem.W.Frag) (neg:Bool):R2:=λx y H Q=>∃p xs,y=.ref p∧(SqL K H p xs∨SqT K H p xs)∧g6 x=true∧xs.all g6=true∧Q (.bl (if neg then !inV x xs else inV x xs)) H
theorem zf:OpR X (compareOp .In) (rIn X.K false):=by
 intro pins s σ H x y v u Q I rx ry h;obtain ⟨p,xs,rfl,hq,fx,fs,q⟩:=h;cases ry
 rcases hq with hq | hq
 ·obtain ⟨its,r,pl,hz⟩:=I.list hq;refine SeqAt.in_listAt (eqU x) pl.isList (λw hw=>kc rx fx r fs w (by simpa using hw)) ⟨.bl _,H,I,rfl,?_⟩;rw[show its.toArray.any (eqU x)=its.any (eqU x) by simp,qm r fs];exact q
 ·obtain ⟨its,r,pl,hz⟩:=I.tuple hq;refine SeqAt.in_tupleAt (eqU x) pl (λw hw=>kc rx fx r fs w (by simpa using hw)) ⟨.bl _,H,I,rfl,?_⟩;rw[show its.toArray.any (eqU x)=its.any (eqU x) by simp,qm r fs];exact q
theorem qe:OpR X (compareOp .NotIn) (rIn X.K true):=by
 intro pins s σ H x y v u Q I rx ry h;obtain ⟨p,xs,rfl,hq,fx,fs,q⟩:=h;cases ry
 rcases hq with hq | hq
 ·obtain ⟨its,r,pl,hz⟩:=I.list hq;refine SeqAt.notIn_listAt (eqU x) pl.isList (λw hw=>kc rx fx r fs w (by simpa using hw)) ⟨.bl _,H,I,rfl,?_⟩;rw[show its.toArray.any (eqU x)=its.any (eqU x) by simp,qm r fs];exact q
 ·obtain ⟨its,r,pl,hz⟩:=I.tuple hq;refine SeqAt.notIn_tupleAt (eqU x) pl (λw hw=>kc rx fx r fs w (by simpa using hw)) ⟨.bl _,H,I,rfl,?_⟩;rw[show its.toArray.any (eqU x)=its.any (eqU x) by simp,qm r fs];exact q
theorem Ae:jf X (.builtin "len") (λxs H Q=>∃p ys,xs=[.ref p]∧(SqL X.K H p ys∨SqT X.K H p ys)∧Q (.int ys.length) H):=by
 intro pins s σ H xs us Q I r h;obtain ⟨p,ys,rfl,hq,q⟩:=h;obtain ⟨u,rfl,rx⟩:=vals1 r;cases rx
 have hn:=vz;rcases hq with hq | hq
 ·obtain ⟨its,r',pl,hz⟩:=I.list hq;have hlen:=r'.length;exact Calls.call_len_list pl.isList (by simp only[aa5] <;> omega) ⟨.int ys.length,H,I.tok _,⟨s.toks+1,by rw[aa5,hlen]⟩,q⟩
 ·obtain ⟨its,r',pl,hz⟩:=I.tuple hq;have hlen:=r'.length;exact len_tuple pl (by simp only[aa5] <;> omega) ⟨.int ys.length,H,I.tok _,⟨s.toks+1,by rw[aa5,hlen]⟩,q⟩
theorem xx:jf X (.type "tuple") (λxs H Q=>∃p ys,xs=[.ref p]∧((SqL X.K H p ys∧∀l,H l=none→Q (.ref l) (upd H l (.tup ys)))∨(SqT X.K H p ys∧Q (.ref p) H))):=by
 intro pins s σ H xs us Q I r h;obtain ⟨p,ys,rfl,h⟩:=h;obtain ⟨u,rfl,rx⟩:=vals1 r;cases rx
 rcases h with ⟨hq,q⟩ | ⟨hq,q⟩
 ·obtain ⟨its,r',pl,hz⟩:=I.list hq;have hlen:=r'.length;refine call_tuple_list pl.isList (λh' kp=>?_) (by simp only[aa5] <;> omega);have I1:Inv X pins σ H { s with heap:=h' }:=I.kept (t':=s.toks) kp;have I2:Inv X pins σ (upd H h'.objs.size (.tup ys)) { s with heap:=h'.push { cls:=.type "tuple",data:=.seq its.toArray } }:=
   I1.laid (t':=s.toks) (λb o e=>Heap.get?_push_of_some _ e) (aa3 _) (show cf X.prog X.w _ _ _ (.tup ys) from ⟨hz,its,r',⟨_,Heap.get?_push_size _ rfl,rfl,_,rfl,rfl⟩⟩)
  exact ⟨.ref h'.objs.size,_,I2,rfl,q _ (I1.hok.fresh (aa3 _))⟩
 ·obtain ⟨its,r',pl,hz⟩:=I.tuple hq;exact call_tuple_same pl ⟨.ref p,H,I,rfl,q⟩
def tyV (K:PySem.W.Frag) (T:String) (x:V) (H:Hp):Prop:=match x with
 | .str _=>T="str"
 | .int _=>T="int"
 | .ref p=>(T="list"∧∃xs,SqL K H p xs)∨(T="tuple"∧((∃o,K.lookup p=some o∧o.cls=.type "tuple"∧o.dict=none)∨∃xs,H p=some (.tup xs)))∨
   (T="dict"∧((∃kvs,H p=some (.dK kvs))∨∃kvs,H p=some (.dT kvs)))∨(T="set"∧∃S n,H p=some (.set S n))
 | _=>False
theorem Ke {pins:List (Addr×Obj)} {σ:St} {H:Hp} {s:Shared} {T:String} {x:V} {v:Value} (I:Inv X pins σ H s) (r:RelV x v) (ty:tyV X.K T x H):
  s.TypeIs v T∧∀a,v=.ref a→∃ob,s.heap.get? a=some ob∧ob.dict=none:=by
 cases x with
 | str z=>
  obtain ⟨t,rfl⟩:=r;cases (show T="str" from ty)
  exact ⟨typeIs_str s z t,λ_ e=>nomatch e⟩
 | int i=>
  obtain ⟨t,rfl⟩:=r;cases (show T="int" from ty)
  exact ⟨typeIs_int s i t,λ_ e=>nomatch e⟩
 | ref p=>
  cases r
  rcases ty with ⟨rfl,xs,hq⟩ | ⟨rfl,⟨o,hk,hc,hd⟩ | ⟨xs,hx⟩⟩ | ⟨rfl,hk⟩ | ⟨rfl,S,n,hk⟩
  ·obtain ⟨its,_,pl,_⟩:=I.list hq;refine ⟨pl.isList.typeIs,λa e=>?_⟩;cases e
   obtain ⟨o,n,e,c,hd,_⟩:=pl;exact ⟨o,e,hd⟩
  ·refine ⟨⟨o,I.kIn p o hk,hc⟩,λa e=>?_⟩;cases e
   exact ⟨o,I.kIn _ o hk,hd⟩
  ·obtain ⟨_,its,_,o,h1,h2,n,_,h3⟩:=I.hok p _ hx;refine ⟨⟨o,h1,h2⟩,λa e=>?_⟩;cases e
   exact ⟨o,h1,h3⟩
  ·have z:∃o,s.heap.get? p=some o∧o.ExactDict:=by
    rcases hk with ⟨kvs,hk⟩ | ⟨kvs,hk⟩
    ·obtain ⟨_,_,_,_,o,_,_,e,ex,_⟩:=I.hok p _ hk;exact ⟨o,e,ex⟩
    ·obtain ⟨_,_,_,_,o,_,_,e,ex,_⟩:=I.hok p _ hk;exact ⟨o,e,ex⟩
   obtain ⟨o,e,ex⟩:=z;refine ⟨⟨o,e,ex.1⟩,λa e2=>?_⟩;cases e2
   exact ⟨o,e,ex.2.1⟩
  ·obtain ⟨o,_,_,_,e,ex,_⟩:=I.hok p _ hk;refine ⟨⟨o,e,ex.1⟩,λa e2=>?_⟩;cases e2
   exact ⟨o,e,ex.2.1⟩
 | _=>exact False.elim ty
def tBM0 (K:PySem.W.Frag) (T:String) (r:V→List V→Hp→VK→Prop) (to:TE):TE:=λσ H Q=>to σ H λx H1=>tyV K T x H1∧r x [] H1 Q
def tBM (K:PySem.W.Frag) (T:String) (r:V→List V→Hp→VK→Prop) (to:TE) (t:TA):TE:=λσ H Q=>to σ H λx H1=>tyV K T x H1∧t σ H1 λxs H2=>r x xs H2 Q
variable {o e:Expr} {es:List Expr} {to:TE} {t:TA} {name:Str} {apos cpos:Pos} {T id:String} {r:V→List V→Hp→VK→Prop}
theorem pe_bm0 (pa:PlainAttrs T) (slot:Slot T name id) (hty:typeOf (.builtin id)=pure (.type "method_descriptor")) (hm:MtR X id r) (ho:PE X o to)
  (hbase:attributeBase o name X.env (eval o X.env)=eval o X.env:=by rfl) (hline:(apos.endLine==cpos.line)=true:=by rfl):PE X (.Call (.Attribute o name apos) [] [] cpos) (tBM0 X.K T r to):=by
 intro pins s σ H Q I h;refine wpAny_Call_method0_late hbase hline (thn (ho pins s σ H _ I h) λv s1 ⟨x,H1,I1,r1,ty,q1⟩=>?_);obtain ⟨h1,h2⟩:=Ke I1 r1 ty;exact ⟨T,id,pa,slot,hty,h1,h2,Calls.callWith_builtin rfl (PySem.evalArgs_none (hm pins s1 σ H1 x [] v [] Q I1 r1 .nil q1))⟩
theorem pe_bm (pa:PlainAttrs T) (slot:Slot T name id) (hty:typeOf (.builtin id)=pure (.type "method_descriptor")) (hm:MtR X id r) (ho:PE X o to) (ha:PA X (e::es) t)
  (hbase:attributeBase o name X.env (eval o X.env)=eval o X.env:=by rfl)
  (hfew:((backTo cpos (starEach (e::es) X.env)).all (λx=>!x.1)&&(backToKw cpos (keywordEach [] X.env)).all (λx=>x.1.isSome)
   &&decide ((e::es).length+([]:List Keyword).length+(if ([]:List Keyword).isEmpty then 0 else 1) < 30))=true:=by rfl)
  (hline:(apos.endLine==cpos.line)=true:=by rfl) (hs:starEach (e::es) X.env=(false,eval e X.env)::starEach es X.env:=by rfl) (hplain:(backTo cpos (starEach es X.env)).any (·.1)=false:=by rfl):
  PE X (.Call (.Attribute o name apos) (e::es) [] cpos) (tBM X.K T r to t):=by
 intro pins s σ H Q I h;refine wpAny_Call_method_late hbase hfew hline rfl (thn (ho pins s σ H _ I h) λv s1 ⟨x,H1,I1,r1,ty,q1⟩=>?_);obtain ⟨h1,h2⟩:=Ke I1 r1 ty;refine ⟨T,id,pa,slot,hty,h1,h2,?_⟩;have hA:=ha cpos pins s1 σ H1 _ I1 q1;rw[hs] at hA ⊢;refine Calls.callWith_builtin (by show (false||(backTo cpos (starEach es X.env)).any (·.1))=false;rw[hplain] <;> rfl) (Calls.evalArgs_plain ?_);exact thn hA λus s2 ⟨vs,H2,I2,r2,q2⟩=>hm pins s2 σ H2 x vs v us Q I2 r1 r2 q2
end
def MtM (X:Cx) (id:String) (r:V→List V→Hp→VK→Prop):Prop:=
 ∀(pins:List (Addr×Obj)) (s:Shared) (σ:St) (H:Hp) (x:V) (xs:List V) (v:Value) (us:List Value) (Q:VK),Inv X pins σ H s→RelV x v→Vals xs us→r x xs H Q→
  wpAny (model X.prog X.w) X.A (call (.builtin id) (v::us)) (EP X pins σ Q) X.xe s
theorem Vals.one:∀{x:V} {us:List Value},Vals [x] us→∃u,us=[u]∧RelV x u
 | _,_,.cons r .nil=>⟨_,rfl,r⟩
theorem Vals.zero:∀{us:List Value},Vals [] us→us=[]
 | _,.nil=>rfl
theorem Vals.dropLast {xs:List V} {us:List Value} (h:Vals xs us):Vals xs.dropLast us.dropLast:=by
 induction h with
 | nil=>exact .nil
 | cons r t ih=>
  cases t with
  | nil=>exact .nil
  | cons q t'=>exact .cons r ih
theorem Vals.reverse {xs:List V} {us:List Value} (h:Vals xs us):Vals xs.reverse us.reverse:=by
 induction h with
 | nil=>exact .nil
 | cons r t ih=>rw[ach,ach];exact Vals.append ih (.cons r .nil)
theorem Vals.rep {xs:List V} {us:List Value} (h:Vals xs us):∀k:Nat,Vals (aal k xs).flatten (aal k us).flatten
 | 0=>.nil
 | k+1=>by
  rw[ab3,ab3,abv,abv];exact Vals.append h (Vals.rep h k)
theorem Ez {α:Type} (l:List α):l.eraseIdx (l.length - 1)=l.dropLast:=by
 induction l with
 | nil=>rfl
 | cons a r ih=>
  cases r with
  | nil=>rfl
  | cons b r=>
   have e:(a::b::r).length - 1=((b::r).length - 1)+1:=by
    have h1:(a::b::r).length=r.length+2:=rfl;have h2:(b::r).length=r.length+1:=rfl;omega
   rw[e,List.eraseIdx_cons_succ,ih];all_goals rfl
theorem foldl_rep (its:List Value):∀(k:Nat) (acc:List Value),
  aet (λx1 x2=>x1++x2) acc.toArray (aal k its.toArray)=(acc++(aal k its).flatten).toArray
 | 0,acc=>by simp
 | k+1,acc=>by
  have e:acc.toArray++its.toArray=(acc++its).toArray:=by simp
  have e2:(acc++its)++(aal k its).flatten=acc++(aal (k+1) its).flatten:=by
   rw[ab3,abv,abn]
  rw[←e2,←foldl_rep its k (acc++its),←e,ab3,aeu]
section
variable {X:Cx} {pins:List (Addr×Obj)} {σ:St} {H:Hp} {s:Shared} {l b:Addr} {xs ys zs:List V}
theorem Inv.lset {its its':List Value} {n:Nat} {f:Array Value→Array Value} {t':Nat} (I:Inv X pins σ H s) (hH:H l=some (.lst xs))
  (e:s.heap.get? l=some { cls:=.type "list",data:=.seq its.toArray n }) (hf:f its.toArray=its'.toArray) (hv:Vals ys its') (hz:ys.length≤sizeLine):
  Inv X pins σ (upd H l (.lst ys)) { s with heap:=s.heap.update l (Obj.mapSeq f),toks:=t' }:=by
 have q:=PySem.IsL.update e f;rw[hf] at q;refine I.write (x:=l) (e:=l) (by rw[hH];exact trivial) (.inl rfl) (λb' u hb hu=>(Heap.get?_update_other s.heap (Obj.mapSeq f) (Ne.symm hb)).trans hu) ⟨_,q⟩ ?_;exact ⟨hz,its',_,hv,q⟩
theorem Inv.lnew {its:List Value} {t':Nat} (I:Inv X pins σ H s) (hv:Vals ys its) (hz:ys.length≤sizeLine):
  Inv X pins σ (upd H s.heap.objs.size (.lst ys)) { s with heap:=s.heap.push { cls:=.type "list",data:=.seq its.toArray },toks:=t' }:=
 I.laid (λ_ _ q=>Heap.get?_push_of_some _ q) (aa3 _) ⟨hz,its,0,hv,Heap.get?_push_size _ rfl⟩
theorem Inv.fresh (I:Inv X pins σ H s):H s.heap.objs.size=none:=I.hok.fresh (aa3 _)
theorem Inv.Dk (I:Inv X pins σ H s) (hH:H l=some (.lst xs)):xs.length≤sizeLine∧∃(its:List Value) (n:Nat),Vals xs its∧xs.length=its.length∧s.heap.get? l=some { cls:=.type "list",data:=.seq its.toArray n }:=by
 obtain ⟨z,its,n,r,e⟩:=I.hok l _ hH;exact ⟨z,its,n,r,r.length,e⟩
theorem Cj {n:Nat} (h:n≤sizeLine):Builtin.List.listTooLong n=false:=by
 unfold Builtin.List.listTooLong;exact decide_eq_false (by omega)
end
section
variable {X:Cx}
def ox:V→List V→Hp→VK→Prop:=λx vs H Q=>∃l xs y,x=.ref l∧vs=[y]∧H l=some (.lst xs)∧xs.length < sizeLine∧Q .non (upd H l (.lst (xs++[y])))
theorem y9:MtM X "list.append" ox:=by
 intro pins s σ H x vs v us Q I rx rv h;obtain ⟨l,xs,y,rfl,rfl,hH,hz,q⟩:=h;cases rx
 obtain ⟨u,rfl,ru⟩:=rv.one;obtain ⟨z,its,n,r,hl,e⟩:=I.Dk hH;refine call_meets F.slot_list_append ⟨_,e,rfl⟩ F.entry_list_append (F.args_list_append_2 _ _) (PySem.list_append l its.toArray n u (by rw[aa5];omega)) ⟨e,?_⟩;refine ⟨.non,_,I.lset (its':=its++[u]) hH e (by simp) (r.append (.cons ru .nil)) ?_,rfl,q⟩;rw[aa2,aaa];omega
def P9:V→List V→Hp→VK→Prop:=λx vs H Q=>∃l b xs zs,x=.ref l∧vs=[.ref b]∧H l=some (.lst xs)∧H b=some (.lst zs)∧xs.length+zs.length≤sizeLine∧Q .non (upd H l (.lst (xs++zs)))
theorem i5:MtM X "list.extend" P9:=by
 intro pins s σ H x vs v us Q I rx rv h;obtain ⟨l,b,xs,zs,rfl,rfl,hH,hB,hz,q⟩:=h;cases rx
 obtain ⟨u,rfl,ru⟩:=rv.one;cases ru
 obtain ⟨z,its,n,r,hl,e⟩:=I.Dk hH;obtain ⟨z2,its2,n2,r2,hl2,e2⟩:=I.Dk hB;have hsz:its.toArray.size+its2.toArray.size≤sizeLine:=by rw[aa5,aa5];omega
 have hlong:¬(!its.toArray.isEmpty&&Builtin.List.listTooLong (its.toArray.size+its2.toArray.size))=true:=by
  rw[Cj hsz,Bool.and_false];exact aak
 refine call_meets F.slot_list_extend ⟨_,e,rfl⟩ F.entry_list_extend (F.args_list_extend_2 _ _)
  (AutoSeq1.list_extend_list_list_0 l its.toArray n b its2.toArray n2 hlong (by rw[aa5];omega) (by omega)) ⟨e,e2,?_⟩
 refine ⟨.non,_,I.lset (its':=its++its2) hH e (by simp) (r.append r2) ?_,rfl,q⟩;rw[aa2];omega
def rPop:V→List V→Hp→VK→Prop:=λx vs H Q=>∃l xs y,x=.ref l∧vs=[]∧H l=some (.lst xs)∧xs[xs.length - 1]?=some y∧Q y (upd H l (.lst xs.dropLast))
theorem mx:MtM X "list.pop" rPop:=by
 intro pins s σ H x vs v us Q I rx rv h;obtain ⟨l,xs,y,rfl,rfl,hH,hy,q⟩:=h;cases rx
 have hus:=rv.zero;subst hus;obtain ⟨z,its,n,r,hl,e⟩:=I.Dk hH;obtain ⟨u,hu,ru⟩:=r.get hy;have hy':its.toArray[its.toArray.size - 1]?=some u:=by
  show its.toArray[its.length - 1]?=some u
  rw[←ad3,←hl];exact hu
 refine call_meets F.slot_list_pop ⟨_,e,rfl⟩ F.entry_list_pop (F.args_list_pop_1 _) (MeetsSeq.list_pop_last l its.toArray n u hy' (by rw[aa5];omega)) ⟨e,?_⟩;refine ⟨y,_,I.lset (its':=its.dropLast) hH e ?_ r.dropLast ?_,ru,q⟩
 ·show its.toArray.eraseIdxIfInBounds (its.toArray.size - 1)=its.dropLast.toArray
  rw[aa5,List.eraseIdxIfInBounds_toArray,Ez]
 ·rw[ad7];omega
def rCat:R2:=λx y H Q=>∃l b xs zs,x=.ref l∧y=.ref b∧H l=some (.lst xs)∧H b=some (.lst zs)∧xs.length+zs.length≤sizeLine∧∀p,H p=none→Q (.ref p) (upd H p (.lst (xs++zs)))
theorem op_cat:OpR X (binaryOp .Add) rCat:=by
 intro pins s σ H x y v u Q I rx ry h;obtain ⟨l,b,xs,zs,rfl,rfl,hH,hB,hz,q⟩:=h;cases rx
 cases ry
 obtain ⟨z,its,n,r,hl,e⟩:=I.Dk hH;obtain ⟨z2,its2,n2,r2,hl2,e2⟩:=I.Dk hB;refine PySem.P.add_list e e2 ?_ (by rw[aa5,aa5];omega);have ea:its.toArray++its2.toArray=(its++its2).toArray:=by simp
 rw[ea];exact ⟨.ref _,_,I.lnew (t':=s.toks) (r.append r2) (by rw[aa2];omega),rfl,q _ I.fresh⟩
def rRep:R2:=λx y H Q=>∃l k xs,x=.ref l∧y=.int k∧H l=some (.lst xs)∧-(2 ^ 63)≤k∧k < 2 ^ 63∧xs.length*k.toNat≤sizeLine∧
 ∀p,H p=none→Q (.ref p) (upd H p (.lst (aal k.toNat xs).flatten))
theorem len_rep {α:Type} (xs:List α) (k:Nat):(aal k xs).flatten.length=k*xs.length:=by
 induction k with
 | zero=>simp
 | succ k ih=>rw[ab3,abv,aa2,ih,Nat.succ_mul,adt]
theorem op_rep:OpR X (binaryOp .Mult) rRep:=by
 intro pins s σ H x y v u Q I rx ry h;obtain ⟨l,k,xs,rfl,rfl,hH,h1,h2,hz,q⟩:=h;cases rx
 obtain ⟨t,rfl⟩:=ry;obtain ⟨z,its,n,r,hl,e⟩:=I.Dk hH;have hlen:its.toArray.size*k.toNat≤sizeLine:=by rw[aa5,←hl];exact hz
 have hcap:¬its.toArray.size*k.toNat > (2 ^ 63 - 1) / 8:=by
  have:(sizeLine:Nat)≤(2 ^ 63 - 1) / 8:=by decide
  omega
 have hfit:¬(!Builtin.List.listFitsIndex k)=true:=by
  rw[fitsIndex_both h1 h2];exact aak
 have hlong:¬Builtin.List.listTooLong (its.toArray.size*k.toNat)=true:=by
  rw[Cj hlen];exact aak
 have hnew:aet (λx1 x2=>x1++x2) #[] (aal (if its.toArray.isEmpty=true then 0 else k.toNat) its.toArray)=(aal k.toNat its).flatten.toArray:=by
  have f0:∀m:Nat,aet (λx1 x2=>x1++x2) #[] (aal m its.toArray)=(aal m its).flatten.toArray:=λm=>by
   have:=foldl_rep its m [];rw[adz] at this;exact this
  rw[f0];cases its with
  | nil=>simp
  | cons a r'=>rw[if_neg (by simp)]
 refine wpAny_binaryOp_repeat_ref (T:="list") (U:="int") (by decide) ⟨_,e,rfl⟩ (λs'=>typeIs_int s' k t) noFill_list_mul F.fills_int_mul F.slot_int_rmul repeat_list F.slot_int_index.lookup
  (call_meets F.slot_int_rmul (typeIs_int s k t) F.entry_int_rmul (F.args_int_rmul_2 _ _) (int___rmul___int_list k t l its.toArray n)
   ⟨e,rfl,⟨_,e,rfl⟩,call_meets F.slot_list_mul ⟨_,e,rfl⟩ F.entry_list_mul (F.args_list_mul_2 _ _) (AutoListH.list___mul___list_int_3 l its.toArray n k t hfit hcap hlong) ⟨e,?_⟩⟩)
 rw[hnew];exact ⟨.ref _,_,I.lnew (t':=s.toks) (r.rep k.toNat) (by rw[len_rep,Nat.mul_comm];exact hz),rfl,q _ I.fresh⟩
end
section
variable {prog:Program} {w:World} {A:Around} {E:Value→Shared→Prop} {s:Shared}
set_option maxRecDepth 100000 in
end
end L2
namespace Att
open PySem PySem.W PySem.Calls PyProof.Rows
theorem tj {P:Params} {h:Heap}:∀(ns:List Int) (vs:List Value),WellAll P h vs (ns.map WData.int)→IntsAre vs ns:=by
 intro ns;induction ns with
 | nil=>
  intro vs w;rw[ad6] at w;cases w
  exact .nil
 | cons n ns ih=>
  intro vs w;rw[aaw] at w;cases w with
  | cons a b=>
   cases a
   exact .cons _ _ (ih _ b)
theorem G9 {l:OpenLaw} {n:Nat} (hn:l.most=some n) {P:Params} {h:Heap} {args:List WData} {vals:List Value}
  (hpre:l.row.toRowW.claim.pre args=true) (hwl:WellAll P h vals args):
  ∃a vs ns,vals=[Value.ref a]∧args=[WData.list (ns.map WData.int)]∧h.get? a=some { cls:=.type "list",data:=.seq vs.toArray }∧IntsAre vs ns∧ns.length≤n:=by
 have hsh:WShape.hasAll [] args [.list .int]=true:=(pre_splitW hpre).1;have hc:l.pre.holds [] { args:=args }=true:=(pre_splitW hpre).2;obtain ⟨d,r,rfl,h1,h2⟩:=hasAllW_cons hsh;obtain rfl:=hasAllW_nil h2;obtain ⟨xs,rfl,h3⟩:=hasW_list h1;obtain ⟨ns,rfl⟩:=items_int h3;have hlen:ns.length≤n:=by
  unfold OpenLaw.pre at hc;have h4:(WTm.not (.lt (.lit (.int (n:Int))) (.len (.arg 0)))).holds [] { args:=[.list (ns.map .int)] }=true:=by
   have h4:=(holds_andW hc).1;rw[hn] at h4;exact h4
  have h5:=condW_of h4 (w_not (w_lt w_lit (w_len_list (w_arg rfl))));rw[aa0] at h5;refine ael λq=>?_;have q':(n:Int) < ((ns.length:Nat):Int):=by omega
  first
   | (rw[decide_eq_true q'] at h5;exact absurd h5 (by decide))
   | (simp at h5;omega)
 cases hwl with
 | cons w1 w2=>
  cases w2
  cases w1 with
  | list ho hall=>exact ⟨_,_,ns,rfl,rfl,ho,tj ns _ hall,hlen⟩
theorem Im (l:OpenLaw) (args:List WData):l.row.toRowW.claim.post args (.bool true) args=true:=
 postW_of (r:=l.row.toRowW) (X:=(true==true))
  (show WShape.has [] (.bool true) .bool=true by first | rfl | decide | simp[WShape.has,WShape.arms,WShape.armsAll])
  (show (WTm.eq .res (.lit (.bool true))).value [] { args:=args,res:=some (.bool true),after:=args }=some (.bool (true==true)) from w_eq_bool (w_res rfl) w_lit) rfl
theorem Bv {l:OpenLaw} {n:Nat} {q:Program} {loose:List Str} {XP:(Str→Option Value)→Heap→Prop} {YP:World→Heap→Prop} {d:DefRec}
  (hn:l.most=some n) (hdf:d.params.defaults=[])
  (call:∀(w:World) (s₀ s₁:Shared) (mg mb:Str→Option Value) (fa:Addr) (o:Obj) (pm cd doc:Value) (a:Addr) (vs:List Value) (ns:List Int),
   Ground q loose [] XP w s₀ mg mb s₁.heap→YP w s₁.heap→
   s₁.heap.get? fa=some o→o.data=.func (docDef d.name d.params d.body d.scope pm cd doc)→s₁.heap.CodeRec cd d.name→mg d.name=some (.ref fa)→
   s₁.heap.get? a=some { cls:=.type "list",data:=.seq vs.toArray }→IntsAre vs ns→ns.length≤n→s₁.gens=#[]→
   codeAny (model l.prog w) callerA (.call (.ref fa) ⟨[.ref a],[]⟩) (λr s'=>r=.ok (.ret (.bool true))∧OldK s₁.heap s'.heap∧s'.os=s₁.os∧AllBare s'.gens) s₁):
  WalkO q loose XP YP l.row.toRowW d [] (λf vs=>PySem.call f vs):=by
 intro w s₀ s₁ mg mb G Y fa o pm cd doc dV kV ho hd hcd hD hmg hg args vals as hpre hlay hrd hwl hlo;obtain rfl:dV=.none:=Dflts.none hD hdf;obtain rfl:kV=.none:=Dflts.noKw hD;obtain ⟨a,vs,ns,rfl,rfl,hobj,hints,hlen⟩:=G9 hn hpre hwl;refine enter_call (codeAny_mono (call w s₀ s₁ mg mb fa o pm cd doc a vs ns G Y ho (fd_plain hd) hcd hmg hobj hints hlen hg) λr s' hq=>?_);obtain ⟨rfl,h2,h3,h4⟩:=hq;exact ⟨.inl ⟨.bool true,.bool true,[],rfl,λ_=>rfl,.bool true,Im l _,λ_=>⟨aei,λ_ hm=>(nomatch hm)⟩⟩,h2,h3,h4⟩
end Att
namespace L2
open PySem PySem.Spec PyProof.Rows
theorem x9:∀{vs:List Value} {ns:List Int},IntsAre vs ns→Vals (ns.map V.int) vs
 | _,_,.nil=>.nil
 | _,_,.cons n t h=>.cons ⟨t,rfl⟩ (x9 h)
def Only (H:Hp):Prop:=∀b,H b=none∨∃o xs,H b=some (.frz o (.lst xs))
theorem Kv {P:Program} {w:World} {K:PySem.W.Frag} {mg mb:Str→Option Value} {CX:CXT} {k:Nat} {fa a:Addr} {fd:FuncData} {x:Str} {sp:Sp} {s₁:Shared} {vs:List Value} {ns:List Int}
  (KX:K.In s₁.heap) (hns:s₁.heap.Ns mainGlobals mg) (hb:s₁.heap.Ns builtinsNs mb) (hbb:∀x:Str,x≠"__name__"→mb x=bootBuiltins x) (hlim:s₁.heap.NoLimit) (hg:s₁.gens=#[])
  (ha:s₁.heap.get? a=some { cls:=.type "list",data:=.seq vs.toArray }) (hi:IntsAre vs ns) (hl:ns.length≤sizeLine) (hr:fz k callerA)
  (F:∀base:Heap,K.In base→base.Ns mainGlobals mg→mi P w K mg base CX k fa fd [x] sp) (hbind:∀(s:Shared) (u:Value),BindsTo s fd ⟨[u],[]⟩ [(x,u)])
  (hsp:∀H:Hp,Only H→SqL K H a (ns.map V.int)→sp [.ref a] H (λv _=>v=.bl true) λ_ _ _=>False)
  (hCX:∀H e s',CX [] H s₁ (λ_ _ _=>False) e s'→False):
  codeAny (model P w) callerA (.call (.ref fa) ⟨[.ref a],[]⟩) (λr s'=>r=.ok (.ret (.bool true))∧OldK s₁.heap s'.heap∧s'.os=s₁.os∧AllBare s'.gens) s₁:=by
 have rv:=x9 hi;have lenV:=hi.length;have core:∀H:Hp,Only H→SqL K H a (ns.map V.int)→HOk P w H s₁.heap→(∀b,H b≠none→b=a)→(H a≠none→K.lookup a=none)→
   codeAny (model P w) callerA (.call (.ref fa) ⟨[.ref a],[]⟩) (λr s'=>r=.ok (.ret (.bool true))∧OldK s₁.heap s'.heap∧s'.os=s₁.os∧AllBare s'.gens) s₁:=by
  intro H hO hS hok hA hK;have base_of:∀{b:Addr} {o:Obj},s₁.heap.get? b=some o→H b=none→(Ao s₁.heap H).get? b=some o:=λe n=>Lk e n;have noA:∀{b:Addr} {o:Obj} {es:Array DictEntry} {ep:Nat},s₁.heap.get? b=some o→o.data=.dict es ep→H b=none:=λ{b o es ep} e d=>by
   cases q:H b with
   | none=>rfl
   | some u=>
    have e':b=a:=hA b (by rw[q];simp);subst e';rw[ha] at e;cases e;have d':Data.seq vs.toArray _=Data.dict es ep:=d;cases d'
  have nsK:∀{b:Addr} {m:Str→Option Value},s₁.heap.Ns b m→(Ao s₁.heap H).Ns b m:=λ{b m} ⟨o,es,ep,e,d,r⟩=>⟨o,es,ep,base_of e (noA e d),d,r⟩;have hKb:K.In (Ao s₁.heap H):=λb o e=>base_of (KX b o e) (by
   cases q:H b with
   | none=>rfl
   | some u=>
    have e':b=a:=hA b (by rw[q];simp);subst e';rw[hK (by rw[q];simp)] at e;cases e)
  have hM:Mod K mg (Ao s₁.heap H):=⟨hKb,nsK hns,⟨mb,nsK hb,hbb⟩,let ⟨mc,h1,h2⟩:=hlim;⟨mc,nsK h1,h2⟩⟩;have e0:Env0 P w K mg (Ao s₁.heap H) callerA [] s₁ H:=⟨rfl,hM,λb o e=>Qb e,Nat.le_of_eq (Ip _ _),trivial,λb hb=>absurd (show b∈([]:List Addr) from hb) (by simp),hok,.of_eq hg⟩;refine codeAny_mono ((F _ hKb (nsK hns)).run callerA [] s₁ H ⟨[.ref a],[]⟩ [.ref a] [.ref a] _ _ hr e0 (hbind s₁ (.ref a)) (.cons rfl .nil) (hsp H hO hS)) λr s' h=>?_;cases r with
  | error e=>exact (hCX H e s' h).elim
  | ok fl=>
   cases fl with
   | next=>exact False.elim h
   | brk=>exact False.elim h
   | cont=>exact False.elim h
   | ret u=>
    obtain ⟨v,H',os,bare,un,hok',r',q⟩:=h;have q':v=.bl true:=q;subst q';obtain rfl:u=Value.bool true:=r';refine ⟨rfl,OldK.of_keep λb o e=>?_,os,bare⟩;cases q:H b with
    | none=>exact un.keep b o e q (by intro z;exact absurd (show b∈([]:List Addr) from z) (by simp)) (by simp)
    | some u=>
     rcases hO b with z | ⟨ob,xs,z⟩
     ·rw[q] at z;cases z
     ·have z2:=un.frzs b ob _ z;obtain ⟨e1,_⟩:=hok b _ z;obtain ⟨e2,_⟩:=hok' b _ z2;rw[e] at e1;cases e1;exact e2
 cases hk:K.lookup a with
 | some o=>
  have e:=KX a o hk;rw[ha] at e;cases e
  refine core (λ_=>none) (λ_=>.inl rfl) (.inr ⟨_,vs.toArray,_,hk,rfl,rfl,rfl,by rw[aa5,lenV];exact hl,by simpa using rv⟩) (λb u z=>by have z':(none:Option HO)=some u:=z;cases z') (λb z=>absurd rfl z) λz=>absurd rfl z
 | none=>
  refine core (λb=>if b=a then some (.frz { cls:=.type "list",data:=.seq vs.toArray } (.lst (ns.map V.int))) else none) (λb=>?_) (.inl (.inr ⟨{ cls:=.type "list",data:=.seq vs.toArray },if_pos rfl⟩)) (λb u z=>?_) (λb z=>?_) λ_=>hk
  ·by_cases hb:b=a
   ·exact .inr ⟨_,_,if_pos hb⟩
   ·exact .inl (if_neg hb)
  ·by_cases hb:b=a
   ·have z':=(if_pos hb).symm.trans z;cases z'
    subst hb;exact ⟨ha,by rw[aa0];exact hl,vs,_,rv,ha⟩
   ·have z':=(if_neg hb).symm.trans z;cases z'
  ·by_cases hb:b=a
   ·exact hb
   ·exact absurd (if_neg hb) z
noncomputable abbrev KOf {K:PySem.W.Frag} {h:Heap} (_:K.In h):PySem.W.Frag:=K
theorem N8 {l:PySem.W.OpenLaw} {n k:Nat} {q:Program} {loose:List Str} {XP:(Str→Option Value)→Heap→Prop} {YP:World→Heap→Prop} {d:DefRec} {K:Params→PySem.W.Frag} {CX:World→CXT} {sp:World→Sp} {x:Str}
  (hn:l.most=some n) (hn2:n≤sizeLine) (hdf:d.params.defaults=[]) (hr:fz k callerA)
  (hY:∀(w:World) (h:Heap),YP w h→(K w.params).In h)
  (F:∀(w:World) (mg:Str→Option Value) (fa:Addr) (h:Heap),(K w.params).In h→h.Ns mainGlobals mg→mg d.name=some (.ref fa)→
   ∃fd:FuncData,(∀(s:Shared) (u:Value),BindsTo s fd ⟨[u],[]⟩ [(x,u)])∧
    ∀base:Heap,(K w.params).In base→base.Ns mainGlobals mg→mi l.prog w (K w.params) mg base (CX w) k fa fd [x] (sp w))
  (hsp:∀(w:World) (H:Hp) (a:Addr) (ns:List Int),ns.length≤n→Only H→SqL (K w.params) H a (ns.map V.int)→sp w [.ref a] H (λv _=>v=.bl true) λ_ _ _=>False)
  (hCX:∀(w:World) (H:Hp) (s:Shared) (e:Value) (s':Shared),CX w [] H s (λ_ _ _=>False) e s'→False):
  PySem.W.WalkO q loose XP YP l.row.toRowW d [] (λf vs=>PySem.call f vs):=by
 refine Att.Bv hn hdf λw s₀ s₁ mg mb fa o pm cd doc a vs ns G Y ho hd hcd hmg hobj hints hlen hg=>?_;have KX:=hY w _ Y;obtain ⟨fd,hb,hF⟩:=F w mg fa _ KX G.T.g hmg;exact Kv KX G.T.g G.T.b G.T.builtins G.T.nolimit hg hobj hints (aau hlen hn2) hr hF hb (λH hO hS=>hsp w H a ns hlen hO hS) λH e s'=>hCX w H s₁ e s'
noncomputable def az (s:Stmt):Arguments:=match s with
 | .FunctionDef _ a _ _ _ _ _ _ _ _=>a
 | _=>{ posonlyargs:=[],args:=[],vararg:=none,kwonlyargs:=[],kw_defaults:=[],kwarg:=none,defaults:=[] }
noncomputable def av (s:Stmt):List Stmt:=match s with
 | .FunctionDef _ _ b _ _ _ _ _ _ _=>b
 | _=>[]
noncomputable def ag (s:Stmt):Scope:=match s with
 | .FunctionDef _ _ _ _ _ _ sc _ _ _=>sc
 | _=>{ kind:=.function,names:=[],isGenerator:=false,isCoroutine:=false }
noncomputable abbrev CX0:CXT:=λ_ _ _ _ _ _=>False
abbrev E0:XK:=λ_ _ _=>False
theorem pass0 {X:Cx}:Passes CX0 X E0:=λ_ _ _ _ _ _ _ h=>h.elim
structure Fun (K:PySem.W.Frag) (x qual:Str) (st:Stmt) (f:Addr) (fd:FuncData):Prop where
 ex:∃(oc:Value) (od:Option Addr) (kV doc pm:Value) (an:Option Addr) (cdv ct:Value) (osl:Array (Option Value)),
  fd=PySem.W.fnOf x qual (az st) (av st) (ag st) .none kV doc pm an cdv ct∧K.lookup f=some ⟨oc,od,.func fd,osl⟩∧PySem.W.codeIn K cdv qual=true
 kp:PySem.W.keepIn K (.ref f)=true
section
variable {P:Program} {w:World} {K:PySem.W.Frag} {mg:Str→Option Value} {base:Heap}
theorem Fun.ok {x qual:Str} {st:Stmt} {f:Addr} {fd:FuncData} {N ps:List Str} {k:Nat} {sp:Sp} (F:Fun K x qual st f fd) (S:ax N ps (ag st)) (len:∀vs H Q E,sp vs H Q E→vs.length=ps.length)
  (hbody:∀(cdv:Value) (A:Around) (outer:List Env) (s:Shared) (H:Hp) (vs:List V) (Q:VK) (E:XK),fz k (A.deeper (envOfC qual (ag st) s.heap.objs.size f cdv))→sp vs H Q E→
   ∃t,PSs (nc CX0 P w K mg base N qual (ag st) f cdv A outer s H E).nox (av st) t∧t { nx:=λ_ H'=>Q .non H',rt:=Q } (start N vs) H):mi P w K mg base CX0 (k+1) f fd ps sp:=by
 obtain ⟨oc,od,kV,doc,pm,an,cdv,ct,osl,rfl,lk,hcd⟩:=F.ex;refine fn_of lk hcd S len λA outer s H vs Q E hr hsp=>?_;obtain ⟨t,h,q⟩:=hbody cdv A outer s H vs Q E hr hsp;exact ⟨t,h.nox,q⟩
theorem Fun.binds {x qual:Str} {st:Stmt} {f:Addr} {fd:FuncData} {ps:List Str} (F:Fun K x qual st f fd)
  (h:∀(kV doc pm:Value) (an:Option Addr) (cdv ct:Value) (us:List Value),us.length=ps.length→bindArgs (PySem.W.fnOf x qual (az st) (av st) (ag st) .none kV doc pm an cdv ct) ⟨us,[]⟩=pure (ps.zip us)):Binds K fd ps []:=by
 obtain ⟨oc,od,kV,doc,pm,an,cdv,ct,osl,rfl,lk,hcd⟩:=F.ex;exact .all (h kV doc pm an cdv ct)
theorem bo {x qual:Str} {st:Stmt} {f:Addr} {oc:Value} {od an:Option Addr} {osl:Array (Option Value)} {kV doc pm cdv ct:Value} (l:K.lookup f=some ⟨oc,od,.func (PySem.W.fnOf x qual (az st) (av st) (ag st) .none kV doc pm an cdv ct),osl⟩)
  (c:PySem.W.codeIn K cdv qual=true) (k:PySem.W.keepIn K (.ref f)=true):Fun K x qual st f (PySem.W.fnOf x qual (az st) (av st) (ag st) .none kV doc pm an cdv ct):=⟨⟨oc,od,kV,doc,pm,an,cdv,ct,osl,rfl,l,c⟩,k⟩
end
theorem cb {A:Around} {k:Nat} (hr:fz k A):A.units+1 < cLine:=acu (Nat.add_le_add_left (by decide:1≤64) _) hr.units
section
variable {X:Cx}
theorem pv (i:Nat) {x:Str} {pos:Pos} (hN:X.N[i]?=some x:=by rfl) (hv:Vis X.env.scope x:=by first | exact aaz rfl | exact ab4 (aaz rfl) | exact ab4 (ab4 rfl)) (hd:(x==("__debug__":Str))=false:=by decide)
  (hcd:(x==("__classdict__":Str))=false:=by decide):PE X (.Name x pos) (tVar i):=pe_var hN hv hd hcd
end
theorem iteF {A B:Prop} (h:B):if false=true then A else B:=by
 rw[if_neg aak];exact h
theorem iteT {A B:Prop} (h:A):if true=true then A else B:=by
 rw[if_pos rfl];exact h
theorem b7 {c A B:Prop} [Decidable c] (h1:c→A) (h2:¬c→B):if c then A else B:=by
 by_cases h:c
 ·rw[if_pos h];exact h1 h
 ·rw[if_neg h];exact h2 h
def ak (H H':Hp):Prop:=∀b o,H b=some o→H' b=some o
theorem ak.refl (H:Hp):ak H H:=λ_ _ h=>h
theorem ak.trans {H H1 H2:Hp} (a:ak H H1) (b:ak H1 H2):ak H H2:=λc o h=>b c o (a c o h)
theorem ak.free {H H':Hp} (e:ak H H') {l:Addr} (h:H' l=Option.none):H l=Option.none:=by
 cases q:H l with
 | none=>rfl
 | some o=>
  rw[e l o q] at h;cases h
theorem ak.seq {K:PySem.W.Frag} {H H':Hp} {a:Addr} {xs:List V} (e:ak H H') (h:SqL K H a xs):SqL K H' a xs:=by
 rcases h with (h | ⟨o,h⟩) | h
 ·exact .inl (.inl (e _ _ h))
 ·exact .inl (.inr ⟨o,e _ _ h⟩)
 ·exact .inr h
section
variable {κ:Type} [DecidableEq κ]
noncomputable def cy (kvs:List (κ×V)) (k:κ):Option V:=(kvs.find? λkv=>decide (kv.1=k)).map (·.2)
noncomputable def putK (kvs:List (κ×V)) (k:κ) (v:V):List (κ×V):=
 if (kvs.any λkv=>decide (kv.1=k))=true then kvs.map (λkv=>if kv.1=k then (kv.1,v) else kv) else kvs++[(k,v)]
theorem b9 {p:κ×V} {r:List (κ×V)} {k:κ} (e:p.1=k):cy (p::r) k=some p.2:=by simp[cy,acb,e]
theorem b8 {p:κ×V} {r:List (κ×V)} {k:κ} (e:¬p.1=k):cy (p::r) k=cy r k:=by simp[cy,acb,e]
theorem g7 (k:κ):∀kvs:List (κ×V),(kvs.any λkv=>decide (kv.1=k))=(cy kvs k).isSome
 | []=>rfl
 | p::r=>by
  rw[ad2];by_cases e:p.1=k
  ·simp only[b9 e,decide_eq_true e,aee,acv]
  ·rw[b8 e,decide_eq_false e,Bool.false_or];exact g7 k r
theorem Bi (k j:κ) (y:V):∀kvs:List (κ×V),cy (kvs.map λkv=>if kv.1=k then (kv.1,y) else kv) j=(cy kvs j).map λx=>if j=k then y else x
 | []=>rfl
 | p::r=>by
  have ih:=Bi k j y r;rw[aaw];by_cases h:p.1=k
  ·rw[if_pos h];by_cases e:p.1=j
   ·rw[b9 (p:=(p.1,y)) e,b9 e,ad8,if_pos (e.symm.trans h)]
   ·rw[b8 (p:=(p.1,y)) e,b8 e,ih]
  ·rw[if_neg h];by_cases e:p.1=j
   ·rw[b9 (p:=p) e,b9 e,ad8,if_neg (λz=>h (e.trans z))]
   ·rw[b8 (p:=p) e,b8 e,ih]
theorem yp (k j:κ) (y:V):∀kvs:List (κ×V),cy kvs k=none→cy (kvs++[(k,y)]) j=if j=k then some y else cy kvs j
 | [],_=>by
  by_cases e:k=j
  ·rw[if_pos e.symm];exact b9 (p:=(k,y)) e
  ·rw[if_neg (λz=>e z.symm)];exact b8 (p:=(k,y)) e
 | p::r,hn=>by
  rw[aem];have hk:¬p.1=k:=λz=>by rw[b9 z] at hn;cases hn
  rw[b8 hk] at hn;have ih:=yp k j y r hn;by_cases e:p.1=j
  ·rw[b9 e,b9 e,if_neg (λz=>hk (e.trans z))]
  ·rw[b8 e,b8 e,ih]
theorem L8 (kvs:List (κ×V)) (k j:κ) (y:V):cy (putK kvs k y) j=if j=k then some y else cy kvs j:=by
 unfold putK;by_cases a:(kvs.any λkv=>decide (kv.1=k))=true
 ·rw[if_pos a,Bi];rw[g7] at a;by_cases e:j=k
  ·obtain ⟨x,hx⟩:=Option.isSome_iff_exists.mp a;rw[if_pos e,e,hx,ad8,if_pos rfl]
  ·rw[if_neg e];cases cy kvs j with
   | none=>rfl
   | some x=>rw[ad8,if_neg e]
 ·rw[if_neg a];refine yp k j y kvs ?_;rw[g7] at a;cases q:cy kvs k with
  | none=>rfl
  | some x=>rw[q] at a;exact (a rfl).elim
theorem gf (kvs:List (κ×V)) (k:κ) (v:V):(putK kvs k v).length≤kvs.length+1:=by
 unfold putK;split
 ·rw[aa0];omega
 ·rw[aa2,aai,acd];omega
theorem Dh {kvs:List (κ×V)} {k:κ} (v:V) (h:cy kvs k=none):putK kvs k v=kvs++[(k,v)]:=by
 unfold putK;rw[g7,h];exact if_neg (by decide)
theorem nu.jb {o:Option V} {u:Option Value} (r:nu o u):o.isSome=u.isSome:=by
 cases o with
 | none=>cases u with
  | none=>rfl
  | some _=>exact (show False from r).elim
 | some _=>cases u with
  | none=>exact (show False from r).elim
  | some _=>rfl
theorem nu.getD {o:Option V} {u:Option Value} {d:V} {d':Value} (r:nu o u) (rd:RelV d d'):RelV (o.getD d) (u.getD d'):=by
 cases o with
 | none=>cases u with
  | none=>exact rd
  | some _=>exact (show False from r).elim
 | some _=>cases u with
  | none=>exact (show False from r).elim
  | some _=>exact r
theorem KV.val {kvs:List (κ×V)} {vs:List (κ×Value)} (r:KV kvs vs) (k:κ):nu (cy kvs k) (valueAt vs k):=by
 unfold KV at r;induction r with
 | nil=>exact True.intro
 | @cons p q ps qs h t ih=>
  obtain ⟨h1,h2⟩:=h;by_cases e:p.1=k
  ·have e':q.1=k:=h1.symm.trans e;have b:valueAt (q::qs) k=some q.2:=by simp[valueAt,acb,e']
   rw[b9 e,b];exact h2
  ·have e':¬q.1=k:=λz=>e (h1.trans z);have b:valueAt (q::qs) k=valueAt qs k:=by simp[valueAt,acb,e']
   rw[b8 e,b];exact ih
theorem KV.any {kvs:List (κ×V)} {vs:List (κ×Value)} (r:KV kvs vs) (k:κ):(kvs.any λkv=>decide (kv.1=k))=vs.any λkv=>decide (kv.1=k):=by
 unfold KV at r;induction r with
 | nil=>rfl
 | cons h t ih=>rw[ad2,ad2,ih,h.1]
theorem KV.repl {kvs:List (κ×V)} {vs:List (κ×Value)} (r:KV kvs vs) (k:κ) {y:V} {u:Value} (ry:RelV y u):
  KV (kvs.map λkv=>if kv.1=k then (kv.1,y) else kv) (vs.map λkv=>if kv.1=k then (kv.1,u) else kv):=by
 unfold KV at r ⊢;induction r with
 | nil=>exact .nil
 | @cons p q ps qs h t ih=>
  rw[aaw,aaw];refine .cons ?_ ih;obtain ⟨h1,h2⟩:=h;by_cases e:p.1=k
  ·rw[if_pos e,if_pos (h1.symm.trans e)];exact ⟨h1,ry⟩
  ·rw[if_neg e,if_neg (λz=>e (h1.trans z))];exact ⟨h1,h2⟩
theorem KV.put {kvs:List (κ×V)} {vs:List (κ×Value)} (r:KV kvs vs) (k:κ) {y:V} {u:Value} (ry:RelV y u):KV (putK kvs k y) (stored vs k u):=by
 unfold putK stored;rw[r.any k];by_cases e:(vs.any λkv=>decide (kv.1=k))=true
 ·rw[if_pos e,if_pos e];exact r.repl k ry
 ·rw[if_neg e,if_neg e];exact Paired.snoc r ⟨rfl,ry⟩
theorem KV.length {kvs:List (κ×V)} {vs:List (κ×Value)} (r:KV kvs vs):kvs.length=vs.length:=Paired.length r
end
theorem tf {P:Program} {w:World} {k:Key} {u:Value} (r:RelV (kV k) u):(bg P w).is k u=true:=by
 cases k with
 | inl i=>obtain ⟨t,e⟩:=(show ∃t,u=Value.int i t from r);subst e;exact Bz P w i t
 | inr x=>obtain ⟨t,e⟩:=(show ∃t,u=Value.str x t from r);subst e;exact kh P w x t
theorem ya {P:Program} {w:World}:∀{ks:List Key} {us:List Value},Vals (ks.map kV) us→ItemsAre (bg P w) ks us
 | [],_,r=>by rw[ad6] at r;cases r;exact .nil
 | k::ks,_,r=>by
  rw[aaw] at r;cases r with
  | cons h t=>exact .cons (tf h) (ya t)
abbrev KT (H:Hp):List (List Key×V)→List (List Key×Addr×Value)→Prop:=Paired λp q=>p.1=q.1∧H q.2.1=some (.tup (p.1.map kV))∧RelV p.2 q.2.2
theorem KT.val {H:Hp} {kvs:List (List Key×V)} {xs:List (List Key×Addr×Value)} (r:KT H kvs xs) (k:List Key):nu (cy kvs k) ((atKey xs k).map (·.2)):=by
 induction r with
 | nil=>exact True.intro
 | @cons p q ps qs h t ih=>
  obtain ⟨h1,_,h2⟩:=h;by_cases e:p.1=k
  ·have e':q.1=k:=h1.symm.trans e;have b:atKey (q::qs) k=some q.2:=by simp[atKey,acb,e']
   rw[b9 e,b];exact h2
  ·have e':¬q.1=k:=λz=>e (h1.trans z);have b:atKey (q::qs) k=atKey qs k:=by simp[atKey,acb,e']
   rw[b8 e,b];exact ih
theorem KT.repl {H:Hp} {kvs:List (List Key×V)} {xs:List (List Key×Addr×Value)} (r:KT H kvs xs) (k:List Key) {y:V} {u:Value} (ry:RelV y u):
  KT H (kvs.map λkv=>if kv.1=k then (kv.1,y) else kv) (xs.map (putAt k u)):=by
 induction r with
 | nil=>exact .nil
 | @cons p q ps qs h t ih=>
  rw[aaw,aaw];refine .cons ?_ ih;obtain ⟨h1,h2,h3⟩:=h;unfold putAt;by_cases e:p.1=k
  ·rw[if_pos e,if_pos (h1.symm.trans e)];exact ⟨h1,h2,ry⟩
  ·rw[if_neg e,if_neg (λz=>e (h1.trans z))];exact ⟨h1,h2,h3⟩
theorem KT.put {H:Hp} {kvs:List (List Key×V)} {xs:List (List Key×Addr×Value)} (r:KT H kvs xs) (k:List Key) {b:Addr} {y:V} {u:Value} (hb:H b=some (.tup (k.map kV))) (ry:RelV y u):
  KT H (putK kvs k y) (storedH xs k b u):=by
 have e:(kvs.any λkv=>decide (kv.1=k))=(atKey xs k).isSome:=by
  rw[g7,(r.val k).jb,ado]
 unfold putK storedH;rw[e];by_cases q:(atKey xs k).isSome=true
 ·rw[if_pos q,if_pos q];exact r.repl k ry
 ·rw[if_neg q,if_neg q];exact Paired.snoc r ⟨rfl,hb,ry⟩
theorem KT.keeps {H H':Hp} {kvs:List (List Key×V)} {xs:List (List Key×Addr×Value)} (r:KT H kvs xs) (ht:∀b ys,H b=some (.tup ys)→H' b=some (.tup ys)):KT H' kvs xs:=
 Paired.mapP r λ_ _ z=>⟨z.1,ht _ _ z.2.1,z.2.2⟩
section
variable {P:Program} {w:World} {H:Hp} {h:Heap} {a:Addr}
theorem rd_of {u:HO} (ok:HOk P w H h) (e:Rd H a u):cf P w H h a u:=e.ok ok
theorem zc {kvs:List (Key×V)} (ok:HOk P w H h) (e:Rd H a (.dK kvs)):kvs.length≤sizeLine∧(a==sysModules)=false∧∃vs,KV kvs vs∧h.DictOf (bg P w) a vs:=
 show cf P w H h a (.dK kvs) from rd_of ok e
theorem dk_of {kvs:List (Key×V)} (ok:HOk P w H h) (e:H a=some (.dK kvs)):kvs.length≤sizeLine∧(a==sysModules)=false∧∃vs,KV kvs vs∧h.DictOf (bg P w) a vs:=zc ok (.inl e)
theorem ng {ks:List Key} (ok:HOk P w H h) (e:H a=some (.tup (ks.map kV))):(tupleKind (bg P w)).is h ks a:=by
 obtain ⟨_,its,r,o,h1,h2,n,h3,_⟩:=(show cf P w H h a (.tup (ks.map kV)) from ok a _ e);exact ⟨o,its.toArray,n,h1,h2,h3,by simpa using ya r⟩
theorem yl {kvs:List (List Key×V)} (ok:HOk P w H h) (e:Rd H a (.dT kvs)):kvs.length≤sizeLine∧(a==sysModules)=false∧
  ∃xs,KT H kvs xs∧h.DictOfH (tupleKind (bg P w)) a xs:=by
 obtain ⟨z,y,xs,r,o,es,ep,h1,h2,h3,h4,h5⟩:=(show cf P w H h a (.dT kvs) from rd_of ok e);refine ⟨z,y,xs,r,o,es,ep,h1,h2,h3,h4,λx hx=>?_,h5⟩;have all:∀{l:List (List Key×V)} {m:List (List Key×Addr×Value)},KT H l m→∀x∈m,(tupleKind (bg P w)).is h x.1 x.2.1:=by
  intro l m q;induction q with
  | nil=>intro x hx;exact nomatch hx
  | @cons p q ps qs hq t ih=>
   intro x hx;rcases List.mem_cons.mp hx with e | hx
   ·subst e;exact ng ok (by rw[←hq.1];exact hq.2.1)
   ·exact ih x hx
 exact all r x hx
theorem dt_of {kvs:List (List Key×V)} (ok:HOk P w H h) (e:H a=some (.dT kvs)):kvs.length≤sizeLine∧(a==sysModules)=false∧
  ∃xs,KT H kvs xs∧h.DictOfH (tupleKind (bg P w)) a xs:=yl ok (.inl e)
end
def kb (H:Hp) (a:Addr) (y:V) (r:Option V):Prop:=
 (∃kvs k,Rd H a (.dK kvs)∧y=kV k∧r=cy kvs k)∨∃kvs k b,Rd H a (.dT kvs)∧y=.ref b∧H b=some (.tup (k.map kV))∧r=cy kvs k
def Bn (H:Hp) (a:Addr) (y v:V) (H':Hp):Prop:=
 (∃kvs k,H a=some (.dK kvs)∧y=kV k∧kvs.length < sizeLine∧H'=upd H a (.dK (putK kvs k v)))∨
 ∃kvs k b,H a=some (.dT kvs)∧y=.ref b∧H b=some (.tup (k.map kV))∧kvs.length < sizeLine∧H'=upd H a (.dT (putK kvs k v))
theorem kb.t {H:Hp} {a b:Addr} {kvs:List (List Key×V)} {k:List Key} (e:H a=some (.dT kvs)) (eb:H b=some (.tup (k.map kV))):kb H a (.ref b) (cy kvs k):=.inr ⟨kvs,k,b,.inl e,rfl,eb,rfl⟩
theorem Bn.t {H:Hp} {a b:Addr} {kvs:List (List Key×V)} {k:List Key} {v:V} (e:H a=some (.dT kvs)) (eb:H b=some (.tup (k.map kV))) (hl:kvs.length < sizeLine):
  Bn H a (.ref b) v (upd H a (.dT (putK kvs k v))):=.inr ⟨kvs,k,b,e,rfl,eb,hl,rfl⟩
section
variable {X:Cx} {pins:List (Addr×Obj)} {σ:St} {H:Hp} {s:Shared} {a:Addr} {y v:V} {u r:Value} {o:Option V} {A:Around} {E:Value→Shared→Prop}
theorem Inv.big (I:Inv X pins σ H s):sysModules < s.heap.objs.size:=by
 have h:mainGlobals < s.heap.objs.size:=(I.mod.glob.keeps I.bk).lt;exact adu (by decide) h
theorem Ja {Q:Value→Shared→Prop} (hu:A.units+1 < cLine) (I:Inv X pins σ H s) (g:kb H a y (some v)) (ry:RelV y u) (h:∀w' s',Inv X pins σ H s'→RelV v w'→Q w' s'):
  wpAny (model X.prog X.w) A (getItem (.ref a) u) Q E s:=by
 rcases g with ⟨kvs,k,e,ey,l⟩ | ⟨kvs,k,b,e,ey,eb,l⟩
 ·subst ey;obtain ⟨z,hd,vs,rel,dd⟩:=zc I.hok e;obtain ⟨w',hw,rw'⟩:=nu.some_of (v:=v) (o:=valueAt vs k) (by rw[l];exact rel.val k);exact wpAny_getItem_of (tf ry) dd.mapOf hw (h w' _ (I.tok _) rw')
 ·subst ey;cases (show u=Value.ref b from ry)
  obtain ⟨z,hd,xs,rel,dd⟩:=yl I.hok e;obtain ⟨w',hw,rw'⟩:=nu.some_of (v:=v) (o:=(atKey xs k).map (·.2)) (by rw[l];exact rel.val k);obtain ⟨p,hp,hp2⟩:=Option.map_eq_some_iff.mp hw;refine wpAny_getItem_heap (tupleKind_room_in1 hu) (ng I.hok eb) dd hp ?_;rw[hp2];exact h w' _ (I.tok _) rw'
theorem d_in {Q:Value→Shared→Prop} (hu:A.units+1 < cLine) (I:Inv X pins σ H s) (g:kb H a y o) (ry:RelV y u) (h:∀s',Inv X pins σ H s'→Q (.bool o.isSome) s'):
  wpAny (model X.prog X.w) A (compareOp .In u (.ref a)) Q E s:=by
 rcases g with ⟨kvs,k,e,ey,l⟩ | ⟨kvs,k,b,e,ey,eb,l⟩
 ·subst ey;obtain ⟨z,hd,vs,rel,dd⟩:=zc I.hok e;refine wpAny_in_of (tf ry) hd dd.mapOf ?_;rw[←(rel.val k).jb,←l];exact h _ (I.tok _)
 ·subst ey;cases (show u=Value.ref b from ry)
  obtain ⟨z,hd,xs,rel,dd⟩:=yl I.hok e;refine wpAny_in_heap (tupleKind_room_in1 hu) (ng I.hok eb) hd dd ?_;have q:=(rel.val k).jb;rw[ado] at q;rw[←q,←l];exact h _ (I.tok _)
theorem N0 {Q:Value→Shared→Prop} (hu:A.units+1 < cLine) (I:Inv X pins σ H s) (g:kb H a y o) (ry:RelV y u) (h:∀s',Inv X pins σ H s'→Q (.bool (!o.isSome)) s'):
  wpAny (model X.prog X.w) A (compareOp .NotIn u (.ref a)) Q E s:=by
 rcases g with ⟨kvs,k,e,ey,l⟩ | ⟨kvs,k,b,e,ey,eb,l⟩
 ·subst ey;obtain ⟨z,hd,vs,rel,dd⟩:=zc I.hok e;refine wpAny_notIn_of (tf ry) hd dd.mapOf ?_;rw[←(rel.val k).jb,←l];exact h _ (I.tok _)
 ·subst ey;cases (show u=Value.ref b from ry)
  obtain ⟨z,hd,xs,rel,dd⟩:=yl I.hok e;refine wpAny_notIn_heap (tupleKind_room_in1 hu) (ng I.hok eb) hd dd ?_;have q:=(rel.val k).jb;rw[ado] at q;rw[←q,←l];exact h _ (I.tok _)
theorem zw {h':Heap} {t':Nat} {ob:HO} (I:Inv X pins σ H s) (mu:Mut (H a)) (hs:Heap.SameBut a s.heap h') (he:∃q,h'.get? a=some q) (new:cf X.prog X.w (upd H a ob) h' a ob):
  Inv X pins σ (upd H a ob) { s with heap:=h',toks:=t' }:=
 I.write (x:=a) (e:=a) mu (.inl rfl) (λb q hb z=>(hs.2 b hb).trans z) he new
theorem Ks {P:Program} {w:World} {H':Hp} {h':Heap} {kvs:List (Key×V)} {vs:List (Key×Value)} (z:kvs.length≤sizeLine) (hd:(a==sysModules)=false) (rel:KV kvs vs) (dd:h'.DictOf (bg P w) a vs):
  cf P w H' h' a (.dK kvs):=⟨z,hd,vs,rel,dd⟩
theorem G6 {H':Hp} {Q:Unit→Shared→Prop} (hu:A.units+1 < cLine) (I:Inv X pins σ H s) (g:Bn H a y v H') (ry:RelV y u) (rv:RelV v r) (h:∀s',Inv X pins σ H' s'→Q () s'):
  wpAny (model X.prog X.w) A (setItem (.ref a) u r) Q E s:=by
 rcases g with ⟨kvs,k,e,ey,l,eH⟩ | ⟨kvs,k,b,e,ey,eb,l,eH⟩
 ·subst ey eH;obtain ⟨z,hd,vs,rel,dd⟩:=dk_of I.hok e;have hz:vs.length≤sizeLine:=by rw[←rel.length];exact z
  have hl:(putK kvs k v).length≤sizeLine:=by have:=gf kvs k v;omega
  refine wpAny_setItem_pairs (hsz:=hz) (tf ry) dd λh' dd' hs=>h _ ?_;have he:∃q,h'.get? a=some q:=let ⟨q,_,_,hq,_⟩:=dd';⟨q,hq⟩
  exact zw I (by rw[e];exact True.intro) hs he (Ks hl hd (rel.put k rv) dd')
 ·subst ey eH;cases (show u=Value.ref b from ry)
  obtain ⟨z,hd,xs,rel,dd⟩:=dt_of I.hok e;have hz:xs.length≤sizeLine:=by rw[←Paired.length rel];exact z
  have hl:(putK kvs k v).length≤sizeLine:=by have:=gf kvs k v;omega
  refine wpAny_setItem_heap (hsz:=hz) (tupleKind_room_in1 hu) (ng I.hok eb) dd λh' dd' hs=>h _ ?_;obtain ⟨q,es,ep,hq,h2,h3,h4,_,h5⟩:=dd';refine zw I (by rw[e];exact True.intro) hs ⟨q,hq⟩ ⟨hl,hd,_,(rel.put k eb rv).keeps λc ys ec=>?_,q,es,ep,hq,h2,h3,h4,h5⟩;rw[ah (gq ec e (λz=>nomatch z))];exact ec
end
def NoSl (i:Expr):Prop:=∀ov iv,subscripted i false ov iv=operate [ov,iv] (getItem ov iv)
theorem Nb {prog:Program} {w:World} {A:Around} {E:Value→Shared→Prop} {s:Shared} {env:Env} {value slice:Expr} {pos:Pos} {T id:String} {Q:Value→Shared→Prop}
  (hl:typeLookup (.type T) "__getitem__"=pure (some (.builtin id))) (hs:NoSl slice)
  (h:wpAny (model prog w) A (eval value env) (λo s₁=>wpAny (model prog w) A (eval slice env) (λi s₂=>s₂.TypeIs o T∧wpAny (model prog w) A (getItem o i) Q E s₂) E s₁) E s):
  wpAny (model prog w) A (eval (.Subscript value slice pos) env) Q E s:=by
 refine Subscript_ (wpAny_mono h (λo s₁ h₁=>wpAny_mono h₁ (λi s₂ h₂=>?_) λ_ _ x=>x) λ_ _ x=>x);obtain ⟨hT,h₂⟩:=h₂;unfold subscriptTail;refine wpAny_bind ?_;rw[getitemInPython_of_ne hT.not_modules];refine wpAny_bind (wpAny_specialOf hT hl ?_);have fin:wpAny (model prog w) A (subscripted slice false o i) (λr s₃=>wpAny (model prog w) A (letTemporaryGo value o r >>=λ_=>pure r) Q E s₃) E s₂:=by
  rw[hs o i];exact wpAny_operating (wpAny_mono h₂ (λr s₃ h₃=>wpAny_bind (wpAny_letTemporaryGo (wpAny_pure h₃))) λ_ _ x=>x)
 first
  | exact wpAny_pure (wpAny_bind fin)
  | exact wpAny_bind (wpAny_pure (wpAny_bind fin))
  | exact wpAny_bind fin
theorem Cg {X:Cx} {pins:List (Addr×Obj)} {σ:St} {H:Hp} {s:Shared} {a:Addr} {y:V} {o:Option V} (I:Inv X pins σ H s) (g:kb H a y o):s.TypeIs (.ref a) "dict":=by
 rcases g with ⟨kvs,k,e,_,_⟩ | ⟨kvs,k,b,e,_,_,_⟩
 ·obtain ⟨_,_,vs,_,dd⟩:=zc I.hok e;exact dd.typeIs
 ·obtain ⟨_,_,xs,_,dd⟩:=yl I.hok e;exact dd.typeIs
def tDGet (td ty:TE):TE:=λσ H Q=>td σ H λx H1=>ty σ H1 λy H2=>∃a v,x=.ref a∧kb H2 a y (some v)∧Q v H2
def tDIn (ty td:TE):TE:=λσ H Q=>ty σ H λy H1=>td σ H1 λx H2=>∃a o,x=.ref a∧kb H2 a y o∧Q (.bl o.isSome) H2
def E7 (ty td:TE):TE:=λσ H Q=>ty σ H λy H1=>td σ H1 λx H2=>∃a o,x=.ref a∧kb H2 a y o∧Q (.bl (!o.isSome)) H2
def sDPut (td ty tv:TE):TS:=λD σ H=>tv σ H λv H1=>td σ H1 λx H2=>ty σ H2 λy H3=>∃a H4,x=.ref a∧Bn H3 a y v H4∧D.nx σ H4
section
variable {X:Cx} {o i e value:Expr} {pos pos' tpos:Pos} {td ty tv:TE}
theorem Oo (hu:X.A.units+1 < cLine) (ho:PE X o td) (hi:PE X i ty) (hs:NoSl i):PE X (.Subscript o i pos) (tDGet td ty):=by
 intro pins s σ H Q I h;refine Nb PySem.F.slot_dict_getitem.lookup hs (thn (ho pins s σ H _ I h) λu s1 ⟨x,H1,I1,rx,q1⟩=>thn (hi pins s1 σ H1 _ I1 q1) λiv s2 ⟨y,H2,I2,ry,a,v,ex,g,q2⟩=>?_);subst ex;obtain rfl:u=Value.ref a:=rx;exact ⟨Cg I2 g,Ja hu I2 g ry λw' s3 I3 rw'=>⟨v,H2,I3,rw',q2⟩⟩
theorem L4 (hu:X.A.units+1 < cLine) (hi:PE X i ty) (ho:PE X o td):PC X .In i o (tDIn ty td):=by
 intro pins s σ H Q I h;refine thn (hi pins s σ H _ I h) λiv s1 ⟨y,H1,I1,ry,q1⟩=>thn (ho pins s1 σ H1 _ I1 q1) λu s2 ⟨x,H2,I2,rx,a,ov,ex,g,q2⟩=>?_;subst ex;obtain rfl:u=Value.ref a:=rx;exact d_in hu I2 g ry λs3 I3=>⟨.bl ov.isSome,H2,I3,rfl,q2⟩
theorem Ie (hu:X.A.units+1 < cLine) (hi:PE X i ty) (ho:PE X o td):PC X .NotIn i o (E7 ty td):=by
 intro pins s σ H Q I h;refine thn (hi pins s σ H _ I h) λiv s1 ⟨y,H1,I1,ry,q1⟩=>thn (ho pins s1 σ H1 _ I1 q1) λu s2 ⟨x,H2,I2,rx,a,ov,ex,g,q2⟩=>?_;subst ex;obtain rfl:u=Value.ref a:=rx;exact N0 hu I2 g ry λs3 I3=>⟨.bl (!ov.isSome),H2,I3,rfl,q2⟩
theorem Gf (hu:X.A.units+1 < cLine) (ho:PE X o td) (hi:PE X i ty) (hv:PE X value tv) (hs:swapsWith value (some (.Subscript o i pos')) pos.line X.env=pure false):
  PS X (.Assign [.Subscript o i pos'] value pos) (sDPut td ty tv):=by
 intro pins s σ H D I h;refine wpAny_Assign_Subscript (thn (hv pins s σ H _ I h) λr s1 ⟨v,H1,I1,rv,q1⟩=>thn (ho pins s1 σ H1 _ I1 q1) λu s2 ⟨x,H2,I2,rx,q2⟩=>thn (hi pins s2 σ H2 _ I2 q2) λiv s3 ⟨y,H3,I3,ry,a,H4,ex,g,q3⟩=>?_) hs;subst ex;obtain rfl:u=Value.ref a:=rx;exact G6 hu I3 g ry rv λs4 I4=>⟨σ,H4,I4,q3⟩
end
theorem Jf {P:Program} {w:World} {H:Hp} (h:Heap) (hb:sysModules < h.objs.size):cf P w H (h.push { cls:=.type "dict",data:=.dict #[] }) h.objs.size (.dK []):=
 ⟨aa6 _,beq_eq_false_iff_ne.mpr (Ne.symm (aao hb)),[],.nil,Heap.DictOf.new h⟩
theorem Mm {P:Program} {w:World} {H:Hp} (h:Heap) (hb:sysModules < h.objs.size):cf P w H (h.push { cls:=.type "dict",data:=.dict #[] }) h.objs.size (.dT []):=
 ⟨aa6 _,beq_eq_false_iff_ne.mpr (Ne.symm (aao hb)),[],.nil,_,#[],0,Heap.get?_push_size _ rfl,⟨rfl,rfl,rfl⟩,rfl,rfl,adf⟩
def tDNewK:TE:=λ_ H Q=>∀p,H p=none→Q (.ref p) (upd H p (.dK []))
def Dr:TE:=λ_ H Q=>∀p,H p=none→Q (.ref p) (upd H p (.dT []))
section
variable {X:Cx} {pos:Pos}
theorem B1:PE X (.Dict [] [] pos) Dr:=λpins s σ H Q I h=>
 wpAny_Dict_empty ⟨.ref s.heap.objs.size,_,I.laid (a:=s.heap.objs.size) (o:=.dT []) (t':=s.toks) (λ_ _ q=>Heap.get?_push_of_some _ q) (aa3 _) (Mm s.heap I.big),rfl,h _ (I.hok.fresh (aa3 _))⟩
end
def zj:List (TE×TE)→St→Hp→(List (V×V)→Hp→Prop)→Prop
 | [],_,H,Q=>Q [] H
 | (tk,tv)::r,σ,H,Q=>tk σ H λx H1=>tv σ H1 λy H2=>zj r σ H2 λps H3=>Q ((x,y)::ps) H3
abbrev VV:List (V×V)→List (Value×Value)→Prop:=Paired λp q=>RelV p.1 q.1∧RelV p.2 q.2
def PPs (X:Cx) (pos:Pos) (keys:List (Option Expr)) (values:List Expr) (trs:List (TE×TE)):Prop:=
 ∀(pins:List (Addr×Obj)) (s:Shared) (σ:St) (H:Hp) (Q:List (V×V)→Hp→Prop),Inv X pins σ H s→zj trs σ H Q→
  wpAny (model X.prog X.w) X.A (evalPairs (pairTrees keys values X.env pos)) (λvs s'=>∃ps H',Inv X pins σ H' s'∧VV ps vs∧Q ps H') X.xe s
theorem O4 {X:Cx} {pos:Pos}:PPs X pos [] [] []:=λpins s σ H Q I h=>pairTrees_nil_walk ⟨[],H,I,.nil,h⟩
theorem Mn {X:Cx} {pos:Pos} {k v:Expr} {ks:List (Option Expr)} {vs:List Expr} {tk tv:TE} {trs:List (TE×TE)} (hk:PE X k tk) (hv:PE X v tv) (hr:PPs X pos ks vs trs):
  PPs X pos (some k::ks) (v::vs) ((tk,tv)::trs):=λpins s σ H Q I h=>
 pairTrees_cons_walk (thn (hk pins s σ H _ I h) λu s1 ⟨x,H1,I1,rx,q1⟩=>thn (hv pins s1 σ H1 _ I1 q1) λw2 s2 ⟨y,H2,I2,ry,q2⟩=>
  thn (hr pins s2 σ H2 _ I2 q2) λws s3 ⟨ps,H3,I3,rel,q3⟩=>⟨(x,y)::ps,H3,I3,.cons ⟨rx,ry⟩ rel,q3⟩)
noncomputable def rn (kvs more:List (Key×V)):List (Key×V):=more.foldl (λacc kv=>putK acc kv.1 kv.2) kvs
theorem KV.merge:∀{more:List (Key×V)} {rs:List (Key×Value)} {kvs:List (Key×V)} {vs:List (Key×Value)},KV more rs→KV kvs vs→KV (rn kvs more) (merged vs rs):=by
 intro more rs kvs vs r;unfold KV at r;induction r generalizing kvs vs with
 | nil=>intro q;exact q
 | @cons p q ps qs h t ih=>
  intro r0;have e:KV (putK kvs p.1 p.2) (stored vs q.1 q.2):=by
   have:=r0.put p.1 h.2;rw[←h.1];exact this
  exact ih e
theorem mn:∀(more kvs:List (Key×V)),(rn kvs more).length≤kvs.length+more.length
 | [],kvs=>by show kvs.length≤kvs.length+0;omega
 | p::r,kvs=>by
  have h1:=mn r (putK kvs p.1 p.2);have h2:=gf kvs p.1 p.2;show (rn (putK kvs p.1 p.2) r).length≤_
  rw[aai];omega
theorem wy {P:Program} {w:World}:∀{kvs:List (Key×V)} {ws:List (Value×Value)},VV (kvs.map λkv=>(kV kv.1,kv.2)) ws→∃rs,Carries (bg P w) ws rs∧KV kvs rs
 | [],_,r=>by rw[ad6] at r;cases r;exact ⟨[],True.intro,.nil⟩
 | p::kvs,_,r=>by
  rw[aaw] at r;cases r with
  | @cons a b as bs h t=>
   obtain ⟨rs,c,q⟩:=wy (P:=P) (w:=w) t;obtain ⟨b1,b2⟩:=b;exact ⟨(p.1,b2)::rs,⟨tf h.1,rfl,c⟩,.cons ⟨rfl,h.2⟩ q⟩
def tDisp (trs:List (TE×TE)):TE:=λσ H Q=>∀p,H p=none→zj trs σ (upd H p (.dK [])) λps H2=>H2 p=some (.dK [])∧∃kvs:List (Key×V),ps=kvs.map (λkv=>(kV kv.1,kv.2))∧kvs.length≤15∧Q (.ref p) (upd H2 p (.dK (rn [] kvs)))
theorem Ot {X:Cx} {pos:Pos} {keys:List (Option Expr)} {values:List Expr} {trs:List (TE×TE)} (h:PPs X pos keys values trs) (hall:keys.all (·.isSome)=true) (hl:keys.length=values.length) (h0:keys≠[])
  (h15:keys.length≤15):PE X (.Dict keys values pos) (tDisp trs):=by
 intro pins s σ H Q I q;have hn:=I.hok.fresh (aa3 s.heap.objs.size);have I1:=I.laid (a:=s.heap.objs.size) (o:=.dK []) (h':=s.heap.push { cls:=.type "dict",data:=.dict #[] }) (t':=s.toks) (λ_ _ q=>Heap.get?_push_of_some _ q) (aa3 _) (Jf s.heap I.big);refine wpAny_Dict_walk (knd:=bg X.prog X.w) hall hl h0 h15 (thn (h pins _ σ _ _ I1 (q _ hn)) λws s2 ⟨ps,H2,I2,rel,e,kvs,ep,lk,q2⟩=>?_);subst ep;obtain ⟨rs,c,rk⟩:=wy (P:=X.prog) (w:=X.w) rel;obtain ⟨z,hd,vs0,r0,dd⟩:=dk_of I2.hok e;cases r0
 refine ⟨rs,c,dd,λh' dd' hs=>⟨.ref s.heap.objs.size,_,?_,rfl,q2⟩⟩;have hz:(rn [] kvs).length≤sizeLine:=by
  have h1:=mn kvs [];rw[acd] at h1;rw[sizeLine_eq];omega
 have he:∃q,h'.get? s.heap.objs.size=some q:=let ⟨q,_,_,hq,_⟩:=dd';⟨q,hq⟩
 exact zw I2 (by rw[e];exact True.intro) hs he (Ks hz hd (rk.merge .nil) dd')
structure M2 (X:Cx) (o:Expr) (m:Str) (apos:Pos) (e f:Expr) (cpos:Pos):Prop where
 base:attributeBase o m X.env (eval o X.env)=eval o X.env
 few:((backTo cpos (starEach [e,f] X.env)).all (λx=>!x.1)&&(backToKw cpos (keywordEach [] X.env)).all (λx=>x.1.isSome)
  &&decide (([e,f]:List Expr).length+([]:List Keyword).length+(if ([]:List Keyword).isEmpty then 0 else 1) < 30))=true
 line:(apos.endLine==cpos.line)=true
 trees:backTo cpos (starEach [e,f] X.env)=[(false,eval e X.env),(false,eval f X.env)]
section
variable {κ:Type} [DecidableEq κ]
theorem ui {kvs:List (κ×V)} {k:κ} {v:V} (h:cy kvs k=some v):k∈kvs.map (·.1):=by
 have q:(kvs.any λkv=>decide (kv.1=k))=true:=by
  rw[g7,h];all_goals rfl
 obtain ⟨p,hp,e⟩:=List.any_eq_true.mp q;exact List.mem_map.mpr ⟨p,hp,of_decide_eq_true e⟩
end
def ky (i:Nat):TE:=λσ H Q=>match σ[i]? with | some (some v)=>Q v H | _=>False
theorem pvD {X:Cx} (i:Nat) {x:Str} {pos:Pos} (hN:X.N[i]?=some x) (hv:Vis X.env.scope x) (hd:(x==("__debug__":Str))=false) (hcd:(x==("__classdict__":Str))=false):PE X (.Name x pos) (ky i):=λpins s σ H Q I h=>pv i hN hv hd hcd pins s σ H Q I (by
 unfold ky at h;split at h
 ·exact ⟨_,‹_›,h⟩
 ·exact h.elim)
theorem pl {X:Cx} (i:Nat) {x:Str} {pos:Pos} (hN:X.N[i]?=some x) (hv:X.env.scope.names.lookup x=some .local) (hd:(x==("__debug__":Str)||x==("__classdict__":Str))=false):PE X (.Name x pos) (ky i):=pvD i hN (.inl hv) (Bool.or_eq_false_iff.mp hd).1 (Bool.or_eq_false_iff.mp hd).2
theorem pk {X:Cx} (i:Nat) {x:Str} {pos:Pos} (hN:X.N[i]?=some x) (hv:X.env.scope.names.lookup x=some .cell) (hd:(x==("__debug__":Str)||x==("__classdict__":Str))=false):PE X (.Name x pos) (ky i):=pvD i hN (.inr (.inl hv)) (Bool.or_eq_false_iff.mp hd).1 (Bool.or_eq_false_iff.mp hd).2
theorem gz {i:Nat} {σ:L2.St} {H:Hp} {Q:VK}:ky i σ H Q=∃v,σ[i]?=some (some v)∧Q v H:=by
 unfold ky;refine propext ⟨λh=>?_,λ⟨v,e,h⟩=>?_⟩
 ·split at h
  ·exact ⟨_,‹_›,h⟩
  ·exact h.elim
 ·rw[e];exact h
theorem Ib {α:Type} {a:α} {x y:List α}:(a::x=a::y)=(x=y):=propext ⟨λh=>(abi h).2,λh=>by rw[h]⟩
theorem Nn {α:Type} {a b:α}:([a]=[b])=(a=b):=propext ⟨λh=>(abi h).1,λh=>by rw[h]⟩
theorem Pz {α:Type} {a b c d:α}:([a,c]=[b,d])=(a=b∧c=d):=propext ⟨λh=>⟨(abi h).1,(abi (abi h).2).1⟩,λ⟨h,k⟩=>by rw[h,k]⟩
theorem Oq {α:Type} {a b c d e f:α}:([a,c,e]=[b,d,f])=(a=b∧c=d∧e=f):=propext ⟨λh=>⟨(abi h).1,(abi (abi h).2).1,(abi (abi (abi h).2).2).1⟩,λ⟨h,k,l⟩=>by rw[h,k,l]⟩
theorem int_ex {a:Int} {p:Int→Prop}:(∃x,V.int a=V.int x∧p x)=p a:=propext ⟨λ⟨x,e,h⟩=>by cases e;exact h,λh=>⟨a,rfl,h⟩⟩
theorem ref_ex {a:Addr} {p:Addr→Prop}:(∃x,V.ref a=V.ref x∧p x)=p a:=propext ⟨λ⟨x,e,h⟩=>by cases e;exact h,λh=>⟨a,rfl,h⟩⟩
theorem bl_ex {a:Bool} {p:Bool→Prop}:(∃x,V.bl a=V.bl x∧p x)=p a:=propext ⟨λ⟨x,e,h⟩=>by cases e;exact h,λh=>⟨a,rfl,h⟩⟩
theorem Oh {a b:Int} {p:Int→Int→Prop}:(∃x y,V.int a=V.int x∧V.int b=V.int y∧p x y)=p a b:=propext ⟨λ⟨x,y,e,e2,h⟩=>by cases e;cases e2;exact h,λh=>⟨a,b,rfl,rfl,h⟩⟩
theorem ifY {c:Prop} [Decidable c] {A B:Prop} (hc:c) (h:A):if c then A else B:=by rw[if_pos hc];exact h
theorem ifN {c:Prop} [Decidable c] {A B:Prop} (hc:¬c) (h:B):if c then A else B:=by rw[if_neg hc];exact h
theorem us0 {α:Type} {P:List α→Prop} {us:List α} (hl:us.length=0) (h:P []):P us:=by
 rw[List.length_eq_zero_iff.mp hl];exact h
theorem usS {α:Type} {P:List α→Prop} {us:List α} {n:Nat} (hl:us.length=n+1) (h:∀a us,us.length=n→P (a::us)):P us:=by
 cases us with
 | nil=>exact absurd hl.symm (Nat.succ_ne_zero n)
 | cons a l=>exact h a l (Nat.succ.inj hl)
theorem us1 {α:Type} {P:List α→Prop} {us:List α} (hl:us.length=1) (h:∀a,P [a]):P us:=usS hl λa us hl=>us0 (P:=λus=>P (a::us)) hl (h a)
theorem us2 {α:Type} {P:List α→Prop} {us:List α} (hl:us.length=2) (h:∀a b,P [a,b]):P us:=usS hl λa us hl=>us1 (P:=λus=>P (a::us)) hl (h a)
theorem us3 {α:Type} {P:List α→Prop} {us:List α} (hl:us.length=3) (h:∀a b c,P [a,b,c]):P us:=usS hl λa us hl=>us2 (P:=λus=>P (a::us)) hl (h a)
theorem us4 {α:Type} {P:List α→Prop} {us:List α} (hl:us.length=4) (h:∀a b c d,P [a,b,c,d]):P us:=usS hl λa us hl=>us3 (P:=λus=>P (a::us)) hl (h a)
theorem us5 {α:Type} {P:List α→Prop} {us:List α} (hl:us.length=5) (h:∀a b c d e,P [a,b,c,d,e]):P us:=usS hl λa us hl=>us4 (P:=λus=>P (a::us)) hl (h a)
def zr (g:Int→Int→V):R2:=λx y H Q=>match x,y with | .int i,.int j=>Q (g i j) H | _,_=>False
def rID (C:Int→Int→Prop) (g:Int→Int→V):R2:=λx y H Q=>match x,y with | .int i,.int j=>C i j∧Q (g i j) H | _,_=>False
def rUD (g:Int→V):V→Hp→VK→Prop:=λx H Q=>match x with | .int i=>Q (g i) H | _=>False
def tBD (t:TE):TT:=λσ H Q=>t σ H λx H1=>match x with | .bl c=>Q c H1 | _=>False
def Ej (t:TE):TO:=λσ H Q=>t σ H λx H1=>match x with | .int i=>Q (some i) H1 | _=>False
theorem iu:@zr=@rI0:=by
 funext g x y H Q
 refine propext ⟨λh=>?_,λ⟨i,j,e,f,h⟩=>by subst e;subst f;exact h⟩;unfold zr at h;split at h
 ·exact ⟨_,_,rfl,rfl,h⟩
 ·exact h.elim
theorem Aq:@rID=@rI:=by
 funext C g x y H Q
 refine propext ⟨λh=>?_,λ⟨i,j,e,f,h⟩=>by subst e;subst f;exact h⟩;unfold rID at h;split at h
 ·exact ⟨_,_,rfl,rfl,h⟩
 ·exact h.elim
theorem rUD_eq:@rUD=@rU:=by
 funext g x H Q
 refine propext ⟨λh=>?_,λ⟨i,e,h⟩=>by subst e;exact h⟩;unfold rUD at h;split at h
 ·exact ⟨_,rfl,h⟩
 ·exact h.elim
theorem blD {x:V} {Q:Bool→Prop}:(match x with | .bl c=>Q c | _=>False)=∃c,x=.bl c∧Q c:=by
 refine propext ⟨λh=>?_,λ⟨i,e,h⟩=>by subst e;exact h⟩;split at h
 ·exact ⟨_,rfl,h⟩
 ·exact h.elim
theorem jl:@tBD=@tB:=by
 funext t σ H Q
 exact congrArg (t σ H) (funext λx=>funext λH1=>blD)
theorem Iy:@Ej=@Mo:=by
 funext t σ H Q
 refine congrArg (t σ H) (funext λx=>funext λH1=>propext ⟨λh=>?_,λ⟨i,e,h⟩=>by subst e;exact h⟩);split at h
 ·exact ⟨_,rfl,h⟩
 ·exact h.elim
variable {X:Cx}
theorem Qj:OpR X (binaryOp .Add) (zr λi j=>.int (i+j)):=iu ▸ op_add
theorem Oy:OpR X (binaryOp .Sub) (zr λi j=>.int (i - j)):=iu ▸ op_sub
theorem j6:OpR X (compareOp .Lt) (zr λi j=>.bl (decide (i < j))):=iu ▸ op_lt
theorem op_gtD:OpR X (compareOp .Gt) (zr λi j=>.bl (decide (j < i))):=iu ▸ op_gt
theorem ue:OpR X (binaryOp .Mult) (rID CMul λi j=>.int (i*j)):=Aq ▸ op_mul
theorem K1:OpR X (binaryOp .FloorDiv) (rID qp λi j=>.int (i / j)):=Aq ▸ Qa
theorem Ql:OpR X (binaryOp .Mod) (rID (λ_ j=>0 < j) λi j=>.int (i % j)):=Aq ▸ op_mod
theorem jt:OpR X (binaryOp .Pow) (rID CPow λi j=>.int (i ^ j.toNat)):=Aq ▸ op_pow
theorem um:UnR X (unaryOp .USub) (rUD λi=>.int (-i)):=rUD_eq ▸ un_neg
theorem Nc {e:Expr} {t:TE} (h:PE X e t) (he:∀whole,isTrue e X.env whole=(do let v ←whole;standAt e.pos;holding [v] (truthy v))):PT X e (tBD t):=jl ▸ pt_val h he
theorem P6 {a b:Expr} {pos:Pos} {op:CmpOp} {t:TE} (h:PC X op a b t) (h1:behindInMarks op b=false):PT X (.Compare a [op] [b] pos) (tBD t):=jl ▸ pt_cmp h h1
theorem Bc {a b:Expr} {ta tb:TE} {pos:Pos} {op:CmpOp} {r:R2} (ho:OpR X (compareOp op) r) (ha:PE X a ta) (hb:PE X b tb) (hm:behindInMarks op b=false):PT X (.Compare a [op] [b] pos) (tBD (tOp r ta tb)):=jl ▸ Qo ho ha hb hm
theorem Kt {e:Expr} {te:TE} (h:PE X e te):PO X (some e) (Ej te):=Iy ▸ Oc h
def yk (K:PySem.W.Frag):List V→Hp→VK→Prop:=λxs H Q=>match xs with | [.ref p]=>∃ys,(SqL K H p ys∨SqT K H p ys)∧Q (.int ys.length) H | _=>False
def Kw (K:PySem.W.Frag):List V→Hp→VK→Prop:=λxs H Q=>match xs with | [.ref p]=>∃ys,(SqL K H p ys∧∀l,H l=none→Q (.ref l) (upd H l (.tup ys)))∨(SqT K H p ys∧Q (.ref p) H) | _=>False
def Kd:List V→Hp→VK→Prop:=λxs H Q=>match xs with | [.int i]=>Q (.int i) H | [.bl k]=>Q (.int (if k then 1 else 0)) H | _=>False
theorem xo:jf X (.builtin "len") (yk X.K):=by
 refine Eq.mp (congrArg _ ?_) Ae;funext xs H Q
 refine propext ⟨λ⟨p,ys,e,h⟩=>by subst e;exact ⟨ys,h⟩,λh=>?_⟩;unfold yk at h;split at h
 ·exact h.elim λys h=>⟨_,ys,rfl,h⟩
 ·exact h.elim
theorem xg:jf X (.type "tuple") (Kw X.K):=by
 refine Eq.mp (congrArg _ ?_) xx;funext xs H Q
 refine propext ⟨λ⟨p,ys,e,h⟩=>by subst e;exact ⟨ys,h⟩,λh=>?_⟩;unfold Kw at h;split at h
 ·exact h.elim λys h=>⟨_,ys,rfl,h⟩
 ·exact h.elim
theorem ik:jf X (.type "int") Kd:=by
 refine Eq.mp (congrArg _ ?_) Hi;funext xs H Q
 refine propext ⟨λh=>?_,λh=>?_⟩
 ·rcases h with ⟨i,e,h⟩ | ⟨k,e,h⟩ <;> subst e <;> exact h
 unfold Kd at h;split at h
 ·exact .inl ⟨_,rfl,h⟩
 ·exact .inr ⟨_,rfl,h⟩
 ·exact h.elim
end L2
namespace Pc
section
variable {κ:Type} [DecidableEq κ]
noncomputable def cost (g:κ→Option Int):Int→List κ→Option Int
 | c,[]=>some c
 | c,k::r=>match g k with
  | none=>none
  | some v=>cost g (c+v) r
structure Ft (κ:Type) where
 key:κ
 own:Int
 hs:List κ
theorem fk {g:κ→Option Int} {c:Int} {k:κ} {r:List κ} {v:Int} (h:g k=some v):cost g c (k::r)=cost g (c+v) r:=by
 show (match g k with | none=>none | some v=>cost g (c+v) r)=_
 rw[h]
theorem gx {g:κ→Option Int} {c:Int} {k:κ} {r:List κ} (h:g k=none):cost g c (k::r)=none:=by
 show (match g k with | none=>none | some v=>cost g (c+v) r)=_
 rw[h]
theorem lz {g:κ→Option Int} {c x:Int} {k:κ} {r:List κ} (h:cost g c (k::r)=some x):∃v,g k=some v∧cost g (c+v) r=some x:=by
 cases e:g k with
 | none=>rw[gx e] at h;cases h
 | some v=>rw[fk e] at h;exact ⟨v,rfl,h⟩
theorem Al {g g':κ→Option Int}:∀{hs:List κ} {c c' x:Int},(∀k∈hs,∀v,g k=some v→∃v',g' k=some v'∧v'≤v)→c'≤c→cost g c hs=some x→∃x',cost g' c' hs=some x'∧x'≤x
 | [],c,c',x,_,hc,h=>⟨c',rfl,by cases h;exact hc⟩
 | k::r,c,c',x,hk,hc,h=>by
  obtain ⟨v,hv,h⟩:=lz h;obtain ⟨v',hv',le⟩:=hk k aa7 v hv;obtain ⟨x',hx',le'⟩:=Al (c':=c'+v') (λk' m=>hk k' (aab _ m)) (by omega) h;exact ⟨x',by rw[fk hv'];exact hx',le'⟩
theorem uw {g g':κ→Option Int}:∀{hs:List κ} {c:Int},(∀k∈hs,g k=g' k)→cost g c hs=cost g' c hs
 | [],c,_=>rfl
 | k::r,c,h=>by
  have e:=h k aa7;cases q:g k with
  | none=>rw[gx q,gx (e ▸ q)]
  | some v=>rw[fk q,fk (e ▸ q)];exact uw λk' m=>h k' (aab _ m)
theorem zi {g:κ→Option Int} (pos:∀k v,g k=some v→1≤v):∀{hs:List κ} {c x:Int},cost g c hs=some x→c≤x
 | [],c,x,h=>by cases h;exact abg _
 | k::r,c,x,h=>by
  obtain ⟨v,hv,h⟩:=lz h;have:=zi pos h;have:=pos k v hv;omega
theorem Gx {g:κ→Option Int} (pos:∀k v,g k=some v→1≤v):∀{hs:List κ} {c x:Int},1≤c→cost g c hs=some x→∀k∈hs,∃v,g k=some v∧v < x
 | [],c,x,_,_,k,hk=>nomatch hk
 | k::r,c,x,hc,h,k',hk=>by
  obtain ⟨v,hv,h2⟩:=lz h;have p:=pos k v hv;have p2:=zi pos h2;rcases List.mem_cons.mp hk with e | hk
  ·exact ⟨v,by rw[e];exact hv,by omega⟩
  ·exact Gx pos (by omega) h2 k' hk
theorem wj {g:κ→Option Int} {M:Int} (h0:0≤M) (hM:∀k v,g k=some v→v≤M):∀{hs:List κ} {c x:Int},cost g c hs=some x→x≤c+hs.length*M
 | [],c,x,h=>by cases h;simp
 | k::r,c,x,h=>by
  obtain ⟨v,hv,h⟩:=lz h;have:=wj h0 hM h;have:=hM k v hv;rw[aai,Int.natCast_add,Int.add_mul];omega
def mz (F:List (Ft κ)) (g:κ→Option Int):Prop:=∀f∈F,∀c,cost g f.own f.hs=some c→∃v,g f.key=some v∧v≤c
def Due (F:List (Ft κ)) (g:κ→Option Int):Prop:=∀k v,g k=some v→∃f∈F,f.key=k∧∃c,cost g f.own f.hs=some c∧c≤v
structure Tbl (F:List (Ft κ)) (g:κ→Option Int):Prop where
 st:mz F g
 du:Due F g
 pos:∀k v,g k=some v→1≤v
theorem Tbl.exact {F:List (Ft κ)} {g:κ→Option Int} (h:Tbl F g) {k:κ} {v:Int} (hv:g k=some v):∃f∈F,f.key=k∧cost g f.own f.hs=some v:=by
 obtain ⟨f,hf,rfl,c,hc,le⟩:=h.du k v hv;obtain ⟨v',hv',le'⟩:=h.st f hf c hc;obtain rfl:v=v':=aa4 (hv.symm.trans hv');exact ⟨f,hf,rfl,by rw[hc];congr 1;omega⟩
theorem Tbl.le {F:List (Ft κ)} {g g':κ→Option Int} (h:Tbl F g) (h':Tbl F g') (own:∀f∈F,1≤f.own):∀(n:Nat) (k:κ) (v:Int),v.toNat≤n→g k=some v→∃v',g' k=some v'∧v'≤v
 | 0,k,v,hn,hv=>by
  have:=h.pos k v hv;omega
 | n+1,k,v,hn,hv=>by
  obtain ⟨f,hf,rfl,hc⟩:=h.exact hv;have lt:=Gx h.pos (own f hf) hc;have p:=h.pos _ v hv;obtain ⟨x',hx',le⟩:=Al (g':=g') (c':=f.own) (λk hk w hw=>by
   obtain ⟨w',hw',l⟩:=lt k hk;obtain rfl:w=w':=aa4 (hw.symm.trans hw');exact Tbl.le h h' own n k w (by omega) hw) (abg _) hc
  obtain ⟨v',hv',le'⟩:=h'.st f hf x' hx';exact ⟨v',hv',by omega⟩
theorem Tbl.eq {F:List (Ft κ)} {g g':κ→Option Int} (h:Tbl F g) (h':Tbl F g') (own:∀f∈F,1≤f.own):g=g':=by
 funext k
 cases e:g k with
 | some v=>
  obtain ⟨v',hv',le⟩:=Tbl.le h h' own _ k v (aa3 _) e;obtain ⟨v2,hv2,le2⟩:=Tbl.le h' h own _ k v' (aa3 _) hv';obtain rfl:v=v2:=aa4 (e.symm.trans hv2);rw[hv'];congr 1
  omega
 | none=>
  cases e':g' k with
  | none=>rfl
  | some v=>
   obtain ⟨v',hv',_⟩:=Tbl.le h' h own _ k v (aa3 _) e';rw[e] at hv';cases hv'
noncomputable def iz (g:κ→Option Int) (k:κ) (v:Int):κ→Option Int:=λx=>if x=k then some v else g x
theorem d4 {g:κ→Option Int} {k:κ} {v:Int}:iz g k v k=some v:=if_pos rfl
theorem gc {g:κ→Option Int} {k x:κ} {v:Int} (h:x≠k):iz g k v x=g x:=if_neg h
def Imp (g:κ→Option Int) (k:κ) (c:Int):Prop:=g k=none∨∃v,g k=some v∧c < v
theorem Imp.le {g:κ→Option Int} {k:κ} {c:Int} (h:Imp g k c) {x:κ} {v:Int} (hv:g x=some v):∃v',iz g k c x=some v'∧v'≤v:=by
 by_cases e:x=k
 ·subst e;refine ⟨c,d4,?_⟩;rcases h with h | ⟨w,h,l⟩
  ·rw[h] at hv;cases hv
  ·rw[h] at hv;cases hv;omega
 ·exact ⟨v,by rw[gc e];exact hv,abg _⟩
noncomputable def cnt (F:List (Ft κ)) (g:κ→Option Int):Nat:=(F.filter λf=>(g f.key).isSome).length
theorem Mj (F:List (Ft κ)) (g:κ→Option Int):cnt F g≤F.length:=ab8 _ _
theorem qb {g g':κ→Option Int}:∀(F:List (Ft κ)),(∀f∈F,(g f.key).isSome→(g' f.key).isSome)→cnt F g≤cnt F g'
 | [],_=>aa3 _
 | f::F,h=>by
  have ih:=qb F λf' m=>h f' (aab _ m);have h0:=h f aa7;unfold cnt at ih ⊢;rw[aar,aar];cases e:(g f.key).isSome with
  | false=>
   rw[if_neg (by simp)];split
   ·rw[aai];omega
   ·exact ih
  | true=>
   rw[h0 e];simp only[if_true,aai];omega
theorem Ab {g:κ→Option Int} {k:κ} {c:Int} (hn:g k=none):∀(F:List (Ft κ)),(∃f∈F,f.key=k)→cnt F g+1≤cnt F (iz g k c)
 | [],h=>by obtain ⟨f,hf,_⟩:=h;cases hf
 | f::F,h=>by
  have mono:=qb (g:=g) (g':=iz g k c) F λf' _ e=>by
   by_cases q:f'.key=k
   ·rw[q,d4];rfl
   ·rw[gc q];exact e
  unfold cnt at mono ⊢;rw[aar,aar];by_cases q:f.key=k
  ·rw[q,hn,d4];simp only[adj,acv,if_true,abb,if_false,aai];omega
  ·rw[gc q];have ih:=Ab (c:=c) hn F (by
    obtain ⟨f',hf',e⟩:=h;rcases List.mem_cons.mp hf' with rfl | hf'
    ·exact absurd e q
    ·exact ⟨f',hf',e⟩)
   unfold cnt at ih;cases (g f.key).isSome with
   | true=>simp only[if_true,aai];omega
   | false=>simp only[abb,if_false];omega
noncomputable def top (D P h:Nat):Nat→Nat
 | 0=>D
 | c+1=>top D P h c+P+h*top D P h c
theorem lg (D P h:Nat):∀{a b:Nat},a≤b→top D P h a≤top D P h b:=λ{a b} hab=>by
 induction hab with
 | refl=>exact aa3 _
 | @step m _ ih=>
  have:top D P h m≤top D P h (m+1):=by
   show _≤top D P h m+P+h*top D P h m
   rw[Nat.add_assoc];exact aay _ _
  exact aau ih this
theorem qh {α:Type} (f:α→Nat):∀l:List α,∃B,∀x∈l,f x≤B
 | []=>⟨0,λ_ h=>nomatch h⟩
 | a::l=>by
  obtain ⟨B,h⟩:=qh f l;refine ⟨f a+B,λx hx=>?_⟩;rcases List.mem_cons.mp hx with rfl | hx
  ·exact aay _ _
  ·exact aau (h x hx) (Nat.le_add_left _ _)
noncomputable def room (B:Nat) (F:List (Ft κ)) (g:κ→Option Int):Nat:=(F.map λf=>match g f.key with | some v=>v.toNat | none=>B+1).sum
theorem Bs {B:Nat} {g:κ→Option Int} {k:κ} {c:Int} (im:Imp g k c) (h0:0≤c) (hB:c.toNat≤B):∀(F:List (Ft κ)),room B F (iz g k c)≤room B F g∧((∃f∈F,f.key=k)→room B F (iz g k c) < room B F g)
 | []=>⟨aa3 _,λh=>by obtain ⟨f,hf,_⟩:=h;cases hf⟩
 | f::F=>by
  obtain ⟨i1,i2⟩:=Bs (B:=B) im h0 hB F;unfold room at i1 i2 ⊢;rw[aaw,aaw,aca,aca];by_cases q:f.key=k
  ·rw[q,d4];rcases im with e | ⟨v,e,l⟩
   ·rw[e];show c.toNat+_≤B+1+_∧(_→c.toNat+_ < B+1+_)
    exact ⟨by omega,λ_=>by omega⟩
   ·rw[e];show c.toNat+_≤v.toNat+_∧(_→c.toNat+_ < v.toNat+_)
    exact ⟨by omega,λ_=>by omega⟩
  ·rw[gc q];refine ⟨by omega,λh=>?_⟩;have:=i2 (by
    obtain ⟨f',hf',e⟩:=h;rcases List.mem_cons.mp hf' with rfl | hf'
    ·exact absurd e q
    ·exact ⟨f',hf',e⟩)
   omega
theorem ends {F:List (Ft κ)} {g0:κ→Option Int} (pos0:∀k v,g0 k=some v→1≤v) (own:∀f∈F,1≤f.own) (hB:∃D:Nat,∀k v,g0 k=some v→v≤(D:Int)):
  ∃(μ:(κ→Option Int)→Nat) (Ok:(κ→Option Int)→Prop),Ok g0∧(∀g,Ok g→∀k v,g k=some v→1≤v)∧∀g f c,Ok g→f∈F→cost g f.own f.hs=some c→Imp g f.key c→Ok (iz g f.key c)∧μ (iz g f.key c) < μ g:=by
 obtain ⟨D,hD⟩:=hB;obtain ⟨P,hP⟩:=qh (λf:Ft κ=>f.own.toNat) F;obtain ⟨h,hh⟩:=qh (λf:Ft κ=>f.hs.length) F;refine ⟨room (top D P h F.length) F,λg=>(∀k v,g k=some v→1≤v∧v≤(top D P h (cnt F g):Int)),λk v hv=>⟨pos0 k v hv,?_⟩,λg ok k v hv=>(ok k v hv).1,λg f c ok hf hc im=>?_⟩
 ·have a1:=hD k v hv;have a2:=lg D P h (aa6 (cnt F g0));have a3:top D P h 0=D:=rfl;omega
 ·have pos:∀k v,g k=some v→1≤v:=λk v hv=>(ok k v hv).1;have c1:=zi pos hc;have o1:=own f hf;have hmono:cnt F g≤cnt F (iz g f.key c):=qb F λf' _ e=>by
   by_cases q:f'.key=f.key
   ·rw[q,d4];rfl
   ·rw[gc q];exact e
  have hcb:c≤(top D P h (cnt F (iz g f.key c)):Int):=by
   rcases im with e | ⟨v,e,l⟩
   ·have a1:=wj (M:=(top D P h (cnt F g):Int)) (by omega) (λk v hv=>(ok k v hv).2) hc;have a2:f.own.toNat≤P:=hP f hf;have a3:f.hs.length≤h:=hh f hf;have a4:=Ab (c:=c) e F ⟨f,hf,rfl⟩;have a5:=lg D P h a4;have a6:top D P h (cnt F g+1)=top D P h (cnt F g)+P+h*top D P h (cnt F g):=rfl;have a7:f.hs.length*top D P h (cnt F g)≤h*top D P h (cnt F g):=Nat.mul_le_mul_right _ a3;have a8:((f.hs.length*top D P h (cnt F g):Nat):Int)=(f.hs.length:Int)*(top D P h (cnt F g):Int):=by rw[Int.natCast_mul]
    omega
   ·have:=(ok _ v e).2;have a5:=lg D P h hmono;omega
  have tB:=lg D P h (Mj F (iz g f.key c));refine ⟨λk v hv=>?_,(Bs im (by omega) (by omega) F).2 ⟨f,hf,rfl⟩⟩;by_cases q:k=f.key
  ·subst q;rw[d4] at hv;cases hv
   exact ⟨by omega,hcb⟩
  ·rw[gc q] at hv;obtain ⟨b1,b2⟩:=ok k v hv;have a5:=lg D P h hmono;exact ⟨b1,by omega⟩
end
end Pc
namespace L2
open PySem PySem.Spec PyProof.Rows
theorem lookup_mem {α:Type} {x:Str} {c:α}:∀{l:List (Str×α)},l.lookup x=some c→(x,c)∈l
 | [],h=>by cases h
 | (y,d)::r,h=>by
  rw[adv] at h;cases e:x==y with
  | true=>
   rw[e] at h;have e':x=y:=eq_of_beq e;cases h
   subst e';exact aa7
  | false=>
   rw[e] at h;exact aab _ (lookup_mem h)
noncomputable def xq (ix:List Nat) (σ:St):St:=ix.map λj=>(σ[j]?).getD none
def SubP (cs:List (Str×Addr)):List (Str×Addr)→Prop
 | []=>True
 | p::r=>cs.lookup p.1=some p.2∧SubP cs r
theorem SubP.of {cs:List (Str×Addr)}:∀{cl:List (Str×Addr)},SubP cs cl→∀p∈cl,cs.lookup p.1=some p.2
 | [],_,_,h=>by cases h
 | p::r,⟨h1,h2⟩,q,hq=>by
  rcases List.mem_cons.mp hq with e | e
  ·rw[e];exact h1
  ·exact SubP.of h2 q e
def Bd (X:Cx) (scope:Scope):List Str→List Nat→Prop
 | [],[]=>True
 | x::fr,j::ix=>(X.N[j]?=some x∧X.env.kindOf x=some .cell∧(relabel scope X.env).names.lookup x=some .cell)∧Bd X scope fr ix
 | _,_=>False
theorem Bd.len {X:Cx} {scope:Scope}:∀{fr:List Str} {ix:List Nat},Bd X scope fr ix→fr.length=ix.length
 | [],[],_=>rfl
 | x::fr,j::ix,h=>by rw[aai,aai,Bd.len h.2]
 | [],_::_,h=>h.elim
 | _::_,[],h=>h.elim
theorem Bd.get {X:Cx} {scope:Scope}:∀{fr:List Str} {ix:List Nat},Bd X scope fr ix→∀(k j:Nat),ix[k]?=some j→∃x,fr[k]?=some x∧X.N[j]?=some x∧X.env.kindOf x=some .cell∧(relabel scope X.env).names.lookup x=some .cell
 | [],[],_,k,j,e=>by simp at e
 | x::fr,i::ix,h,0,j,e=>by
  have e':i=j:=by simpa using e
  subst e';exact ⟨x,rfl,h.1⟩
 | x::fr,i::ix,h,k+1,j,e=>by
  obtain ⟨y,hy,r⟩:=Bd.get h.2 k j (by simpa using e);exact ⟨y,by simpa using hy,r⟩
 | [],_::_,h,_,_,_=>h.elim
 | _::_,[],h,_,_,_=>h.elim
structure ka (X:Cx) (scope:Scope) (own fr:List Str) (ix:List Nat) (cl:List (Str×Addr)):Prop where
 clos:closureFor scope X.env=pure cl
 kind:scope.kind=.function
 nocell:(scope.names.all λy=>decide (y.2≠.cell))=true
 names:(scope.names.all λy=>decide (y.2≠.local)||decide (scope.names.lookup y.1=some .local))=true
 sub:SubP X.env.cells cl
 has:((relabel scope X.env).names.all λy=>!(decide (y.2=.cell)||decide (y.2=.free))||(cl.lookup y.1).isSome)=true
 out':Bd X scope fr ix
section
variable {X:Cx} {scope:Scope} {own fr:List Str} {ix:List Nat} {cl:List (Str×Addr)}
theorem ka.len (C:ka X scope own fr ix cl):fr.length=ix.length:=C.out'.len
theorem ka.out (C:ka X scope own fr ix cl):∀(k j:Nat),ix[k]?=some j→∃x,fr[k]?=some x∧X.N[j]?=some x∧Vis X.env.scope x∧X.env.kindOf x≠some .local∧(relabel scope X.env).names.lookup x≠some .local:=λk j e=>by
 obtain ⟨x,h1,h2,h3,h4⟩:=C.out'.get k j e;exact ⟨x,h1,h2,.inr (.inl h3),(by rw[h3];intro z;cases z),(by rw[h4];intro z;cases z)⟩
theorem ka.Qi (C:ka X scope own fr ix cl):∀x∈scope.names,x.2≠.cell:=λx hx=>of_decide_eq_true (List.all_eq_true.mp C.nocell x hx)
theorem ka.J6 (C:ka X scope own fr ix cl):∀x∈scope.names,x.2=.local→scope.names.lookup x.1=some .local:=λx hx e=>by
 have h:=List.all_eq_true.mp C.names x hx;rw[ae0] at h;rcases h with h | h
 ·exact absurd e (of_decide_eq_true h)
 ·exact of_decide_eq_true h
theorem ka.sub' (C:ka X scope own fr ix cl):∀x c,cl.lookup x=some c→X.env.cells.lookup x=some c:=λx c h=>C.sub.of _ (lookup_mem h)
theorem ka.has' (C:ka X scope own fr ix cl):∀x,((relabel scope X.env).names.lookup x=some .cell∨(relabel scope X.env).names.lookup x=some .free)→∃c,cl.lookup x=some c:=λx hx=>by
 have key:∀k,(relabel scope X.env).names.lookup x=some k→(k=.cell∨k=.free)→∃c,cl.lookup x=some c:=λk e hk=>by
  have h:=List.all_eq_true.mp C.has (x,k) (lookup_mem e);rw[ae0] at h;rcases h with h | h
  ·rcases hk with rfl | rfl
   ·simp at h
   ·simp at h
  ·exact Option.isSome_iff_exists.mp h
 rcases hx with h | h
 ·exact key _ h (.inl rfl)
 ·exact key _ h (.inr rfl)
end
noncomputable def cxC (X:Cx) (scope:Scope) (cl:List (Str×Addr)) (ns:List Str) (fp:List Addr) (s:Shared) (H:Hp):Cx where
 prog:=X.prog
 w:=X.w
 K:=X.K
 mg:=X.mg
 base:=X.base
 A:=X.A
 N:=ns
 s₀:=s
 H₀:=H
 env:=compEnvC scope cl s.heap.objs.size X.env
 outer:=X.stack
 stack:=X.stack
 ex:=fp
 fn:=λ_=>false
 calm:=X.calm
 pn:=[]
 xe:=λ_ _=>False
section
variable {X:Cx} {scope:Scope} {own fr:List Str} {ix:List Nat} {cl:List (Str×Addr)} {pins:List (Addr×Obj)} {σ:St} {H:Hp} {s:Shared} {fp:List Addr}
theorem cxC_ok (C:ka X scope own fr ix cl) (I:Inv X pins σ H s) (f:∀b∈fp,qw X pins H b) (lt:∀b∈fp,b < s.heap.objs.size):(cxC X scope cl (own++fr) fp s H).Ok where
 mod:=I.ok.mod
 kind:=C.kind
 glob:=I.ok.glob
 blt:=I.ok.blt
 above:=aa3 _
 inj:=λx y c h1 h2=>I.ok.inj x y c (C.sub' x c h1) (C.sub' y c h2)
 has:=λx hx=>C.has' x hx
 cab:=λx c h _=>aen h
 hd:=I.ok.hd
 frames:=I.ok.frames
 stk:=.inl rfl
 exf:=λb hb=>⟨aao (lt b hb),λx c e=>(f b hb).2.2.2.2.1 x c (C.sub' x c e)⟩
 bs:=λb o e=>I.bs b o e
 bsz:=aau I.ok.bsz I.sz
 noex:=λb o e hb=>by
  rcases (f b hb).2.2.2.1 with z | z
  ·exact I.ok.noex b o e z
  ·exact absurd (aam (Heap.lt_size e) (aau I.ok.bsz z)) (abe _)
 exfs:=λb hb z=>by
  rcases List.mem_cons.mp (I.Ew b z) with q | q
  ·exact (f b hb).2.1 q
  ·exact (f b hb).2.2.1 q
 qr:=I.stack
 frf:=I.Af
theorem Lr (C:ka X scope own fr ix cl) (I:Inv X pins σ H s) (f:∀b∈fp,qw X pins H b) (lt:∀b∈fp,b < s.heap.objs.size) {h₁:Heap} {t:Nat} {m:Str→Option Value}
  (hns:h₁.Ns s.heap.objs.size m) (k:∀b o,s.heap.get? b=some o→h₁.get? b=some o):
  Inv (cxC X scope cl (own++fr) fp s H) [] (aal own.length none++xq ix σ) H { s with heap:=h₁,toks:=t } where
 ok:=cxC_ok C I f lt
 os:=rfl
 bare:=I.bare
 base:=Un.kept k
 loc:=⟨m,hns,λi x v e1 e2 e3=>by
  have e1:(own++fr)[i]?=some x:=e1;by_cases hi:i < own.length
  ·rw[aaf (by simpa using hi),adx] at e2;rw[if_pos hi] at e2;cases e2
  ·have hi':own.length≤i:=ael hi;rw[aad (by simpa using hi')] at e2;rw[aad hi'] at e1;rw[abc] at e2;unfold xq at e2;rw[aac] at e2;cases q:ix[i - own.length]? with
   | none=>rw[q] at e2;cases e2
   | some j=>
    rw[q] at e2;have e2':(σ[j]?).getD none=some v:=aa4 e2;obtain ⟨x',hx',hN,hv,hk,hl'⟩:=C.out _ j q;rw[e1] at hx';cases hx'
    have e4:σ[j]?=some (some v):=by
     cases z:σ[j]? with
     | none=>rw[z] at e2';cases e2'
     | some w=>rw[z] at e2';exact congrArg some e2'
    obtain ⟨mX,hnX,hl⟩:=I.loc;obtain ⟨u,r,l⟩:=hl j x v hN e4 hv;rcases l with ⟨kl,_⟩ | ⟨kk,c,ec,z⟩
    ·exact absurd kl hk
    ·have kY:(relabel scope X.env).names.lookup x=some .cell∨(relabel scope X.env).names.lookup x=some .free:=by
      rcases e3 with e3 | e3 | e3
      ·exact absurd e3 hl'
      ·exact .inl e3
      ·exact .inr e3
     obtain ⟨c',hc'⟩:=C.has' x kY;have hcc:=C.sub' x c' hc';rw[ec] at hcc;cases hcc
     obtain ⟨o,ho,hd⟩:=z;exact ⟨u,r,.inr ⟨kY,c,hc',⟨o,k c o ho,hd⟩⟩⟩⟩
 cell:=λx c e=>by
  obtain ⟨v,o,ho,hd⟩:=I.cell x c (C.sub' x c e);exact ⟨v,o,k c o ho,hd⟩
 free:=I.hok.fresh (aa3 _)
 freeC:=λx c e=>I.freeC x c (C.sub' x c e)
 pin:=λp hp=>by cases hp
 hok:=I.hok.kept k
 len:=by
  show (aal own.length none++xq ix σ).length=(own++fr).length
  rw[aa2,aa2,abc,C.len];unfold xq;rw[aa0]
theorem Mb (I:Inv X pins σ H s) (f:∀b∈fp,qw X pins H b) {ns:List Str} {τ:St} {H':Hp} {s':Shared} {pins':List (Addr×Obj)} (J:Inv (cxC X scope cl ns fp s H) pins' τ H' s'):Inv X pins σ H' s':=
 I.Mw (ch:=fp) J.os J.base J.hok J.bare λb hb=>⟨(f b hb).2.2.2.1,(f b hb).2.1,(f b hb).2.2.2.2.1,(f b hb).2.2.2.2.2⟩
theorem Bx {σ':St} (I:Inv X pins σ H s) {H':Hp} {s':Shared} {h':Heap} (J:Inv X pins σ' H' s') (free:H' s.heap.objs.size=none) (sb:Heap.SameBut s.heap.objs.size s'.heap h'):Inv X pins σ' H' { s' with heap:=h' }:=
 J.turned (it:=s.heap.objs.size) (t':=s'.toks) (λb o hb e=>(sb.2 b hb).trans e) free (ab9 I.lt) (.inr I.sz)
  (λx c e z=>by
   obtain ⟨v,q⟩:=I.cell x c e;exact absurd (z ▸ q.lt) (abe _))
  (λp hp z=>absurd (z ▸ Heap.lt_size (I.pin p hp).1) (abe _))
end
section
variable {prog:Program} {w:World} {A:Around} {R:Result→Shared→Prop} {s:Shared}
theorem Au {elt target iter:Expr} {ifs:List Expr} {scope:Scope} {pos:Pos} {it acc:Value} {env:Env} (I:Nat→Shared→Prop)
  (turn:∀n s,I n s→wpAny (model prog w) A (pyNext it) (λr s₁=>match r with
   | none=>R (.ok .next) s₁
   | some v=>wpAny (model prog w) A (letOwnedTupleGo target it v) (λ_ s₁'=>wpAny (model prog w) A (assign target env v) (λ_ s₂=>
     wpAny (model prog w) A (forIn ifs true λc r=>if r=true then do let ok ←isTrue c env (eval c env);pure (ForInStep.yield ok) else pure (ForInStep.yield r)) (λok s₃=>
      if ok=true then wpAny (model prog w) A (eval elt env) (λx s₄=>
       wpAny (model prog w) A (call (.builtin "list.append") [acc,x]) (λ_ s₅=>∃m,m < n∧I m s₅) (notedBy (model prog w) A env λe s'=>R (.error e) s') s₄) (notedBy (model prog w) A env λe s'=>R (.error e) s') s₃
      else ∃m,m < n∧I m s₃) (notedBy (model prog w) A env λe s'=>R (.error e) s') s₂) (notedBy (model prog w) A env λe s'=>R (.error e) s') s₁') (notedBy (model prog w) A env λe s'=>R (.error e) s') s₁)
    (notedBy (model prog w) A env λe s'=>R (.error e) s') s)
  (n:Nat) (h:I n s):
  codeAny (model prog w) A (.compLoop (.ListComp elt [⟨target,iter,ifs,0⟩] scope pos) 0 it acc env) R s:=by
 refine codeAny_loop rfl I (λn s hI=>?_) n h;show wpAny _ A ((compTurn (.ListComp elt [⟨target,iter,ifs,0⟩] scope pos) 0 it acc env).onRaise (λx=>do noteFrame x env;theTreesLotGoes x)) _ _ s
 refine wpAny_noted ?_;rw[compTurn_list];refine wpAny_bind (wpAny_standAt (wpAny_bind (wpAny_mono (turn n s hI) (λr s₁ h₁=>?_) λ_ _ h'=>h')));cases r with
 | none=>exact wpAny_pure h₁
 | some v=>
  refine wpAny_bind (wpAny_mono h₁ (λ_ s₁' h₁'=>?_) λ_ _ h'=>h');refine wpAny_bind (wpAny_mono h₁' (λ_ s₂ h₂=>wpAny_bind (wpAny_mono h₂ (λok s₃ h₃=>?_) λ_ _ h'=>h')) λ_ _ h'=>h');cases ok with
  | false=>exact wpAny_pure ⟨rfl,h₃⟩
  | true=>
   exact wpAny_bind (wpAny_bind (wpAny_mono h₃ (λx s₄ h₄=>wpAny_bind (wpAny_mono h₄ (λ_ s₅ h₅=>wpAny_pure (wpAny_pure ⟨rfl,h₅⟩)) λ_ _ h'=>h')) λ_ _ h'=>h'))
end
def PIfs (X:Cx) (ifs:List Expr) (t:TT):Prop:=
 ∀(pins:List (Addr×Obj)) (s:Shared) (σ:St) (H:Hp) (Q:Bool→Hp→Prop),Inv X pins σ H s→t σ H Q→
  wpAny (model X.prog X.w) X.A (forIn ifs true λc r=>if r=true then do let ok ←isTrue c X.env (eval c X.env);pure (ForInStep.yield ok) else pure (ForInStep.yield r)) (TP X pins σ Q) X.xe s
def tNoIf:TT:=λ_ H Q=>Q true H
theorem pif0 {X:Cx}:PIfs X [] tNoIf:=λpins s σ H Q I h=>wpAny_tests_nil ⟨H,I,h⟩
theorem pif1 {X:Cx} {c:Expr} {t:TT} (h:PT X c t):PIfs X [c] t:=λpins s σ H Q I q=>wpAny_tests_one (h pins s σ H Q I q)
def LC (n:Nat) (fr:St) (g:TG) (tc:TT) (te:TE) (J:It) (D:Addr) (H1:Hp) (Q:Hp→Prop):Prop:=
 ∃W:Nat→Nat→Hp→Prop,(∃m,W 0 m (upd H1 D (.lst [])))∧∀i m H,W i m H→
  (J.stop i H∧Q H)∨(J.go i H∧∀(τ:St) x H',τ.length=n→J.yld i H x H'→g x (τ++fr) H' λσ2 H2=>(∃τ':St,τ'.length=n∧σ2=τ'++fr)∧tc σ2 H2 λb H3=>
   if b=true then te σ2 H3 λy H4=>∃ys,H4 D=some (.lst ys)∧ys.length < sizeLine∧∃m',m' < m∧W (i+1) m' (upd H4 D (.lst (ys++[y]))) else ∃m',m' < m∧W (i+1) m' H3)
def tLC (n:Nat) (ix:List Nat) (wi:TI) (g:TG) (tc:TT) (te:TE):TE:=λσ H Q=>wi σ H λJ H1=>∀D,H1 D=none→LC n (xq ix σ) g tc te J D H1 λH'=>Q (.ref D) H'
section
variable {X:Cx} {scope:Scope} {own fr:List Str} {ix:List Nat} {cl:List (Str×Addr)} {elt iter tg:Expr} {ifs:List Expr} {pos:Pos} {wi:TI} {g:TG} {tc:TT} {te:TE}
theorem ur {E:Value→Shared→Prop} {RR:Value→Addr→Result→Shared→Prop} (C:ka X scope own fr ix cl) (hc:X.calm=true)
  (hg:∀fp s H,PG (cxC X scope cl (own++fr) fp s H) tg g) (ht:∀fp s H,PIfs (cxC X scope cl (own++fr) fp s H) ifs tc) (he:∀fp s H,PE (cxC X scope cl (own++fr) fp s H) elt te)
  {pins:List (Addr×Obj)} {σ:St} {H2:Hp} {s2:Shared} {it:Addr} {fp:List Addr} {tn:Nat→Heap→Prop} {J:It} {Q:Hp→Prop} (I2:Inv X pins σ H2 s2) (T:Turn X.prog X.w X.K tg J fp it tn) (st2:tn 0 s2.heap) (f2:∀b∈fp,qw X pins H2 b)
  (q:LC own.length (xq ix σ) g tc te J s2.heap.objs.size H2 Q)
  (hRR:∀(s3 s':Shared) (H3 H':Hp) (τ:St),Inv X pins σ H3 s3→Inv X pins σ H' s'→H' s3.heap.objs.size=none→(∃m,s'.heap.Ns s3.heap.objs.size m)→Q H'→RR (.ref s2.heap.objs.size) s3.heap.objs.size (.ok .next) s'):
  wpAny (model X.prog X.w) X.A (newList []) (λacc s₃=>wpAny (model X.prog X.w) X.A (newFunctionEnv scope X.env.globals cl [] X.env.qual none .none (some X.env)) (λcenv s₄=>
   codeAny (model X.prog X.w) X.A (.compStart (.ListComp elt [⟨tg,iter,ifs,0⟩] scope pos) 0 (.ref it) acc { cenv with scope:=relabel scope X.env }) (RR acc cenv.locals) s₄) E s₃) E s2:=by
 refine wpAny_newObj_type ?_;have I3:Inv X pins σ (upd H2 s2.heap.objs.size (.lst [])) { s2 with heap:=s2.heap.push { cls:=.type "list",dict:=none,data:=.seq ([]:List Value).toArray } }:=I2.lnew (t':=s2.toks) (its:=[]) .nil (aa6 _);have lt2:∀b∈fp,b < s2.heap.objs.size:=λb hb=>by
  obtain ⟨o,e,_⟩:=T.obj 0 _ st2 b hb;exact Heap.lt_size e
 have fneD:∀b∈fp,b≠s2.heap.objs.size:=λb hb=>aao (lt2 b hb);generalize hs3:({ s2 with heap:=s2.heap.push { cls:=.type "list",dict:=none,data:=.seq ([]:List Value).toArray } }:Shared)=s3 at I3 ⊢;have hsz:s3.heap.objs.size=s2.heap.objs.size+1:=by rw[←hs3];exact Heap.size_push ..
 have kp23:∀b o,s2.heap.get? b=some o→s3.heap.get? b=some o:=λb o e=>by rw[←hs3];exact Heap.get?_push_of_some _ e
 have f3:∀b∈fp,qw X pins (upd H2 s2.heap.objs.size (.lst [])) b:=λb hb=>by
  obtain ⟨f0,fr⟩:=f2 b hb;exact ⟨by rw[ah (fneD b hb)];exact f0,fr⟩
 have lt3:∀b∈fp,b < s3.heap.objs.size:=λb hb=>by rw[hsz];exact aci (lt2 b hb)
 refine wpAny_newFunctionEnv C.Qi (by intro y hy;simp at hy) (λh₁ hns₁ hsb₁=>?_) C.kind;have k34:∀b o,s3.heap.get? b=some o→h₁.get? b=some o:=λb o e=>
  (hsb₁.2 b (aao (Heap.lt_size e))).trans (Heap.get?_push_of_some _ e)
 have I4:=Lr C I3 f3 lt3 (t:=s3.toks+([]:List (Str×Value)).length) hns₁ k34;have st4:tn 0 h₁:=T.keep 0 _ _ st2 λb _ o e=>k34 b o (kp23 b o e);obtain ⟨W,⟨m0,w0⟩,turn⟩:=q;have loop:∀s4:Shared,s4={ s3 with heap:=h₁,toks:=s3.toks+([]:List (Str×Value)).length }→
   codeAny (model X.prog X.w) X.A (.compLoop (.ListComp elt [⟨tg,iter,ifs,0⟩] scope pos) 0 (.ref it) (.ref s2.heap.objs.size) (compEnvC scope cl s3.heap.objs.size X.env)) (RR (.ref s2.heap.objs.size) s3.heap.objs.size) s4:=by
  rintro s4 rfl;have stat:∀{H':Hp},(∀b∈fp,H' b=none)→∀b∈fp,qw (cxC X scope cl (own++fr) fp s3 (upd H2 s2.heap.objs.size (.lst []))) [] H' b:=λ{H'} hn b hb=>
   ⟨hn b hb,aao (lt3 b hb),I4.ok.exfs b hb,.inl hb,(I4.ok.exf b hb).2,λp hp=>by cases hp⟩
  refine Au (λn s'=>∃i τ H',τ.length=own.length∧Inv (cxC X scope cl (own++fr) fp s3 (upd H2 s2.heap.objs.size (.lst []))) [] (τ++xq ix σ) H' s'∧tn i s'.heap∧(∀b∈fp,H' b=none)∧W i n H') ?_ m0
   ⟨0,aal own.length none,_,abc,I4,st4,λb hb=>(f3 b hb).1,w0⟩
  rintro n s5 ⟨i,τ,H5,hτ,I5,st5,fr5,w5⟩;rcases turn i n H5 w5 with ⟨stop,qn⟩ | ⟨go,step⟩
  ·refine wpAny_mono (T.done (cxC X scope cl (own++fr) fp s3 (upd H2 s2.heap.objs.size (.lst []))) rfl rfl rfl hc i [] s5 _ H5 (λ_ _=>False) I5 (stat fr5) st5 stop) (λr s6 ⟨hr,I6⟩=>?_) λ_ _ z=>z.elim;subst hr;obtain ⟨mm,hmm,_⟩:=I6.loc;exact hRR s3 s6 _ H5 τ I3 (Mb I3 f3 I6) I6.free ⟨mm,hmm⟩ qn
  ·refine wpAny_mono (T.item (cxC X scope cl (own++fr) fp s3 (upd H2 s2.heap.objs.size (.lst []))) rfl rfl rfl hc i [] s5 _ H5 (λ_ _=>False) I5 (stat fr5) st5 go) (λr s6 ⟨u,hr,h6⟩=>?_) λ_ _ z=>z.elim;subst hr;refine wpAny_mono h6 (λ_ s7 ⟨x,H7,I7,r7,y7,st7,fr7⟩=>?_) λ_ _ z=>z.elim;have I7':=I7.pinned (stat fr7) (T.obj _ _ st7);refine wpAny_mono (hg fp s3 _ _ s7 _ H7 x u _ I7' r7 (step τ x H7 hτ y7)) (λ_ s8 ⟨σ8,H8,I8,⟨τ',hτ',e8⟩,q8⟩=>?_) λ_ _ z=>z.elim;have fin:∀{H9:Hp} {s9:Shared},Inv (cxC X scope cl (own++fr) fp s3 (upd H2 s2.heap.objs.size (.lst []))) ([]++wb fp s7.heap) σ8 H9 s9→(∃m',m' < n∧W (i+1) m' H9)→
     ∃m,m < n∧∃i τ H',τ.length=own.length∧Inv (cxC X scope cl (own++fr) fp s3 (upd H2 s2.heap.objs.size (.lst []))) [] (τ++xq ix σ) H' s9∧tn i s9.heap∧(∀b∈fp,H' b=none)∧W i m H':=λ{H9 s9} I9 hw=>by
    obtain ⟨m',hm,w9⟩:=hw;refine ⟨m',hm,i+1,τ',H9,hτ',e8 ▸ I9.oy,T.keep _ _ _ st7 λb hb o e=>(I9.pin (b,o) (aav _ (aav _ (j0 hb e)))).1,λb hb=>?_,w9⟩;obtain ⟨o,e,d⟩:=T.obj _ _ st7 b hb;exact (I9.pin (b,o) (aav _ (aav _ (j0 hb e)))).2.1
   refine wpAny_mono (ht fp s3 _ _ s8 σ8 H8 _ I8 q8) (λok s9 ⟨H9,I9,q9⟩=>?_) λ_ _ z=>z.elim;cases ok with
   | false=>exact fin I9 q9
   | true=>
    refine wpAny_mono (he fp s3 _ _ s9 σ8 H9 _ I9 q9) (λy s10 ⟨v10,H10,I10,r10,ys,hD,hz,q10⟩=>?_) λ_ _ z=>z.elim;refine wpAny_mono (y9 (X:=cxC X scope cl (own++fr) fp s3 (upd H2 s2.heap.objs.size (.lst []))) _ s10 σ8 H10 (.ref s2.heap.objs.size) [v10] _ [y] (λ_ H'=>∃m',m' < n∧W (i+1) m' H') I10 rfl (.cons r10 .nil) ⟨_,ys,v10,rfl,rfl,hD,hz,q10⟩) (λ_ s11 ⟨_,H11,I11,_,q11⟩=>?_) λ_ _ z=>z.elim;exact fin I11 q11
 exact codeAny_compStart_list (loop _ rfl) (T.self _ 0 _ _ _ st4 (loop _ rfl))
theorem pe_lc (C:ka X scope own fr ix cl) (hc:X.calm=true) (hi:PI X tg iter wi) (hg:∀fp s H,PG (cxC X scope cl (own++fr) fp s H) tg g)
  (ht:∀fp s H,PIfs (cxC X scope cl (own++fr) fp s H) ifs tc) (he:∀fp s H,PE (cxC X scope cl (own++fr) fp s H) elt te)
  (hs:∀x,foldedSetIterable iter X.env x=pure x:=by intro _;rfl):PE X (.ListComp elt [⟨tg,iter,ifs,0⟩] scope pos) (tLC own.length ix wi g tc te):=by
 intro pins s σ H Q I h;rw[eval_ListComp];refine wpAny_comprehension_free (use:=none) rfl hs C.clos C.kind C.J6 (thn (hi pins s σ H _ I h) λv s1 h1=>thn h1 λitv s2 h2=>?_);obtain ⟨it,fp,tn,J,H2,e,I2,T,st2,f2,q⟩:=h2;subst e;refine ur (RR:=λacc D=>compPost (model X.prog X.w) X.A X.xe none (EP X pins σ Q) acc D) C hc hg ht he I2 T st2 f2 (q _ (I2.hok.fresh (aa3 _))) λs3 s' H3 H' τ I3 I' hn hm q'=>?_;obtain ⟨m,hm⟩:=hm;exact ⟨m,hm,λh' sb=>⟨.ref s2.heap.objs.size,H',Bx I3 I' hn sb,rfl,q'⟩⟩
def Jz (i n:Nat) (ix:List Nat) (wi:TI) (g:TG) (tc:TT) (te:TE):TS:=λD σ H=>wi σ H λJ H1=>∀l,H1 l=none→LC n (xq ix σ) g tc te J l H1 λH'=>D.nx (σ.set i (some (.ref l))) H'
theorem Kp {i:Nat} {x:Str} {px spos:Pos} (hN:X.N.Nodup) (hx:X.N[i]?=some x) (hl:Loc X.env.scope x) (C:ka X scope own fr ix cl) (hc:X.calm=true) (hi:PI X tg iter wi)
  (hg:∀fp s H,PG (cxC X scope cl (own++fr) fp s H) tg g) (ht:∀fp s H,PIfs (cxC X scope cl (own++fr) fp s H) ifs tc) (he:∀fp s H,PE (cxC X scope cl (own++fr) fp s H) elt te)
  (hsw:swapsWith (.ListComp elt [⟨tg,iter,ifs,0⟩] scope pos) (some (.Name x px)) spos.line X.env=pure true:=by rfl)
  (hs:∀x,foldedSetIterable iter X.env x=pure x:=by intro _;rfl) (hf:X.fn x=true∨X.env.scope.names.lookup x=some .local:=by first | exact .inl rfl | exact .inr rfl | assumption):
  PS X (.Assign [.Name x px] (.ListComp elt [⟨tg,iter,ifs,0⟩] scope pos) spos) (Jz i own.length ix wi g tc te):=by
 intro pins s σ H D I h;rw[exec_Assign_Name_used _ _ _ _ hsw];refine wpAny_bind (wpAny_standAt (wpAny_bind ?_));show wpAny _ X.A (do let _ ←comprehension (.ListComp elt [⟨tg,iter,ifs,0⟩] scope pos) scope X.env _ (newList []) false (eval iter X.env) (some (assign (.Name x px) X.env))) _ _ s
 refine wpAny_bind (wpAny_mono (wpAny_comprehension_free (use:=some (assign (.Name x px) X.env)) (Q:=λ_ s'=>SP X pins D .next s') rfl hs C.clos C.kind C.J6
  (thn (hi pins s σ H _ I h) λv s1 h1=>thn h1 λitv s2 h2=>?_)) (λ_ s' hq=>wpAny_pure (wpAny_pure hq)) λ_ _ e=>e)
 obtain ⟨it,fp,tn,J,H2,e,I2,T,st2,f2,q⟩:=h2;subst e;refine ur (RR:=λacc C=>compPost (model X.prog X.w) X.A X.xe (some (assign (.Name x px) X.env)) (λ_ s'=>SP X pins D .next s') acc C) C hc hg ht he I2 T st2 f2 (q _ (I2.hok.fresh (aa3 _))) λs3 s' H3 H' τ I3 I' hn hm q'=>?_;obtain ⟨m,hm⟩:=hm;show wpAny _ X.A (assign (.Name x px) X.env (.ref s2.heap.objs.size)) _ _ _
 refine wpAny_assign_Name (yn I' hN hx hl (v:=.ref s2.heap.objs.size) rfl (λs'' I'' hsb=>?_) hf);obtain ⟨a,sba,ha⟩:=hsb;have hne:s3.heap.objs.size≠a:=by
  rcases ha with rfl | ha
  ·exact ab9 I3.lt
  ·obtain ⟨v,qv⟩:=I3.cell x a ha;exact ab9 qv.lt
 exact ⟨m,hm.sameBut sba hne,λh' sb=>⟨_,H',Bx I3 I'' hn sb,q'⟩⟩
end
noncomputable def Its (z:Str):It:=⟨λi _=>i < z.cps.size,λi H x H'=>H'=H∧∃c,z.cps[i]?=some c∧x=.str ⟨#[c]⟩,λi _=>i=z.cps.size⟩
def iStr (tl:TE):TI:=λσ H R=>tl σ H λx H1=>∃z,x=.str z∧R (Its z) H1
noncomputable def cutS (z:Str) (lo hi:Option Int):Str:=⟨((z.cps.toList.drop (HT.sIx z.length 0 lo)).take (HT.sIx z.length z.length hi - HT.sIx z.length 0 lo)).toArray⟩
section
variable {X:Cx}
def rSlS:V→Option Int→Option Int→Hp→VK→Prop:=λx lo hi H Q=>∃z,x=.str z∧z.length≤sizeLine∧Q (.str (cutS z lo hi)) H
noncomputable def mq (z:Str) (n:Nat):Str:=⟨(aal n z.cps.toList).flatten.toArray⟩
theorem yv (x:List Nat):∀(n:Nat) (acc:Array Nat),(aal n x.toArray).foldl (·++·) acc=acc++(aal n x).flatten.toArray
 | 0,acc=>by simp
 | n+1,acc=>by
  rw[ab3,aeu,yv x n,ab3,abv];apply Array.toList_inj.mp
  simp
theorem Qg (z:Str) (n:Int) (h:0≤n):Txt.mul z n=mq z n.toNat:=by
 unfold Txt.mul mq;by_cases h1:n < 1
 ·rw[if_pos h1];have e:n.toNat=0:=by omega
  rw[e];rfl
 ·rw[if_neg h1];by_cases h2:(n==1||z.length==0)=true
  ·rw[if_pos h2];rw[ae0] at h2;rcases h2 with h2 | h2
   ·have e:n=1:=eq_of_beq h2;subst e;show z=⟨(aal 1 z.cps.toList).flatten.toArray⟩
    simp
   ·have e:z.length=0:=eq_of_beq h2;have e0:z.cps=#[]:=Array.eq_empty_of_size_eq_zero e;cases z with
    | mk c=>cases e0;simp
  ·rw[if_neg h2];have e:=yv z.cps.toList n.toNat #[];have e3:z.cps.toList.toArray=z.cps:=by simp
   rw[e3] at e;rw[e];simp
theorem oo:OpR X (binaryOp .Mult) (λx y H Q=>∃z n,x=.str z∧y=.int n∧0≤n∧n≤1000∧z.length≤1000∧Q (.str (mq z n.toNat)) H):=by
 intro pins s σ H x y v u Q I rx ry h;obtain ⟨z,n,rfl,rfl,h0,h1,h2,q⟩:=h;obtain ⟨t,rfl⟩:=rx;obtain ⟨t',rfl⟩:=ry;have hb:z.length*n.toNat≤1000*1000:=Nat.mul_le_mul h2 (by omega);refine SB.mul ⟨by rw[Bool.or_eq_false_iff];exact ⟨decide_eq_false (by omega),decide_eq_false (by omega)⟩,λhn1 _=>?_,λ_ _=>?_⟩ λt' k=>⟨.str _,H,I.tok _,⟨_,rfl⟩,by rw[Qg z n h0];exact q⟩
 ·have hp:0 < n:=by omega
  have h3:(z.length:Int)*n≤1000*n:=Int.mul_le_mul_of_nonneg_right (by omega) h0;have h4:(z.length:Int)≤(2 ^ 63 - 1) / n:=Int.le_ediv_of_mul_le hp (by omega);omega
 ·unfold Builtin.Str.tooLong;exact decide_eq_false (by have:=sizeLine_eq;omega)
theorem Ca:jf X (.builtin "isinstance") (λxs H Q=>∃x n t b,xs=[x,.ty n]∧qy X.K H x t∧PySem.W.kitOne X.K t (.type n)=some b∧Q (.bl b) H):=by
 intro pins s σ H xs us Q I r h;obtain ⟨x,n,t,b,rfl,ty,e,q⟩:=h;obtain ⟨u,u2,rfl,r1,r2⟩:=vals2 r;cases (show u2=Value.type n from r2)
 exact Ha I r1 ty e λtk=>⟨.bl b,H,I.tok tk,rfl,q⟩
end
theorem aa {H:Hp} {p:Addr} (h:H p=none) (o:HO):ak H (upd H p o):=λb u q=>by rw[ah (af q h)];exact q
theorem ak.upd {H H':Hp} {p:Addr} (e:ak H H') (h:H p=none) (o:HO):ak H (L2.upd H' p o):=λb u q=>by rw[ah (af q h)];exact e b u q
theorem ak.tup {K:PySem.W.Frag} {H H':Hp} {a:Addr} {xs:List V} (e:ak H H') (h:SqT K H a xs):SqT K H' a xs:=by
 rcases h with (h | ⟨o,h⟩) | h
 ·exact .inl (.inl (e _ _ h))
 ·exact .inl (.inr ⟨o,e _ _ h⟩)
 ·exact .inr h
def Has (P:Program) (w:World) (K:PySem.W.Frag) (mg:Str→Option Value) (base:Heap) (k:Nat) (x:Str) (ps:List Str) (sp:Sp):Prop:=
 ∃(f:Addr) (fd:FuncData),mi P w K mg base CX0 k f fd ps sp∧Binds K fd ps []∧PySem.W.keepIn K (.ref f)=true∧mg x=some (.ref f)
theorem Has.up {P:Program} {w:World} {K:PySem.W.Frag} {mg:Str→Option Value} {base:Heap} {j k:Nat} {x:Str} {ps:List Str} {sp:Sp} (h:Has P w K mg base j x ps sp) (l:j≤k):Has P w K mg base k x ps sp:=by
 obtain ⟨f,fd,F,r⟩:=h;exact ⟨f,fd,F.mono l,r⟩
def Def (K:PySem.W.Frag) (mg:Str→Option Value) (x:Str) (st:Stmt) (ps:List Str):Prop:=
 ∃(f:Addr) (fd:FuncData),Fun K x x st f fd∧Binds K fd ps []∧mg x=some (.ref f)
theorem Def.has {P:Program} {w:World} {K:PySem.W.Frag} {mg:Str→Option Value} {base:Heap} {k:Nat} {x:Str} {st:Stmt} {N ps:List Str} {sp:Sp} (D:Def K mg x st ps) (S:ax N ps (ag st)) (len:∀vs H Q E,sp vs H Q E→vs.length=ps.length)
  (hbody:∀(f:Addr) (cdv:Value) (A:Around) (outer:List Env) (s:Shared) (H:Hp) (vs:List V) (Q:VK) (E:XK),fz k (A.deeper (envOfC x (ag st) s.heap.objs.size f cdv))→sp vs H Q E→
   ∃t,PSs (nc CX0 P w K mg base N x (ag st) f cdv A outer s H E).nox (av st) t∧t { nx:=λ_ H'=>Q .non H',rt:=Q } (start N vs) H):Has P w K mg base (k+1) x ps sp:=by
 obtain ⟨f,fd,F,b,m⟩:=D;exact ⟨f,fd,F.ok S len λcdv A outer s H vs Q E hr h=>hbody f cdv A outer s H vs Q E hr h,b,F.kp,m⟩
section
variable {X:Cx} {k:Nat} {ps:List Str} {sp:Sp} {x:Str} {p pos:Pos} {e:Expr} {es:List Expr} {t:TA}
theorem pe_has (h:Has X.prog X.w X.K X.mg X.base k x ps sp) (hr:fz k X.A) (ha:PA X (e::es) t) (hg:Gl X x:=by rfl) (hdb:(x==("__debug__":Str))=false:=by decide+kernel)
  (he:starEach (e::es) X.env=(false,eval e X.env)::starEach es X.env:=by rfl) (hpl:(backTo pos (starEach es X.env)).any (·.1)=false:=by rfl):
  PE X (.Call (.Name x p) (e::es) [] pos) (Gq sp [] E0 t):=by
 obtain ⟨f,fd,F,b,kp,m⟩:=h;exact Gi F hr hg m kp b .nil pass0 ha hdb he hpl
end
theorem Dt {J:It} {fr:St} {tc:TT} {te:TE} {D:Addr} {H1:Hp} {Q:Hp→Prop} (n:Nat) (item:Nat→V) (P:Nat→List V→Prop) (hn:n < sizeLine) (hD:H1 D=none)
  (hgo:∀i H,i < n→ak H1 H→J.go i H) (hyld:∀i H x H',i < n→ak H1 H→J.yld i H x H'→H'=H∧x=item i) (hstop:∀H,ak H1 H→J.stop n H)
  (h0:P 0 [])
  (step:∀i ys H (G:Hp→Prop) (K':V→Hp→Prop),i < n→P i ys→ys.length≤i→ak H1 H→(∀H3,ak H H3→P (i+1) ys→G H3)→(∀y H4,ak H H4→P (i+1) (ys++[y])→K' y H4)→tc ([some (item i)]++fr) H λb H3=>if b=true then te ([some (item i)]++fr) H3 K' else G H3)
  (done:∀ys H,P n ys→ys.length≤n→ak H1 H→H D=some (.lst ys)→Q H):LC 1 fr (cu 0) tc te J D H1 Q:=by
 refine ⟨λi m H=>m=n - i∧i≤n∧∃ys,H D=some (.lst ys)∧P i ys∧ys.length≤i∧ak H1 H,⟨n,by simp,aa6 _,[],ae,h0,aa3 _,aa hD _⟩,?_⟩;rintro i m H ⟨rfl,hi,ys,hys,hP,hl,hS⟩;by_cases hlt:i < n
 ·refine .inr ⟨hgo i H hlt hS,λτ x H' hτ hy=>?_⟩;obtain ⟨e1,e2⟩:=hyld i H x H' hlt hS hy;subst e1 e2;obtain ⟨a,rfl⟩:∃a,τ=[a]:=List.length_eq_one_iff.mp hτ;refine ⟨⟨[some (item i)],rfl,rfl⟩,step i ys H' (λH3=>∃m',m' < n - i∧m'=n - (i+1)∧i+1≤n∧∃ys,H3 D=some (.lst ys)∧P (i+1) ys∧ys.length≤i+1∧ak H1 H3)
   (λy H4=>∃zs,H4 D=some (.lst zs)∧zs.length < sizeLine∧∃m',m' < n - i∧m'=n - (i+1)∧i+1≤n∧∃ys,upd H4 D (.lst (zs++[y])) D=some (.lst ys)∧P (i+1) ys∧ys.length≤i+1∧ak H1 (upd H4 D (.lst (zs++[y])))) hlt hP hl hS (λH3 q1 q2=>?_) (λy H4 q1 q2=>?_)⟩
  ·exact ⟨n - (i+1),by omega,rfl,hlt,ys,q1 _ _ hys,q2,acj hl,hS.trans q1⟩
  ·refine ⟨ys,q1 _ _ hys,by omega,n - (i+1),by omega,rfl,hlt,ys++[y],ae,q2,?_,(hS.trans q1).upd hD _⟩;rw[aa2,aaa];omega
 ·have e:i=n:=by omega
  subst e;exact .inl ⟨hstop H hS,done ys H hP hl hS hys⟩
theorem Ai {K:PySem.W.Frag} {a:Addr} {xs:List V} {fr:St} {tc:TT} {te:TE} {D:Addr} {H1:Hp} {Q:Hp→Prop} (P:Nat→List V→Prop) (hS:SqL K H1 a xs) (hn:xs.length < sizeLine) (hD:H1 D=none) (h0:P 0 [])
  (step:∀i x ys H (G:Hp→Prop) (K':V→Hp→Prop),xs[i]?=some x→P i ys→ys.length≤i→ak H1 H→(∀H3,ak H H3→P (i+1) ys→G H3)→(∀y H4,ak H H4→P (i+1) (ys++[y])→K' y H4)→tc ([some x]++fr) H λb H3=>if b=true then te ([some x]++fr) H3 K' else G H3)
  (done:∀ys H,P xs.length ys→ys.length≤xs.length→ak H1 H→H D=some (.lst ys)→Q H):LC 1 fr (cu 0) tc te (Itl K a) D H1 Q:=by
 have at':∀i,i < xs.length→xs[i]?=some (xs.getD i .non):=λi hi=>by
  rw[aae,aa1 hi];rfl
 exact Dt xs.length (λi=>xs.getD i .non) P hn hD (λi H hi hs=>⟨xs,_,hs.seq hS,at' i hi⟩)
  (λi H x H' hi hs hy=>⟨hy.1,aa4 ((hy.2 xs (hs.seq hS)).symm.trans (at' i hi))⟩) (λH hs=>⟨xs,hs.seq hS,aa3 _⟩) h0
  (λi ys H G K' hi hp hl hs hG hK=>step i _ ys H G K' (at' i hi) hp hl hs hG hK) done
theorem Eo {K:PySem.W.Frag} {a:Addr} {xs:List V} {fr:St} {tc:TT} {te:TE} {D:Addr} {H1:Hp} {Q:Hp→Prop} (P:Nat→List V→Prop) (hS:SqT K H1 a xs) (hn:xs.length < sizeLine) (hD:H1 D=none) (h0:P 0 [])
  (step:∀i x ys H (G:Hp→Prop) (K':V→Hp→Prop),xs[i]?=some x→P i ys→ys.length≤i→ak H1 H→(∀H3,ak H H3→P (i+1) ys→G H3)→(∀y H4,ak H H4→P (i+1) (ys++[y])→K' y H4)→tc ([some x]++fr) H λb H3=>if b=true then te ([some x]++fr) H3 K' else G H3)
  (done:∀ys H,P xs.length ys→ys.length≤xs.length→ak H1 H→H D=some (.lst ys)→Q H):LC 1 fr (cu 0) tc te (Itt K a) D H1 Q:=by
 have at':∀i,i < xs.length→xs[i]?=some (xs.getD i .non):=λi hi=>by
  rw[aae,aa1 hi];rfl
 exact Dt xs.length (λi=>xs.getD i .non) P hn hD (λi H hi hs=>⟨xs,_,hs.tup hS,at' i hi⟩)
  (λi H x H' hi hs hy=>⟨hy.1,aa4 ((hy.2 xs (hs.tup hS)).symm.trans (at' i hi))⟩) (λH hs=>⟨xs,hs.tup hS,aa3 _⟩) h0
  (λi ys H G K' hi hp hl hs hG hK=>step i _ ys H G K' (at' i hi) hp hl hs hG hK) done
theorem Ml {lo:Int} {n:Nat} {fr:St} {tc:TT} {te:TE} {D:Addr} {H1:Hp} {Q:Hp→Prop} (P:Nat→List V→Prop) (hn:n < sizeLine) (hD:H1 D=none) (h0:P 0 [])
  (step:∀(i:Nat) ys H (G:Hp→Prop) (K':V→Hp→Prop),i < n→P i ys→ys.length≤i→ak H1 H→(∀H3,ak H H3→P (i+1) ys→G H3)→(∀y H4,ak H H4→P (i+1) (ys++[y])→K' y H4)→tc ([some (.int (lo+i))]++fr) H λb H3=>if b=true then te ([some (.int (lo+i))]++fr) H3 K' else G H3)
  (done:∀ys H,P n ys→ys.length≤n→ak H1 H→H D=some (.lst ys)→Q H):LC 1 fr (cu 0) tc te (Itr lo n) D H1 Q:=
 Dt n (λi=>.int (lo+i)) P hn hD (λi H hi _=>hi) (λi H x H' hi hs hy=>hy) (λH hs=>aa3 _) h0 step done
section
variable {X:Cx} {x:Str} {pos:Pos}
theorem O9 {a:Addr} (hm:X.mg x=some (.ref a)) (hg:Gl X x:=by rfl) (hd:(x==("__debug__":Str))=false:=by decide+kernel):PE X (.Name x pos) (tC (.ref a)):=Ph hg hm rfl hd
theorem pe_gty {T:String} (hm:X.mg x=none) (hv:bootBuiltins x=some (.type T)) (hg:Gl X x:=by rfl) (hn:x≠"__name__":=by decide+kernel) (hd:(x==("__debug__":Str))=false:=by decide+kernel):PE X (.Name x pos) (tC (.ty T)):=Pb hg hm hv rfl hn hd
end
theorem dr:bootBuiltins "len"=some (.builtin "len"):=by decide+kernel
theorem b_sum:bootBuiltins "sum"=some (.builtin "sum"):=by decide+kernel
theorem eh:bootBuiltins "isinstance"=some (.builtin "isinstance"):=by decide+kernel
theorem wz:bootBuiltins "int"=some (.type "int"):=by decide+kernel
theorem Ge:bootBuiltins "str"=some (.type "str"):=by decide+kernel
theorem Ly:bootBuiltins "list"=some (.type "list"):=by decide+kernel
theorem de:bootBuiltins "tuple"=some (.type "tuple"):=by decide+kernel
theorem b_dict:bootBuiltins "dict"=some (.type "dict"):=by decide+kernel
theorem Lc:bootBuiltins "sorted"=some (.builtin "sorted"):=by decide+kernel
theorem str_eq {a b:Str}:a=b↔a.cps.toList=b.cps.toList:=by
 constructor
 ·intro e;rw[e]
 ·intro e;cases a;cases b
  exact congrArg Str.mk (Array.toList_inj.mp e)
theorem cxOf_K {CX:CXT} {P:Program} {w:World} {K:PySem.W.Frag} {mg:Str→Option Value} {base:Heap} {N:List Str} {qual:Str} {scope:Scope} {f:Addr} {cd:Value} {A:Around} {outer:List Env} {s:Shared} {H:Hp} {E:XK}:(nc CX P w K mg base N qual scope f cd A outer s H E).K=K:=rfl
theorem nox_K {X:Cx}:X.nox.K=X.K:=rfl
inductive zt:List Expr→List V→Prop where
 | nil:zt [] []
 | str {x:Str} {j:Nat} {pos:Pos} {es:List Expr} {vs:List V} (h:zt es vs):zt (.Constant (.str x) j pos::es) (.str x::vs)
 | int {i:Int} {j:Nat} {pos:Pos} {es:List Expr} {vs:List V} (h:zt es vs):zt (.Constant (.int i) j pos::es) (.int i::vs)
def tVals (vs:List V):TA:=λ_ H Q=>Q vs H
theorem Lm {X:Cx} {es:List Expr} {vs:List V} (h:zt es vs):PA X es (tVals vs):=by
 induction h with
 | nil=>exact Mp
 | str _ ih=>exact Ak Mv ih
 | int _ ih=>exact Ak Mf ih
def Eh (g:TG) (tb:TS) (D:Ends) (J:It) (σ:St) (H1:Hp):Prop:=∃W:Nat→Nat→St→Hp→Prop,(∃m,W 0 m σ H1)∧∀i m σ H,W i m σ H→
 (J.stop i H∧D.nx σ H)∨(J.go i H∧∃N:St→Hp→Prop,(∀σ' H',N σ' H'→∃m',m' < m∧W (i+1) m' σ' H')∧∀x H',J.yld i H x H'→g x σ H' λσ2 H2=>tb { D with nx:=N,ct:=N,bk:=D.nx } σ2 H2)
theorem Nk (wi:TI) (g:TG) (tb:TS) (D:Ends) (σ:St) (H:Hp):tFor wi g tb D σ H=wi σ H λJ H1=>Eh g tb D J σ H1:=rfl
section
variable {K:PySem.W.Frag} {a:Addr} {xs:List V} {g:TG} {tb:TS} {D:Ends} {σ:St} {H:Hp}
theorem gw (Pv:Nat→St→Hp→Prop) (h0:Pv 0 σ H) (hl:∀i σ H,i≤xs.length→Pv i σ H→SqL K H a xs)
  (hs:∀i x σ H,xs[i]?=some x→Pv i σ H→g x σ H λσ2 H2=>tb { D with nx:=Pv (i+1),ct:=Pv (i+1),bk:=D.nx } σ2 H2) (hd:∀σ H,Pv xs.length σ H→D.nx σ H):Eh g tb D (Itl K a) σ H:=Js Pv h0 hl hs hd
theorem gd (Pv:Nat→St→Hp→Prop) (h0:Pv 0 σ H) (hl:∀i σ H,i≤xs.length→Pv i σ H→SqT K H a xs)
  (hs:∀i x σ H,xs[i]?=some x→Pv i σ H→g x σ H λσ2 H2=>tb { D with nx:=Pv (i+1),ct:=Pv (i+1),bk:=D.nx } σ2 H2) (hd:∀σ H,Pv xs.length σ H→D.nx σ H):Eh g tb D (Itt K a) σ H:=Pr Pv h0 hl hs hd
theorem ij {lo:Int} {n:Nat} (Pv:Nat→St→Hp→Prop) (h0:Pv 0 σ H)
  (hs:∀i σ H,i < n→Pv i σ H→g (.int (lo+i)) σ H λσ2 H2=>tb { D with nx:=Pv (i+1),ct:=Pv (i+1),bk:=D.nx } σ2 H2) (hd:∀σ H,Pv n σ H→D.nx σ H):Eh g tb D (Itr lo n) σ H:=Hw Pv h0 hs hd
end
end L2
namespace L2
open PySem PySem.Spec PyProof.Rows Builtin Builtin.Str
def ModD (w:World) (K:PySem.W.Frag) (a:Addr) (kvs:List (Key×V)):Prop:=
 (a==sysModules)=false∧∀(P:Program) (h:Heap),K.In h→∃vs,KV kvs vs∧h.DictOf (bg P w) a vs
abbrev Gm:=Int×Str×Tok×Int×Tok
noncomputable def siE (e:Gm):DictEntry:=⟨e.1,.str e.2.1 e.2.2.1,.int e.2.2.2.1 e.2.2.2.2⟩
theorem Cp (P:Program) (w:World):∀es:List Gm,Pairs (bg P w) (es.map siE) (es.map λe=>((Sum.inr e.2.1:Key),Value.int e.2.2.2.1 e.2.2.2.2))
 | []=>.nil
 | e::r=>.cons (kh P w e.2.1 e.2.2.1) rfl (Cp P w r)
theorem si_kv:∀es:List Gm,KV (es.map λe=>((Sum.inr e.2.1:Key),V.int e.2.2.2.1)) (es.map λe=>((Sum.inr e.2.1:Key),Value.int e.2.2.2.1 e.2.2.2.2))
 | []=>.nil
 | e::r=>.cons ⟨rfl,⟨_,rfl⟩⟩ (si_kv r)
theorem Qd {w:World} {K:PySem.W.Frag} {a:Addr} {ep:Nat} (es:List Gm) (hl:K.lookup a=some ⟨.type "dict",none,.dict (es.map siE).toArray ep,#[]⟩) (ha:(a==sysModules)=false)
  (hh:∀e∈es,e.1=hashStr w e.2.1) (nd:(es.map λe=>(Sum.inr e.2.1:Key)).Nodup):ModD w K a (es.map λe=>(Sum.inr e.2.1,V.int e.2.2.2.1)):=by
 refine ⟨ha,λP h hk=>⟨_,si_kv es,_,_,ep,hk a _ hl,⟨rfl,rfl,rfl⟩,rfl,λe he=>?_,by simpa using Cp P w es,?_⟩⟩
 ·have he':e∈es.map siE:=List.mem_toArray.mp he;obtain ⟨r,hr,rfl⟩:=List.mem_map.mp he';exact ⟨Sum.inr r.2.1,kh P w r.2.1 r.2.2.1,hh r hr⟩
 ·rw[ac0];exact nd
section
variable {X:Cx} {a:Addr} {kvs:List (Key×V)}
def L7 (kvs:List (Key×V)) (ty tx:TE):TE:=λσ H Q=>ty σ H λy H2=>tx σ H2 λz H3=>∃k,y=kV k∧Q ((cy kvs k).getD z) H3
theorem J8 {o e f:Expr} {apos cpos:Pos} {ty tx:TE} (ho:PE X o (tC (.ref a))) (md:ModD X.w X.K a kvs) (he:PE X e ty) (hf:PE X f tx) (m:M2 X o "get" apos e f cpos):PE X (.Call (.Attribute o "get" apos) [e,f] [] cpos) (L7 kvs ty tx):=by
 intro pins s σ H Q I h;refine wpAny_Call_method m.base m.few m.line PySem.F.plainAttrs_dict PySem.F.slot_dict_get PySem.F.type_dict_get (thn (ho pins s σ H (λx H1=>x=.ref a∧H1=H) I ⟨rfl,rfl⟩) λu s1 ⟨x,H1,I1,rx,ex,eH⟩=>?_);subst ex eH;obtain rfl:u=Value.ref a:=rx;obtain ⟨vs,rel,dd⟩:=md.2 X.prog _ I1.kIn;refine ⟨dd.typeIs,λb q=>?_,?_⟩
 ·cases q
  obtain ⟨ob,_,_,h1,h2,_⟩:=dd;exact ⟨ob,h1,h2.2.1⟩
 rw[m.trees];refine Calls.callWith_builtin rfl (Calls.evalArgs_plain (Calls.spliced_cons (thn (he pins s1 σ H1 _ I1 h) λiv s2 ⟨y,H2,I2,ry,q2⟩=>
  Calls.spliced_cons (thn (hf pins s2 σ H2 _ I2 q2) λfv s3 ⟨z,H3,I3,rz,k,ek,q3⟩=>Calls.spliced_nil ?_))))
 subst ek;obtain ⟨vs',rel',dd'⟩:=md.2 X.prog _ I3.kIn;refine call_meetsIn PySem.F.slot_dict_get dd'.typeIs PySem.F.entry_dict_get (PySem.F.args_dict_get_3 _ _ _) (meets_dict_get_default (bg X.prog X.w) a (tf ry) md.1 fv) ⟨_,dd'.mapOf,⟨_,H3,I3.tok _,?_,q3⟩⟩;exact (rel'.val k).getD rz
theorem xy (hc:X.calm=true):jf X (.builtin "sum") (λxs H Q=>∃p ns,xs=[.ref p]∧SqL X.K H p (ae7 V.int ns)∧Q (.int ns.sum) H):=by
 intro pins s σ H xs us Q I r h;obtain ⟨p,ns,rfl,hq,q⟩:=h;obtain ⟨u,rfl,rx⟩:=vals1 r;cases rx
 obtain ⟨its,rv,pl,hz⟩:=I.list hq;have hi:IntsAre its ns:=L2.intsAre_of rv;obtain ⟨ys,hy⟩:=hi.allInts.items;refine sum_intListG (I.ok.hd hc) (by rw[←hy];exact pl.isList) λh' tk t' hk=>⟨.int ns.sum,H,I.kept hk,⟨t',?_⟩,q⟩;have e:ys.toList.map (·.1)=ns:=by
  rw[←nums_intItems,←hy];exact hi.numsOf
 rw[preSum_eq,abj (by simp),e]
noncomputable def Gu:V→Str
 | .str z=>z
 | .int i=>(toString i:String)
 | _=>Str.empty
def wordV:V→Prop
 | .str _=>True
 | .int i=>i.natAbs.log2 < 1920
 | _=>False
theorem Ax:jf X (.type "str") (λxs H Q=>∃x,xs=[x]∧wordV x∧Q (.str (Gu x)) H):=by
 intro pins s σ H xs us Q I r h;obtain ⟨x,rfl,hw,q⟩:=h;obtain ⟨u,rfl,rx⟩:=vals1 r;cases x with
 | str z=>obtain ⟨t,rfl⟩:=rx;exact PySem.P.str_of_str ⟨.str z,H,I,⟨t,rfl⟩,q⟩
 | int i=>obtain ⟨t,rfl⟩:=rx;exact PySem.P.str_of_int hw ⟨.str _,H,I.tok _,⟨_,rfl⟩,q⟩
 | _=>exact hw.elim
end
end L2
namespace L2
open PySem PySem.Spec PyProof.Rows
section
variable {X:Cx} (K:PySem.W.Frag) (hK:X.K=K)
include hK
theorem vm:IxR X (rIxL K):=by subst hK;exact Fe
theorem Nv:IxR X (rIxT K):=by subst hK;exact Jl
theorem oh:OpR X (compareOp .In) (rIn K false):=by subst hK;exact zf
theorem xw:OpR X (compareOp .NotIn) (rIn K true):=by subst hK;exact qe
end
def tMid (t u:TS):TS:=λD σ H=>∃M:St→Hp→Prop,t { D with nx:=M } σ H∧∀σ' H',M σ' H'→u D σ' H'
theorem eu {t u:TS} {D:Ends} {σ:St} {H:Hp} (M:St→Hp→Prop) (h1:t { D with nx:=M } σ H) (h2:∀σ' H',M σ' H'→u D σ' H'):tMid t u D σ H:=⟨M,h1,h2⟩
section
variable {X:Cx} {st:Stmt} {rest:List Stmt} {t u:TS}
theorem Of (h1:PS X st t) (h2:PSs X rest u):PSs X (st::rest) (tMid t u):=by
 intro pins s σ H D I h;obtain ⟨M,h,hM⟩:=h;refine wpAny_execs_cons (thn (h1 pins s σ H { D with nx:=M } I h) λf s1 q=>?_);cases f with
 | next=>
  obtain ⟨σ',H',I',q⟩:=q;exact h2 pins s1 σ' H' D I' (hM σ' H' q)
 | ret v=>exact q
 | brk=>exact q
 | cont=>exact q
end
theorem Pg {K:PySem.W.Frag} {z:Str} {H:Hp}:tyV K "str" (.str z) H=True:=eq_true rfl
theorem aw {K:PySem.W.Frag} {a:Addr} {xs:List V} {H:Hp} (h:H a=some (.lst xs)):tyV K "list" (.ref a) H:=.inl ⟨rfl,xs,SqL.of h⟩
theorem au {K:PySem.W.Frag} {H:Hp} {t:Addr} {xs:List V} {i:Int} {v:V} {Q:VK} (h:H t=some (.tup xs)) (hv:atI xs i=some v) (q:Q v H):rIxT K (.ref t) (.int i) H Q:=⟨t,xs,i,v,rfl,rfl,SqT.of h,hv,q⟩
theorem ay {K:PySem.W.Frag} {H:Hp} {t:Addr} {xs:List V} {i:Int} {v:V} {Q:VK} (h:H t=some (.lst xs)) (hv:atI xs i=some v) (q:Q v H):rIxL K (.ref t) (.int i) H Q:=⟨t,xs,i,v,rfl,rfl,SqL.of h,hv,q⟩
theorem Nu {H:Hp} {a b:Addr} {xs ys:List V} {Q:VK} (h1:H a=some (.lst xs)) (h2:H b=some (.lst ys)) (hz:xs.length+ys.length≤sizeLine) (q:∀p,H p=none→Q (.ref p) (upd H p (.lst (xs++ys)))):rCat (.ref a) (.ref b) H Q:=⟨a,b,xs,ys,rfl,rfl,h1,h2,hz,q⟩
theorem O6 {H:Hp} {a:Addr} {x:V} {k:Int} {Q:VK} (h1:H a=some (.lst [x])) (h0:0≤k) (hk:k≤1000000) (q:∀p,H p=none→Q (.ref p) (upd H p (.lst (aal k.toNat x)))):rRep (.ref a) (.int k) H Q:=by
 have sz:=sizeLine_eq;refine ⟨a,k,[x],rfl,rfl,h1,by omega,by omega,by show 1*k.toNat≤sizeLine;omega,λp hp=>?_⟩;have e:(aal k.toNat [x]).flatten=aal k.toNat x:=by
  induction k.toNat with
  | zero=>rfl
  | succ n ih=>rw[ab3,abv,ih];rfl
 rw[e];exact q p hp
theorem ba {K:PySem.W.Frag} {H:Hp} {l:Addr} {xs:List V} {y:V} {Q:VK} (h:H l=some (.lst xs)) (hz:xs.length < sizeLine) (q:Q .non (upd H l (.lst (xs++[y])))):tyV K "list" (.ref l) H∧ox (.ref l) [y] H Q:=
 ⟨aw h,l,xs,y,rfl,rfl,h,hz,q⟩
end L2
namespace HT
open PySem PySem.Spec PyProof.Rows L2
section
variable {prog:Program} {w:World} {A:Around} {E:Value→Shared→Prop} {s:Shared}
theorem Lg {t b:Addr} {vs ws:List Value} {Q:Value→Shared→Prop} (ht:IsTup s.heap t vs.toArray) (hb:IsTup s.heap b ws.toArray) (hv:vs=[]) (h1:Q (.ref b) s):wpAny (model prog w) A (binaryOp .Add (.ref t) (.ref b)) Q E s:=by
 obtain ⟨⟨cls,dd,data,sl⟩,ho,hc,n,hd⟩:=id ht;obtain ⟨⟨cls2,dd2,data2,sl2⟩,ho2,hc2,n2,hd2⟩:=id hb;simp only at hc hd hc2 hd2;subst hc hd hc2 hd2;exact concat_meets ⟨_,ho,rfl⟩ ⟨_,ho2,rfl⟩ noFill_tuple_add seq_tuple_add PySem.F.slot_tuple_add PySem.F.entry_tuple_add (PySem.F.args_tuple_add_2 _ _)
  (tuple_addW0 t b vs.toArray ws.toArray n n2 dd dd2 sl sl2 (by simp[hv])) ⟨ho,ho2,h1⟩
theorem mh {t sl:Addr} {items:Array Value} {vl vu:Value} {lo hi:Option Int} {Q:Value→Shared→Prop} (ht:IsTup s.heap t items) (hs:s.heap.IsSliceOf sl vl vu .none) (pl:IsPart vl lo) (pu:IsPart vu hi)
  (hw:sIx items.size 0 lo=0∧sIx items.size items.size hi=items.size) (h:Q (.ref t) s) (hsz:items.size≤sizeLine):wpAny (model prog w) A (getItem (.ref t) (.ref sl)) Q E s:=by
 obtain ⟨os,hos,hcs,hds⟩:=id hs;have hTs:s.TypeIs (.ref sl) "slice":=⟨os,hos,hcs⟩;unfold getItem;try with_reducible refine wpAny_holding ?_
 first | refine wpAny_bind (wpAny_pure ?_) | skip
 refine wpAny_bind (wpAny_sequenceKey ht.typeIs (by decide) ?_);refine wpAny_bind (wpAny_callSpecial?_slot (name:=Str.ofString "__getitem__") ht.typeIs PyProof.Rows.slot_tuple_getitem
  (wpAny_call_entry PyProof.Rows.slot_tuple_getitem ht.typeIs entry_tuple_getitem ?_ (args_tuple_getitem _ _)))
 show wpAny _ _ (Builtin.Tuple.tupleItemsOf (.ref t) >>=_) _ _ s
 refine wpAny_bind (tupleItemsOf_ ht ?_);refine wpAny_bind (wpAny_typeOf hTs ?_);rw[if_pos (by decide)];refine wpAny_bind (i6 hs pl pu ?_);have hyes:((((sIx items.size 0 lo:Nat):Int)==0&&(1:Int)==1&&(sIx items.size items.size hi - sIx items.size 0 lo)==items.size)=true):=by
  rw[hw.1,hw.2];simp
 show wpAny _ _ (if (((sIx items.size 0 lo:Nat):Int)==0&&(1:Int)==1&&(sIx items.size items.size hi - sIx items.size 0 lo)==items.size)=true then _ else _) _ _ s
 rw[if_pos hyes];refine wpAny_bind ?_;show wpAny _ _ (typeOf (.ref t) >>=λv=>pure (v==.type "tuple")) _ _ s
 refine wpAny_bind (wpAny_typeOf ht.typeIs (wpAny_pure ?_));rw[if_pos (by decide)];refine wpAny_bind (wpAny_rule ?_);first
  | exact wpAny_bind (wpAny_pure (wpAny_pure ⟨_,rfl,wpAny_pure h⟩))
  | exact wpAny_pure ⟨_,rfl,wpAny_pure h⟩
  | exact wpAny_bind (wpAny_pure ⟨_,rfl,wpAny_pure h⟩)
end
end HT
namespace L2
open PySem PySem.Spec PyProof.Rows
section
variable {X:Cx}
def rCatU:R2:=λx y H Q=>∃a b xs ys,x=.ref a∧y=.ref b∧H a=some (.tup xs)∧H b=some (.tup ys)∧xs.length+ys.length≤sizeLine∧∀p H',ak H H'→H' p=some (.tup (xs++ys))→Q (.ref p) H'
theorem Pj:OpR X (binaryOp .Add) rCatU:=by
 intro pins s σ H x y v u Q I rx ry h;obtain ⟨a,b,xs,ys,rfl,rfl,ha,hb,hz,q⟩:=h;by_cases hx:xs=[]
 ·subst hx;cases rx
  cases ry
  obtain ⟨its,r1,p1,_⟩:=I.tuple (SqT.of ha);obtain ⟨its2,r2,p2,_⟩:=I.tuple (SqT.of hb);exact HT.Lg p1 p2 (r1.uc.mpr rfl) ⟨.ref b,H,I,rfl,q b H (ak.refl H) hb⟩
 ·refine Pq pins s σ H _ _ v u Q I rx ry ⟨a,b,xs,ys,rfl,rfl,SqT.of ha,SqT.of hb,hx,hz,λe=>?_,λ_ p hp=>q p _ (λc o h=>by rw[ah (af h hp)];exact h) ae⟩;subst e;exact q a H (ak.refl H) (by rw[ab7];exact ha)
theorem L9 {H:Hp} {a b:Addr} {xs ys:List V} {Q:VK} (ha:H a=some (.tup xs)) (hb:H b=some (.tup ys)) (hz:xs.length+ys.length≤sizeLine) (q:∀p H',ak H H'→H' p=some (.tup (xs++ys))→Q (.ref p) H'):rCatU (.ref a) (.ref b) H Q:=⟨a,b,xs,ys,rfl,rfl,ha,hb,hz,q⟩
def rSlU:V→Option Int→Option Int→Hp→VK→Prop:=λx lo hi H Q=>∃a xs,x=.ref a∧H a=some (.tup xs)∧∀p H',ak H H'→H' p=some (.tup (jh xs lo hi))→Q (.ref p) H'
theorem My {xs:List V} {lo hi:Option Int} (h:HT.sIx xs.length 0 lo=0∧HT.sIx xs.length xs.length hi=xs.length):jh xs lo hi=xs:=by
 unfold jh;rw[h.1,h.2,List.drop_zero,ack,abp]
theorem Fd:SlR X rSlU:=by
 intro pins s σ H x v vl vu lo hi sl Q I rx hs pl pu h;obtain ⟨a,xs,rfl,ha,q⟩:=h;by_cases hw:HT.sIx xs.length 0 lo=0∧HT.sIx xs.length xs.length hi=xs.length
 ·cases rx
  obtain ⟨its,r,ht,hz⟩:=I.tuple (SqT.of ha);have hlen:its.toArray.size=xs.length:=by rw[aa5];exact r.length.symm
  exact ⟨"tuple",_,PyProof.Rows.slot_tuple_getitem.lookup,ht.typeIs,HT.mh ht hs pl pu (by rw[hlen];exact hw) ⟨.ref a,H,I,rfl,q a H (ak.refl H) (by rw[My hw];exact ha)⟩ (by rw[hlen];exact hz)⟩
 ·exact sl_tup pins s σ H _ v vl vu lo hi sl Q I rx hs pl pu ⟨a,xs,rfl,SqT.of ha,hw,λp hp=>q p _ (λc o h=>by rw[ah (af h hp)];exact h) ae⟩
theorem Nh {H:Hp} {a:Addr} {xs:List V} {lo hi:Option Int} {Q:VK} (ha:H a=some (.tup xs)) (q:∀p H',ak H H'→H' p=some (.tup (jh xs lo hi))→Q (.ref p) H'):rSlU (.ref a) lo hi H Q:=⟨a,xs,rfl,ha,q⟩
theorem Ob (k:Key):g6 (kV k)=true:=by cases k <;> rfl
end
section
variable {X:Cx} {k:Nat} {ps:List Str} {sp:Sp} {x:Str} {p pos:Pos} {e:Expr} {es:List Expr} {t:TA}
def FnV (P:Program) (w:World) (K:PySem.W.Frag) (mg:Str→Option Value) (base:Heap) (k:Nat) (ps:List Str) (sp:Sp) (v:V):Prop:=
 ∃(f:Addr) (fd:FuncData),v=.ref f∧mi P w K mg base CX0 k f fd ps sp∧Binds K fd ps []∧PySem.W.keepIn K (.ref f)=true
def tCallV (P:Program) (w:World) (K:PySem.W.Frag) (mg:Str→Option Value) (base:Heap) (k:Nat) (ps:List Str) (i:Nat) (t:TA):TE:=λσ H Q=>∃v sp,σ[i]?=some (some v)∧FnV P w K mg base k ps sp v∧t σ H λvs H1=>sp vs H1 Q E0
end
noncomputable def Itv (K:PySem.W.Frag) (a:Addr) (n:Nat):It:=
 ⟨λi H=>i < n∧∃xs,SqL K H a xs∧xs.length=n,λi H x H'=>H'=H∧∀xs,SqL K H a xs→xs[n - 1 - i]?=some x,λi H=>i=n⟩
theorem Jc {P:Program} {w:World} {K:PySem.W.Frag} {tg:Expr} (a it:Addr) (n:Nat):Turn P w K tg (Itv K a n) [it] it (λi h=>i≤n∧h.IsRevIter it a ((n:Int) - 1 - (i:Int))) where
 mem:=by simp
 obj:=λi h st b hb=>by
  have e:b=it:=by simpa using hb
  subst e;obtain ⟨_,o,e,c,d⟩:=st;exact ⟨o,e,λv z=>by rw[d] at z;cases z⟩
 keep:=λi h h' st k=>⟨st.1,st.2.at λo e=>k it (by simp) o e⟩
 item:=by
  intro X hP hw hK hc i pins s σ H E I hf st hg;subst hP hw hK;obtain ⟨hi,xs,hq,hn⟩:=hg;have hx:xs[n - 1 - i]?=some (xs[n - 1 - i]'(by omega)):=aa1 (by omega);obtain ⟨its,rv,p,hz⟩:=I.list hq;obtain ⟨u,hu,ru⟩:=rv.get hx;obtain ⟨f0,f1,f2,f3,f4,f5⟩:=hf it (by simp);have e:(n:Int) - 1 - (i:Int)=((n - 1 - i:Nat):Int):=by omega
  have st2:=st.2;rw[e] at st2;refine wpAny_pyNext_rev_item st2 p.isList (x:=u) (by simpa using hu) λh' st' sb=>?_;have e2:((n - 1 - i:Nat):Int) - 1=(n:Int) - 1 - ((i+1:Nat):Int):=by omega
  rw[e2] at st';have I1:Inv X pins σ H { s with heap:=h' }:=I.turned (t':=s.toks) (λb o hb e=>(sb.2 b hb).trans e) f0 f1 f3 f4 f5;obtain ⟨o,e,c,d⟩:=id st';exact ⟨u,rfl,Cr (s:={ s with heap:=h' }) e c d (by decide) ⟨_,H,I1,ru,⟨rfl,λys hy=>by rw[I.xa hy hq];exact hx⟩,⟨hi,st'⟩,λb hb=>(hf b hb).1⟩⟩
 done:=by
  intro X hP hw hK hc i pins s σ H E I hf st hg;subst hP hw hK;obtain ⟨f0,f1,f2,f3,f4,f5⟩:=hf it (by simp);have hg:i=n:=hg;subst hg;have e:(i:Int) - 1 - (i:Int)=-1:=by omega
  have st2:=st.2;rw[e] at st2;exact wpAny_pyNext_rev_end (I.ok.hd hc) st2 λh' eb=>⟨rfl,I.turned (t':=s.toks) (λb o hb e=>eb b o hb e) f0 f1 f3 f4 f5⟩
 self:=λ_ _ _ _ _ st h=>wpAny_pyIter_revIter st.2 h
def iRev (K:PySem.W.Frag) (ta:TA):TI:=λσ H R=>ta σ H λvs H1=>∃a xs,vs=[.ref a]∧SqL K H1 a xs∧R (Itv K a xs.length) H1
theorem wx:bootBuiltins "reversed"=some (.type "reversed"):=by decide+kernel
section
variable {X:Cx} {tg:Expr}
theorem pi_rev {a:Expr} {ta:TA} {p pos:Pos} (hg:Gl X "reversed") (hm:X.mg "reversed"=none) (ha:PA X [a] ta) (hs:starEach [a] X.env=[(false,eval a X.env)]:=by rfl):PI X tg (.Call (.Name "reversed" p) [a] [] pos) (iRev X.K ta):=by
 intro pins s σ H R I h;refine Call_ (g9 I hg hm wx (PyProof.Rows.callWith_type1 (thn (ha pos pins s σ H _ I h) λus s1 ⟨vs,H1,I1,r1,q1⟩=>?_) hs rfl));obtain ⟨l,xs,e,hq,q⟩:=q1;subst e;cases r1 with
 | cons r rr=>
  cases rr
  cases (show _=Value.ref l from r)
  obtain ⟨its,rv,pl,hz⟩:=I1.list hq;refine call_reversed_list pl.isList ?_;have hlen:((its.toArray.size:Nat):Int) - 1=(xs.length:Int) - 1 - ((0:Nat):Int):=by
   rw[aa5,←rv.length];omega
  have st:Heap.IsRevIter (s1.heap.push (revObj l ((its.toArray.size:Int) - 1))) s1.heap.objs.size l ((xs.length:Int) - 1 - ((0:Nat):Int)):=by
   rw[←hlen];exact ⟨_,Heap.get?_push_size _ rfl,rfl,rfl⟩
  refine wpAny_pyIter_revIter st ?_;refine ⟨s1.heap.objs.size,[s1.heap.objs.size],_,_,H1,rfl,I1.kept (t':=s1.toks) λb o e=>Heap.get?_push_of_some _ e,Jc l _ xs.length,⟨aa6 _,st⟩,λb hb=>?_,q⟩;have e:b=s1.heap.objs.size:=by simpa using hb
  subst e;exact I1.xv (aa3 _) (I1.hok.fresh (aa3 _))
end
theorem Mg {K:PySem.W.Frag} {a:Addr} {xs:List V} {g:TG} {tb:TS} {D:Ends} {σ:St} {H:Hp} (Pv:Nat→St→Hp→Prop) (h0:Pv 0 σ H) (hl:∀i σ H,i≤xs.length→Pv i σ H→SqL K H a xs)
  (hs:∀i x σ H,i < xs.length→xs[xs.length - 1 - i]?=some x→Pv i σ H→g x σ H λσ2 H2=>tb { D with nx:=Pv (i+1),ct:=Pv (i+1),bk:=D.nx } σ2 H2) (hd:∀σ H,Pv xs.length σ H→D.nx σ H):Eh g tb D (Itv K a xs.length) σ H:=by
 refine ⟨λi m σ H=>m=xs.length - i∧i≤xs.length∧Pv i σ H,⟨xs.length,by simp,aa6 _,h0⟩,?_⟩;rintro i m σ H ⟨rfl,hi,p⟩;have q:=hl i σ H hi p;by_cases hlt:i < xs.length
 ·refine .inr ⟨⟨hlt,xs,q,rfl⟩,Pv (i+1),λσ' H' p'=>⟨xs.length - (i+1),by omega,rfl,hlt,p'⟩,λx H' y=>?_⟩;obtain ⟨e,y⟩:=y;subst e;exact hs i x σ _ hlt (y xs q) p
 ·have e:i=xs.length:=by omega
  subst e;exact .inl ⟨rfl,hd σ H p⟩
section
variable {CX:CXT} {P:Program} {w:World} {K:PySem.W.Frag} {mg:Str→Option Value} {base:Heap} {N:List Str} {qual:Str} {scope:Scope} {f:Addr} {cd:Value} {A:Around} {outer:List Env} {s:Shared} {H:Hp} {E:XK}
theorem cxOf_P:(nc CX P w K mg base N qual scope f cd A outer s H E).prog=P:=rfl
theorem cxOf_w:(nc CX P w K mg base N qual scope f cd A outer s H E).w=w:=rfl
theorem M9:(nc CX P w K mg base N qual scope f cd A outer s H E).mg=mg:=rfl
theorem cxOf_b:(nc CX P w K mg base N qual scope f cd A outer s H E).base=base:=rfl
end
theorem n6 {K:PySem.W.Frag} {H:Hp} {l:Addr} {xs:List V} {y:V} {Q:VK} (h:H l=some (.lst (xs++[y]))) (q:Q y (upd H l (.lst xs))):tyV K "list" (.ref l) H∧rPop (.ref l) [] H Q:=
 ⟨aw h,l,xs++[y],y,rfl,rfl,h,by rw[aa2,aaa,acw,aad (aa3 _),acx];rfl,by rw[ae8];exact q⟩
end L2
namespace L2.Srt
open PySem PySem.W PyProof.Rows
section
variable {cmp:Nat→Nat→(Bool→Shared→Prop)→Shared→Prop} {N:Nat} {r:Nat→Int} {s:Shared}
def Cmp (cmp:Nat→Nat→(Bool→Shared→Prop)→Shared→Prop) (N:Nat) (r:Nat→Int) (s:Shared):Prop:=∀i j C,i < N→j < N→C (decide (r i < r j)) s→cmp i j C s
def cj (N:Nat) (p:Array Nat):Prop:=p.toList.Perm (aax N)
theorem cj.size {p:Array Nat} (h:cj N p):p.size=N:=by
 have:=h.length_eq;rw[abx,ac6] at this;exact this
theorem cj.lt {p:Array Nat} (h:cj N p) {k:Nat} (hk:k < N):p.getD k 0 < N:=by
 have hs:=h.size;have e:p.getD k 0=p[k]'(by omega):=by simp[Array.getD,hs,hk]
 rw[e];have:p[k]'(by omega)∈p.toList:=by simp
 exact List.mem_range.mp (h.mem_iff.mp this)
theorem cj.of {p q:Array Nat} (h:cj N p) (e:q.Perm p):cj N q:=(Array.perm_iff_toList_perm.mp e).trans h
noncomputable def R (r:Nat→Int) (p:Array Nat) (i:Nat):Int:=r (p.getD i 0)
theorem pq {p q:Array Nat} {i j:Nat} (h:p[i]?=q[j]?):R r p i=R r q j:=by
 unfold R;rw[acn,acn,h]
def Inc (r:Nat→Int) (p:Array Nat) (k:Nat):Prop:=∀i j,i≤j→j < k→R r p i≤R r p j
def Dec (r:Nat→Int) (p:Array Nat) (k:Nat):Prop:=∀i j,i≤j→j < k→R r p j≤R r p i
theorem we {p:Array Nat} {i j:Nat} (hj:j≤p.size) (k:Nat):R r (kas_rev p i j) k=if i≤k∧k < j then R r p (i+j - 1 - k) else R r p k:=by
 have e:=getElem?_mirror_all (i:=i) hj k;by_cases h1:i≤k∧k < j
 ·rw[if_pos h1] at e ⊢;exact pq e
 ·rw[if_neg h1] at e ⊢;exact pq e
theorem ia {p:Array Nat} {i j:Nat} (hj:j≤p.size) (heq:∀k,i≤k→k < j→R r p k=R r p (j - 1)) (k:Nat):R r (kas_rev p i j) k=R r p k:=by
 rw[we hj];split
 ·rename_i h
  rw[heq _ (by omega) (by omega),heq k h.1 h.2]
 ·rfl
theorem la {p:Array Nat} {i j:Nat} (h:cj N p):cj N (kas_rev p i j):=h.of (mirror_perm _ _ _ _)
theorem Bf {p:Array Nat} {src d:Nat} (hs:src < p.size) (hd:d≤src) (k:Nat):
  R r (bubble p src d) k=if k=src - d then R r p src else if src - d < k∧k≤src then R r p (k - 1) else R r p k:=by
 have e:=getElem?_bubble hs d hd k;by_cases h1:k=src - d
 ·rw[if_pos h1] at e ⊢;exact pq e
 ·rw[if_neg h1] at e ⊢;by_cases h2:src - d < k∧k≤src
  ·rw[if_pos h2] at e ⊢;exact pq e
  ·rw[if_neg h2] at e ⊢;exact pq e
theorem Inc.more {p:Array Nat} {k:Nat} (h:Inc r p k) (hk:1≤k) (e:R r p (k - 1)≤R r p k):Inc r p (k+1):=by
 intro i j hij hj;by_cases h1:j < k
 ·exact h i j hij h1
 ·have:j=k:=by omega
  subst this;by_cases h2:i=j
  ·subst h2;exact abg _
  ·have:=h i (j - 1) (by omega) (by omega);omega
theorem Dec.more {p:Array Nat} {k:Nat} (h:Dec r p k) (hk:1≤k) (e:R r p k≤R r p (k - 1)):Dec r p (k+1):=by
 intro i j hij hj;by_cases h1:j < k
 ·exact h i j hij h1
 ·have:j=k:=by omega
  subst this;by_cases h2:i=j
  ·subst h2;exact abg _
  ·have:=h i (j - 1) (by omega) (by omega);omega
theorem Du (hc:Cmp cmp N r s) {p:Array Nat} (hp:cj N p) {Q:Nat→Shared→Prop}:∀(f n:Nat),1≤n→n+f≤N→Inc r p n→(∀m,n≤m→m≤n+f→Inc r p m→(m=n+f∨R r p m < R r p (m - 1))→Q m s)→(kas_asc p f n).kasWp cmp Q s
 | 0,n,_,_,hi,q=>q n (aa3 _) (aa3 _) hi (.inl rfl)
 | f+1,n,h1,hn,hi,q=>by
  show cmp _ _ _ s
  refine hc _ _ _ (hp.lt (by omega)) (hp.lt (by omega)) ?_;by_cases c:r (p.getD n 0) < r (p.getD (n - 1) 0)
  ·rw[decide_eq_true c];show KasT.kasWp cmp (if true=true then _ else _) Q s
   rw[if_pos rfl];exact q n (aa3 _) (by omega) hi (.inr c)
  ·rw[decide_eq_false c];show KasT.kasWp cmp (if false=true then _ else _) Q s
   rw[if_neg (by decide)];exact Du hc hp f (n+1) (by omega) (by omega) (hi.more h1 (by have:R r p n=r (p.getD n 0):=rfl;have:R r p (n - 1)=r (p.getD (n - 1) 0):=rfl;omega)) λm a b c d=>q m (by omega) (by omega) c (d.elim (λd=>.inl (by omega)) .inr)
theorem uh (hc:Cmp cmp N r s) {Q:Array Nat×Nat×Nat→Shared→Prop}:∀(f:Nat) (p:Array Nat) (n k:Nat),cj N p→1≤n→n+f≤N→Dec r p n→k+1≤n→(∀i,n - (k+1)≤i→i < n→R r p i=R r p (n - 1))→
  (∀p' n' k',cj N p'→n≤n'→n'≤N→Dec r p' n'→k'+1≤n'→(∀i,n' - (k'+1)≤i→i < n'→R r p' i=R r p' (n' - 1))→Q (p',n',k') s)→(kas_desc f p n k).kasWp cmp Q s
 | 0,p,n,k,hp,_,hn,hd,hk,he,q=>q p n k hp (aa3 _) (by omega) hd hk he
 | f+1,p,n,k,hp,h1,hn,hd,hk,he,q=>by
  show cmp _ _ _ s
  refine hc _ _ _ (hp.lt (by omega)) (hp.lt (by omega)) ?_;have hsz:=hp.size;have e1:R r p n=r (p.getD n 0):=rfl;have e2:R r p (n - 1)=r (p.getD (n - 1) 0):=rfl;by_cases c:r (p.getD n 0) < r (p.getD (n - 1) 0)
  ·rw[decide_eq_true c];show KasT.kasWp cmp (if true=true then _ else _) Q s
   rw[if_pos rfl];by_cases hk0:k > 0
   ·rw[if_pos hk0];have eq:=ia (r:=r) (p:=p) (i:=n - (k+1)) (j:=n) (by omega) he;refine uh hc f _ (n+1) 0 (la hp) (by omega) (by omega) ?_ (by omega) (λi a b=>by rw[show i=n+1 - 1 by omega]) λp' n' k' a b c d e g=>q p' n' k' a (by omega) c d e g;intro i j hij hj;rw[eq,eq];exact (hd.more h1 (by omega)) i j hij hj
   ·rw[if_neg hk0];exact uh hc f p (n+1) 0 hp (by omega) (by omega) (hd.more h1 (by omega)) (by omega) (λi a b=>by rw[show i=n+1 - 1 by omega]) λp' n' k' a b c d e g=>q p' n' k' a (by omega) c d e g
  ·rw[decide_eq_false c];show KasT.kasWp cmp (if false=true then _ else _) Q s
   rw[if_neg (by decide)];show cmp _ _ _ s
   refine hc _ _ _ (hp.lt (by omega)) (hp.lt (by omega)) ?_;by_cases c2:r (p.getD (n - 1) 0) < r (p.getD n 0)
   ·rw[decide_eq_true c2];show KasT.kasWp cmp (if true=true then _ else _) Q s
    rw[if_pos rfl];exact q p n k hp (aa3 _) (by omega) hd hk he
   ·rw[decide_eq_false c2];show KasT.kasWp cmp (if false=true then _ else _) Q s
    rw[if_neg (by decide)];refine uh hc f p (n+1) (k+1) hp (by omega) (by omega) (hd.more h1 (by omega)) (by omega) (λi a b=>?_) λp' n' k' a b c d e g=>q p' n' k' a (by omega) c d e g;by_cases hi:i < n
    ·rw[he i (by omega) hi,show n+1 - 1=n by omega];omega
    ·rw[show i=n+1 - 1 by omega]
theorem Be (hc:Cmp cmp N r s) {p:Array Nat} (hp:cj N p) {n:Nat} (h1:1≤n) (hn:n≤N) (hd:Dec r p n) {Q:Nat×Array Nat→Shared→Prop} (q:∀m p',cj N p'→1≤m→m≤N→Inc r p' m→Q (m,p') s):(kas_tail3 n N p).kasWp cmp Q s:=by
 unfold kas_tail3;rw[KasT.kasWp_bind];have hsz:=hp.size;refine Du hc (la hp) (N - n) n h1 (by omega) (λi j hij hj=>?_) λm a b c d=>q m _ (la hp) (by omega) (by omega) c;rw[we (by omega),we (by omega),if_pos ⟨aa6 _,by omega⟩,if_pos ⟨aa6 _,hj⟩];exact hd _ _ (by omega) (by omega)
theorem su (hc:Cmp cmp N r s) {p:Array Nat} (hp:cj N p) {n:Nat} (h1:1≤n) (hn:n+1≤N) (hd:Dec r p (n+1)) {Q:Nat×Array Nat→Shared→Prop} (q:∀m p',cj N p'→1≤m→m≤N→Inc r p' m→Q (m,p') s):(kas_descPart n N p).kasWp cmp Q s:=by
 unfold kas_descPart;rw[KasT.kasWp_bind];refine uh hc (N - (n+1)) p (n+1) 0 hp (by omega) (by omega) hd (by omega) (λi a b=>by rw[show i=n+1 - 1 by omega]) λp' n' k' hp' a b hd' hk he=>?_;have hsz:=hp'.size;by_cases hk0:k' > 0
 ·show KasT.kasWp cmp (if k' > 0 then _ else _) Q s
  rw[if_pos hk0];refine Be hc (la hp') (by omega) b (λi j hij hj=>?_) q;have eq:=ia (r:=r) (p:=p') (i:=n' - (k'+1)) (j:=n') (by omega) he;rw[eq,eq];exact hd' i j hij hj
 ·show KasT.kasWp cmp (if k' > 0 then _ else _) Q s
  rw[if_neg hk0];exact Be hc hp' (by omega) b hd' q
theorem Mq (hc:Cmp cmp N r s) {p:Array Nat} (hp:cj N p) (h2:2≤N) {Q:Nat×Array Nat→Shared→Prop} (q:∀m p',cj N p'→1≤m→m≤N→Inc r p' m→Q (m,p') s):(kas_count N p).kasWp cmp Q s:=by
 unfold kas_count;rw[KasT.kasWp_bind];have hsz:=hp.size;refine Du hc hp (N - 1) 1 (aa3 _) (by omega) (λi j a b=>by rw[show i=j by omega];exact abg _) λm a b hi hm=>?_;show KasT.kasWp cmp (if (m==N)=true then _ else _) Q s
 by_cases e:m=N
 ·rw[if_pos (by simp[e])];exact q m p hp a (by omega) hi
 ·rw[if_neg (by simp[e])];have lt:R r p m < R r p (m - 1):=hm.resolve_left (by omega);by_cases h1:m > 1
  ·rw[if_pos h1];show cmp _ _ _ s
   refine hc _ _ _ (hp.lt (by omega)) (hp.lt (by omega)) ?_;by_cases c:r (p.getD 0 0) < r (p.getD (m - 1) 0)
   ·rw[decide_eq_true c];show KasT.kasWp cmp (if true=true then _ else _) Q s
    rw[if_pos rfl];exact q m p hp a (by omega) hi
   ·rw[decide_eq_false c];show KasT.kasWp cmp (if false=true then _ else _) Q s
    rw[if_neg (by decide)];have e0:R r p 0=r (p.getD 0 0):=rfl;have e1:R r p (m - 1)=r (p.getD (m - 1) 0):=rfl;have all:∀k,0≤k→k < m→R r p k=R r p (m - 1):=λk _ hk=>by
     have a1:=hi 0 k (aa6 _) hk;have a2:=hi k (m - 1) (by omega) (by omega);omega
    have eq:=ia (r:=r) (p:=p) (i:=0) (j:=m) (by omega) all;refine su hc (la hp) a (by omega) (λi j hij hj=>?_) q;rw[eq,eq];by_cases hjm:j=m
    ·subst hjm;by_cases him:i=j
     ·subst him;exact abg _
     ·rw[all i (aa6 _) (by omega)];omega
    ·rw[all i (aa6 _) (by omega),all j (aa6 _) (by omega)];exact abg _
  ·rw[if_neg h1];have m1:m=1:=by omega
   subst m1;refine su hc hp (aa3 _) (by omega) (λi j hij hj=>?_) q;by_cases hij':i=j
   ·subst hij';exact abg _
   ·rw[show i=1 - 1 by omega,show j=1 by omega];omega
theorem xm (hc:Cmp cmp N r s) {p:Array Nat} (hp:cj N p) {k:Nat} (hk:k < N) (hi:Inc r p k) {Q:Nat→Shared→Prop}:∀(f l u:Nat),l≤u→u≤k→u - l≤f→(∀i,i < l→R r p i≤R r p k)→(∀i,u≤i→i < k→R r p k < R r p i)→
  (∀m,m≤k→(∀i,i < m→R r p i≤R r p k)→(∀i,m≤i→i < k→R r p k < R r p i)→Q m s)→(kas_place p k f l u).kasWp cmp Q s
 | 0,l,u,hlu,huk,hf,a,b,q=>q l (by omega) a λi h1 h2=>b i (by omega) h2
 | f+1,l,u,hlu,huk,hf,a,b,q=>by
  show KasT.kasWp cmp (if l≥u then _ else _) Q s
  by_cases c:l≥u
  ·rw[if_pos c];exact q l (by omega) a λi h1 h2=>b i (by omega) h2
  ·rw[if_neg c];show cmp _ _ _ s
   refine hc _ _ _ (hp.lt hk) (hp.lt (by omega)) ?_;have e0:R r p k=r (p.getD k 0):=rfl;have e1:R r p ((l+u) / 2)=r (p.getD ((l+u) / 2) 0):=rfl;by_cases d:r (p.getD k 0) < r (p.getD ((l+u) / 2) 0)
   ·rw[decide_eq_true d];show KasT.kasWp cmp (if true=true then _ else _) Q s
    rw[if_pos rfl];refine xm hc hp hk hi f l ((l+u) / 2) (by omega) (by omega) (by omega) a (λi h1 h2=>?_) q;have:=hi ((l+u) / 2) i h1 h2;omega
   ·rw[decide_eq_false d];show KasT.kasWp cmp (if false=true then _ else _) Q s
    rw[if_neg (by decide)];refine xm hc hp hk hi f ((l+u) / 2+1) u (by omega) huk (by omega) (λi h1=>?_) b q;have:=hi i ((l+u) / 2) (by omega) (by omega);omega
theorem Jq (hc:Cmp cmp N r s) {Q:Array Nat→Shared→Prop}:∀(f:Nat) (p:Array Nat) (k:Nat),cj N p→Inc r p k→k+f=N→(∀p',cj N p'→Inc r p' N→Q p' s)→(kas_bin f p k).kasWp cmp Q s
 | 0,p,k,hp,hi,hk,q=>q p hp (by rw[←hk];exact hi)
 | f+1,p,k,hp,hi,hk,q=>by
  unfold kas_bin;rw[KasT.kasWp_bind];refine xm hc hp (by omega) hi k 0 k (aa6 _) (aa3 _) (by omega) (λi h=>absurd h (by omega)) (λi h1 h2=>absurd h2 (by omega)) λm hm a b=>?_;have hsz:=hp.size;refine Jq hc f _ (k+1) (hp.of (bubble_perm _ _ _)) (λi j hij hj=>?_) (by omega) q;rw[Bf (by omega) (by omega),Bf (by omega) (by omega),show k - (k - m)=m by omega];by_cases hi1:i=m
  ·rw[if_pos hi1];by_cases hj1:j=m
   ·rw[if_pos hj1];exact abg _
   ·rw[if_neg hj1,if_pos (by omega)];have:=b (j - 1) (by omega) (by omega);omega
  ·rw[if_neg hi1];by_cases hi2:m < i∧i≤k
   ·rw[if_pos hi2,if_neg (by omega),if_pos (by omega)];exact hi _ _ (by omega) (by omega)
   ·rw[if_neg hi2];have him:i < m:=by omega
    by_cases hj1:j=m
    ·rw[if_pos hj1];exact a i him
    ·rw[if_neg hj1];by_cases hj2:m < j∧j≤k
     ·rw[if_pos hj2];exact hi _ _ (by omega) (by omega)
     ·rw[if_neg hj2];exact hi _ _ hij (by omega)
theorem Pa (hc:Cmp cmp N r s) (h2:2≤N) {Q:Array Nat→Shared→Prop} (q:∀p,cj N p→Inc r p N→Q p s):(kas_sort N).kasWp cmp Q s:=by
 unfold kas_sort;rw[KasT.kasWp_bind];refine Mq hc (by unfold cj;exact acz _) h2 λm p hp h1 hm hi=>?_;show KasT.kasWp cmp (if m < N then _ else _) Q s
 by_cases c:m < N
 ·rw[if_pos c,show max m 1=m by omega];exact Jq hc (N - m) p m hp hi (by omega) q
 ·rw[if_neg c];exact q p hp (by rw[show N=m by omega];exact hi)
end
noncomputable def dh (h:Heap) (a:Addr) (vs:List Value):Heap:=((h.update a (Obj.mapSeq λ_=>#[])).push (seqObj "tuple" vs.toArray 0)).push (seqObj "list" #[] 0)
section
variable {prog:Program} {w:World} {A:Around} {E:Value→Shared→Prop} {s:Shared} {r:Nat→Int}
theorem Dl {a:Addr} {vs:List Value} {n:Nat} {P:PySem.Fin→Shared→Prop} (ho:s.heap.get? a=some (seqObj "list" vs.toArray n)) (h64:vs.length < 64)
  (ask:2≤vs.length→wpAny (model prog w) A (keyKind' vs.toArray) (λκ s'=>s'={ s with heap:=dh s.heap a vs }∧Cmp (kas_ask prog w A κ vs) vs.length r { s with heap:=dh s.heap a vs }) (λ_ _=>False) { s with heap:=dh s.heap a vs })
  (h:∀p,cj vs.length p→Inc r p vs.length→P (.done (.ret .none)) { s with heap:=sortedHeap s.heap a vs (ad9 (p.toList.map λi=>vs.getD i Value.none)) }):
  wpAny (model prog w) A (Builtin.«list.sort» ⟨[.ref a],[]⟩) P E s:=by
 rw[list_sort_plain];have ha:a < s.heap.objs.size:=Heap.lt_size ho;refine wpAny_bind (listItems_at ho rfl ?_);refine wpAny_bind (listUpdate_at ho rfl ?_ (by rw[aa5,sizeLine_eq];omega) (aa6 _));obtain ⟨e1,ho1⟩:∃e1,(s.heap.update a (Obj.mapSeq λ_=>#[])).get? a=some (seqObj "list" #[] e1):=⟨_,get?_update_seq ho (λ_=>#[])⟩;refine wpAny_bind (seqEpoch_at ho1 rfl ?_);refine wpAny_bind (wpAny_newTuple ?_ (by show vs.length≤_;rw[sizeLine_eq];omega));refine wpAny_bind (wpAny_newList ?_ (aa6 _));refine wpAny_holding ?_;have ho6:(dh s.heap a vs).get? a=some (seqObj "list" #[] e1):=by
  unfold dh;rw[Heap.get?_push_ne _ _ _ (by rw[size_push',Heap.size_update];exact aao (aci ha)),Heap.get?_push_ne _ _ _ (by rw[Heap.size_update];exact aao ha)];exact ho1
 show wpAny (model prog w) A _ P E { s with heap:=dh s.heap a vs }
 dsimp only;have hsz:vs.toArray.size=vs.length:=by simp
 have fin:∀(p:Array Nat) (st':SortSt),arrOf st'=p.map (kas_item (vs.toArray.zip vs.toArray))→cj vs.length p→Inc r p vs.length→P (.done (.ret .none)) { s with heap:=sortedHeap s.heap a vs ((arrOf st').map (·.2)) }:=λp st' e hp hi=>by
  rw[kat_snds rfl e];exact h p hp hi
 have big:∀(p:Array Nat) (st':SortSt),arrOf st'=p.map (kas_item (vs.toArray.zip vs.toArray))→cj vs.length p→((arrOf st').map (·.2)).size≤sizeLine:=λp st' e hp=>by
  rw[Array.size_map,e,Array.size_map,hp.size,sizeLine_eq];omega
 by_cases h2:vs.toArray.size < 2
 ·rw[if_pos h2,if_pos h2];refine wpAny_bind (wpAny_pure ?_);rw[StateT.run_pure];refine wpAny_bind (wpAny_pure ?_);dsimp only;have e0:arrOf (SortSt.mk' general' (vs.toArray.zip vs.toArray) #[] 7 none)=(ad9 (aax vs.length)).map (kas_item (vs.toArray.zip vs.toArray)):=by
   have e:=kas_range (vs.toArray.zip vs.toArray);rw[show (vs.toArray.zip vs.toArray).size=vs.length by simp] at e;exact e.symm
  have pr:cj vs.length (ad9 (aax vs.length)):=acz _;refine wpAny_bind (seqEpoch_at ho6 rfl ?_);refine wpAny_bind (listUpdate_at ho6 rfl ?_ (aa6 _) (aau (big _ _ e0 pr) (by omega)));simp only[bne_self_eq_false,abb,if_false];refine wpAny_pure (fin _ _ e0 pr λi j hij hj=>?_);have:i=j:=by omega
  subst this;exact abg _
 ·rw[if_neg h2,if_neg h2];refine wpAny_bind (wpAny_mono (ask (by omega)) (λκ s0 hk=>?_) λ_ _ x=>x.elim);obtain ⟨rfl,hc⟩:=hk;refine wpAny_bind (wpAny_mono (kat_run (Q:=λst' s'=>s'={ s with heap:=dh s.heap a vs }∧∃p:Array Nat,cj vs.length p∧Inc r p vs.length∧arrOf st'=p.map (kas_item (vs.toArray.zip vs.toArray))∧failedOf st'=none)
   (G:=λp s'=>s'={ s with heap:=dh s.heap a vs }∧cj vs.length p∧Inc r p vs.length) rfl (by omega) h64 (λp st' s' a1 a2 a3 a4=>⟨a4.1,p,a4.2.1,a4.2.2,a2,a3⟩) (Pa hc (by omega) λp hp hi=>⟨rfl,hp,hi⟩)) ?_ λ_ _ e=>e)
  rintro ⟨⟨⟩,st'⟩ s' ⟨rfl,p,hp,hi,har,hf⟩;dsimp only;refine wpAny_bind (seqEpoch_at ho6 rfl ?_);refine wpAny_bind (listUpdate_at ho6 rfl ?_ (aa6 _) (aau (big _ _ har hp) (by omega)));rw[hf];simp only[bne_self_eq_false,abb,if_false];exact wpAny_pure (fin p st' har hp hi)
theorem Bt {l:Addr} {vs:List Value} {Q:List Value→Shared→Prop} (hl:s.heap.IsTuple l vs.toArray)
  (h:Q vs { s with heap:=(s.heap.push (seqObj "list" #[] 0)).update s.heap.objs.size (Obj.mapSeq (·++vs.toArray)) }) (hsz:vs.length≤sizeLine):
  wpAny (model prog w) A (collect (.ref l)) Q E s:=by
 obtain ⟨o,ho,hc,n,hd⟩:=id hl;unfold collect;refine wpAny_bind (wpAny_runValue (codeAny_builtin entry_proto_collect' ?_));show wpAny _ _ (do again (.builtin "list.__iadd__" ⟨[←newList [],.ref l],[]⟩)) _ _ s
 refine wpAny_bind (wpAny_newList (wpAny_pure ⟨Code.quiet_builtin _ (by decide+kernel),codeAny_builtin entry_list_iadd' ?_⟩));show wpAny _ _ (Builtin.List.listExtendWith (.ref s.heap.objs.size) (.ref l) (.ref s.heap.objs.size)) _ _ { s with heap:=s.heap.push (seqObj "list" #[] 0) }
 unfold Builtin.List.listExtendWith;have ho':(s.heap.push (seqObj "list" #[] 0)).get? l=some o:=Heap.get?_push_of_some _ ho;refine wpAny_bind (wpAny_typeOf (T:="tuple") ⟨o,ho',hc⟩ ?_);have ht:(Value.type "tuple"==Value.type "tuple")=true:=by rfl
 rw[if_pos (by rw[ht];simp)];refine wpAny_bind (listItems_at ho' hd ?_);refine wpAny_bind (listItems_at (xs:=#[]) (n:=0) (Heap.get?_push_size _ rfl) rfl ?_);rw[if_neg (by simp)];refine wpAny_bind (listUpdate_at (xs:=#[]) (n:=0) (Heap.get?_push_size _ rfl) rfl ?_ (aa6 _) (by show (#[]++vs.toArray).size≤sizeLine+1;simp only[Array.size_append,aa5,acd];omega));refine wpAny_pure ?_;show wpAny (model prog w) A (do
   let o ←load s.heap.objs.size
   match o.data with
   | .seq xs _=>pure xs.toList
   | _=>unsupported "internal:collect") Q E { s with heap:=(s.heap.push (seqObj "list" #[] 0)).update s.heap.objs.size (Obj.mapSeq (·++vs.toArray)) }
 refine wpAny_bind (wpAny_load (get?_update_seq (Heap.get?_push_size _ rfl) _) ?_);show wpAny _ _ (pure ((#[]:Array Value)++vs.toArray).toList) Q E _
 rw[show ((#[]:Array Value)++vs.toArray).toList=vs by simp];exact wpAny_pure h
noncomputable def eo (h:Heap) (vs:List Value):Heap:=((h.push (seqObj "list" #[] 0)).update h.objs.size (Obj.mapSeq (·++vs.toArray))).push (seqObj "list" vs.toArray 0)
theorem Pe {l:Addr} {vs:List Value} {Q:Value→Shared→Prop} (hl:s.heap.IsList l vs.toArray∨s.heap.IsTuple l vs.toArray) (h64:vs.length < 64)
  (ask:2≤vs.length→wpAny (model prog w) A.in1.in1 (keyKind' vs.toArray) (λκ s'=>s'={ s with heap:=dh (eo s.heap vs) (s.heap.objs.size+1) vs }∧Cmp (kas_ask prog w A.in1.in1 κ vs) vs.length r { s with heap:=dh (eo s.heap vs) (s.heap.objs.size+1) vs }) (λ_ _=>False) { s with heap:=dh (eo s.heap vs) (s.heap.objs.size+1) vs })
  (h:∀p,cj vs.length p→Inc r p vs.length→Q (.ref (s.heap.objs.size+1)) { s with heap:=sortedAll s.heap vs (ad9 (p.toList.map λi=>vs.getD i Value.none)) }):
  wpAny (model prog w) A (call (.builtin "sorted") [.ref l]) Q E s:=by
 have sz:vs.length≤sizeLine:=by rw[sizeLine_eq];omega
 refine Calls.call_function_entry kind_sorted plain_sorted entry_sorted (args_sorted1 _) ?_;unfold Builtin.«sorted»;refine wpAny_bind (m:=checkCount "sorted" 1 1 _) (wpAny_pure ?_);have go:∀{Q':List Value→Shared→Prop},Q' vs { s with heap:=(s.heap.push (seqObj "list" #[] 0)).update s.heap.objs.size (Obj.mapSeq (·++vs.toArray)) }→wpAny (model prog w) A.in1 (collect (.ref l)) Q' E s:=λ{Q'} q=>by
  rcases hl with hl | hl
  ·exact collect_list hl q sz
  ·exact Bt hl q sz
 refine wpAny_bind (go ?_);refine wpAny_bind (wpAny_newList ?_ sz);have hsz:((s.heap.push (seqObj "list" #[] 0)).update s.heap.objs.size (Obj.mapSeq (·++vs.toArray))).objs.size=s.heap.objs.size+1:=by
  rw[Heap.size_update,size_push']
 have hoL:(eo s.heap vs).get? (s.heap.objs.size+1)=some (seqObj "list" vs.toArray 0):=by
  unfold eo;rw[←hsz];exact Heap.get?_push_size _ rfl
 show wpAny _ _ _ _ _ { s with heap:=eo s.heap vs }
 rw[hsz];refine wpAny_bind (wpAny_holding (wpAny_call_entry slot_list_sort ⟨_,hoL,rfl⟩ entry_list_sort (Dl (s:={ s with heap:=eo s.heap vs }) hoL h64 ask λp hp hi=>⟨_,rfl,?_⟩) (args_list_sort _)));exact wpAny_pure ⟨_,rfl,h p hp hi⟩
end
end L2.Srt
namespace L2
open PySem PySem.Spec PyProof.Rows Srt
def Ords (P:Program) (w:World) (A:Around) (H:Hp) (ys:List V) (rk:Nat→Int):Prop:=
 ∀(s:Shared) (vs:List Value),HOk P w H s.heap→Vals ys vs→2≤vs.length→wpAny (model P w) A (keyKind' vs.toArray) (λκ s'=>s'=s∧Cmp (PySem.W.kas_ask P w A κ vs) vs.length rk s) (λ_ _=>False) s
theorem Ol {h:Heap} {vs:List Value} {b:Addr} {o:Obj} (hb:h.get? b=some o):(dh (eo h vs) (h.objs.size+1) vs).get? b=some o:=by
 have hlt:b < h.objs.size:=Heap.lt_size hb;have hsz:(eo h vs).objs.size=h.objs.size+2:=by unfold eo;rw[size_push',Heap.size_update,size_push']
 unfold dh;rw[Heap.get?_push_ne _ _ _ (by rw[size_push',Heap.size_update,hsz];exact aao (aam hlt (by omega))),Heap.get?_push_ne _ _ _ (by rw[Heap.size_update,hsz];exact aao (aam hlt (by omega))),Heap.get?_update_ne _ _ _ _ (aao (aam hlt (by omega)))];unfold eo;rw[Heap.get?_push_ne _ _ _ (by rw[Heap.size_update,size_push'];exact aao (aam hlt (by omega))),Heap.get?_update_ne _ _ _ _ (aao hlt),Heap.get?_push_ne _ _ _ (aao hlt)];exact hb
theorem yf {ys:List V} {vs:List Value} (r:Vals ys vs):∀(is:List Nat),(∀i∈is,i < ys.length)→Vals (is.map λi=>ys.getD i .non) (is.map λi=>vs.getD i Value.none)
 | [],_=>.nil
 | i::is,h=>by
  have hi:=h i aa7;obtain ⟨u,hu,ru⟩:=r.get (aa1 hi);refine .cons ?_ (yf r is λj hj=>h j (aab _ hj));have e1:ys.getD i .non=ys[i]:=by rw[aae,aa1 hi];rfl
  have e2:vs.getD i Value.none=u:=by rw[aae,hu];rfl
  show RelV (ys.getD i .non) (vs.getD i Value.none)
  rw[e1,e2];exact ru
section
variable {X:Cx}
theorem zm:jf X (.builtin "sorted") (λxs H Q=>∃p ys rk,xs=[.ref p]∧(SqL X.K H p ys∨SqT X.K H p ys)∧ys.length < 64∧Ords X.prog X.w X.A.in1.in1 H ys rk∧
  ∀(l:Addr) (is:List Nat),is.Perm (aax ys.length)→(∀i j,i≤j→j < ys.length→rk (is.getD i 0)≤rk (is.getD j 0))→H l=none→Q (.ref l) (upd H l (.lst (is.map λi=>ys.getD i .non)))):=by
 intro pins s σ H xs us Q I r h;obtain ⟨p,ys,rk,rfl,hq,h64,ho,q⟩:=h;obtain ⟨u,rfl,rx⟩:=vals1 r;cases rx
 obtain ⟨its,r',hl⟩:∃its,Vals ys its∧(s.heap.IsList p its.toArray∨s.heap.IsTuple p its.toArray):=by
  rcases hq with hq | hq
  ·obtain ⟨its,r',pl,_⟩:=I.list hq;exact ⟨its,r',.inl pl.isList⟩
  ·obtain ⟨its,r',pl,_⟩:=I.tuple hq;exact ⟨its,r',.inr pl⟩
 have hlen:=r'.length;refine Pe (r:=rk) hl (by omega) (λh2=>?_) λpm hp hi=>?_
 ·exact ho { s with heap:=dh (eo s.heap its) (s.heap.objs.size+1) its } its (I.hok.kept λb o e=>Ol e) r' h2
 ·obtain ⟨e,he⟩:=sortedAll_at s.heap its (ad9 (pm.toList.map λi=>its.getD i Value.none));have hp':pm.toList.Perm (aax ys.length):=by rw[hlen];exact hp
  have hin:∀i∈pm.toList,i < ys.length:=λi hi=>List.mem_range.mp (hp'.mem_iff.mp hi);have hz:(pm.toList.map λi=>ys.getD i V.non).length≤sizeLine:=by
   have sz:=sizeLine_eq;rw[aa0,hp'.length_eq,ac6];omega
  refine ⟨.ref (s.heap.objs.size+1),_,I.laid (t':=s.toks) (λb o e=>sortedAll_old e) (ad1 _) (show cf X.prog X.w _ _ _ (.lst (pm.toList.map λi=>ys.getD i V.non)) from ⟨hz,_,e,yf r' _ hin,he⟩),rfl,q _ _ hp' (λi j hij hj=>?_) (I.hok.fresh (ad1 _))⟩;have:=hi i j hij (by omega);have g:∀k,pm.toList.getD k 0=pm.getD k 0:=λk=>by
   rw[acn,aae,ad3]
  rw[g,g];exact this
end
theorem y6 {α:Type} {p q:α→Bool}:∀{l:List α},(∀x∈l,p x=true→q x=true)→(∃x∈l,q x=true∧p x=false)→l.countP p < l.countP q
 | [],_,h=>by obtain ⟨x,hx,_⟩:=h;cases hx
 | a::t,hm,h=>by
  rw[aeo,aeo];have mono:=ae4 (l:=t) (λx hx=>hm x (aab _ hx));have ha:=hm a aa7;by_cases hw:q a=true∧p a=false
  ·rw[hw.1,hw.2];simp;omega
  ·have:∃x∈t,q x=true∧p x=false:=by
    obtain ⟨x,hx,hq⟩:=h;rcases List.mem_cons.mp hx with rfl | hx
    ·exact absurd hq hw
    ·exact ⟨x,hx,hq⟩
   have ih:=y6 (λx hx=>hm x (aab _ hx)) this;cases hp:p a with
   | true=>rw[ha hp];simp;omega
   | false=>cases q a <;> simp <;> omega
noncomputable def rank (n:Nat) (lt:Nat→Nat→Bool) (i:Nat):Int:=(((aax n).countP λk=>lt k i:Nat):Int)
structure Ord (n:Nat) (lt:Nat→Nat→Bool):Prop where
 irr:∀i,i < n→lt i i=false
 tr:∀i j k,i < n→j < n→k < n→lt i j=true→lt j k=true→lt i k=true
 neg:∀i j k,i < n→j < n→k < n→lt i k=true→lt i j=true∨lt j k=true
theorem Ord.rank {n:Nat} {lt:Nat→Nat→Bool} (o:Ord n lt) {i j:Nat} (hi:i < n) (hj:j < n):decide (rank n lt i < rank n lt j)=lt i j:=by
 cases h:lt i j with
 | true=>
  apply decide_eq_true
  have:(aax n).countP (λk=>lt k i) < (aax n).countP λk=>lt k j:=y6 (λk hk e=>o.tr k i j (List.mem_range.mp hk) hi hj e h) ⟨i,List.mem_range.mpr hi,h,o.irr i hi⟩;unfold L2.rank;omega
 | false=>
  apply decide_eq_false
  have:(aax n).countP (λk=>lt k j)≤(aax n).countP λk=>lt k i:=ae4 λk hk e=>by
   rcases o.neg k i j (List.mem_range.mp hk) hi hj e with e | e
   ·exact e
   ·rw[h] at e;cases e
  unfold L2.rank;omega
noncomputable def ltS (x y:Str):Bool:=decide (x.cps.toList < y.cps.toList)
theorem Ay (x:Str):ltS x x=false:=decide_eq_false (List.lt_irrefl _)
theorem Ad {x y z:Str} (h1:ltS x y=true) (h2:ltS y z=true):ltS x z=true:=decide_eq_true (List.lt_trans (of_decide_eq_true h1) (of_decide_eq_true h2))
theorem Fi (x y:Str):ltS x y=true∨x=y∨ltS y x=true:=by
 by_cases h1:x.cps.toList < y.cps.toList
 ·exact .inl (decide_eq_true h1)
 by_cases h2:y.cps.toList < x.cps.toList
 ·exact .inr (.inr (decide_eq_true h2))
 exact .inr (.inl (str_eq.mpr (List.le_antisymm (List.not_lt.mp h2) (List.not_lt.mp h1))))
theorem Gd {x z:Str} (y:Str) (h:ltS x z=true):ltS x y=true∨ltS y z=true:=by
 rcases Fi x y with e | e | e
 ·exact .inl e
 ·subst e;exact .inr h
 ·exact .inr (Ad e h)
section
variable {P:Program} {w:World} {A:Around} {H:Hp}
theorem Lj {zs:List Str}:Ords P w A H (zs.map V.str) (rank zs.length λi j=>ltS (zs.getD i "") (zs.getD j "")):=by
 intro s vs hok r h2;have hlen:=r.length;rw[aa0] at hlen;have at':∀i,i < zs.length→∃t,vs.getD i Value.none=.str (zs.getD i "") t:=λi hi=>by
  obtain ⟨u,hu,t,rfl⟩:=r.get (i:=i) (x:=.str (zs.getD i "")) (by rw[aac,aa1 hi,aae,aa1 hi];rfl);exact ⟨t,by rw[aae,hu];rfl⟩
 have o:Ord zs.length λi j=>ltS (zs.getD i "") (zs.getD j ""):=⟨λ_ _=>Ay _,λ_ _ _ _ _ _ a b=>Ad a b,λ_ j _ _ _ _ a=>Gd _ a⟩;have sa:StrsAre vs (vs.map strOf):=strsAre_map vs λv hv=>by
  obtain ⟨i,hi,e⟩:=List.mem_iff_getElem.mp hv;obtain ⟨t,et⟩:=at' i (by omega);rw[aae,aa1 hi] at et;exact ⟨_,t,by rw[←e];exact et⟩
 obtain ⟨v₁,v₂,rest,rfl⟩:∃v₁ v₂ rest,vs=v₁::v₂::rest:=by
  match vs,h2 with
  | v₁::v₂::rest,_=>exact ⟨v₁,v₂,rest,rfl⟩
 rw[keyKind_strs sa];refine wpAny_pure ⟨rfl,λi j C hi hj hC=>?_⟩;obtain ⟨t,e1⟩:=at' i (by omega);obtain ⟨u,e2⟩:=at' j (by omega);show wpAny (model P w) A (keyLt' oneType' _ _) C _ s
 rw[e1,e2];refine PySem.W.kas_lt_str ?_;rw[o.rank (by omega) (by omega)] at hC;exact hC
end
end L2
namespace L2
open PySem PySem.Spec PyProof.Rows
def rDGet2:V→List V→Hp→VK→Prop:=λx xs H Q=>∃a y z o,x=.ref a∧xs=[y,z]∧kb H a y o∧Q (o.getD z) H
section
variable {X:Cx}
theorem K7 (hu:X.A.units+1 < cLine):MtR X "dict.get" rDGet2:=by
 intro pins s σ H x xs v us Q I rx r h;obtain ⟨a,y,z,o,rfl,rfl,g,q⟩:=h;cases (show v=Value.ref a from rx)
 cases r with
 | cons ry rr=>
  cases rr with
  | cons rz rr=>
   cases rr
   rename_i u1 u2
   rcases g with ⟨kvs,k,e,ey,l⟩ | ⟨kvs,k,b,e,ey,eb,l⟩
   ·subst ey;obtain ⟨_,hd,vs,rel,dd⟩:=zc I.hok e;refine call_meetsIn PySem.F.slot_dict_get dd.typeIs PySem.F.entry_dict_get (PySem.F.args_dict_get_3 _ _ _) (meets_dict_get_default (bg X.prog X.w) a (tf ry) hd u2) ⟨_,dd.mapOf,⟨_,H,I.tok _,?_,q⟩⟩;rw[l];exact nu.getD (rel.val k) rz
   ·subst ey;cases (show u1=Value.ref b from ry)
    obtain ⟨_,hd,xs,rel,dd⟩:=yl I.hok e;have rv:=rel.val k;rw[←l] at rv;refine wpAny_call_entry PySem.F.slot_dict_get dd.typeIs PySem.F.entry_dict_get ?_ (PySem.F.args_dict_get_3 _ _ _);show wpAny _ _ (dictGet a (.ref b) >>=_) _ _ s
    refine wpAny_bind (wpAny_dictGet_heap (tupleKind_room_in1 hu) (ng I.hok eb) dd ?_);have g:=nu.getD rv rz;cases hf:atKey xs k with
    | some p=>
     rw[hf] at g;exact wpAny_pure ⟨p.2,rfl,⟨_,H,I.tok _,g,q⟩⟩
    | none=>
     rw[hf] at g;show wpAny _ _ (Builtin.Dict.missed a (.ref b) >>=_) _ _ _
     exact wpAny_bind (wpAny_missed_other hd (wpAny_pure ⟨u2,rfl,⟨_,H,I.tok _,g,q⟩⟩))
theorem Iv {K:PySem.W.Frag} {a:Addr} {kvs:List (List Key×V)} {H:Hp} (h:H a=some (.dT kvs)):tyV K "dict" (.ref a) H:=.inr (.inr (.inl ⟨rfl,.inr ⟨kvs,h⟩⟩))
end
theorem Inv.Fo {X:Cx} {pins:List (Addr×Obj)} {σ:St} {H:Hp} {s:Shared} {h':Heap} {t':Nat} {fp:List Addr} (I:Inv X pins σ H s) (k:∀b o,b∉fp→s.heap.get? b=some o→h'.get? b=some o) (hf:∀b∈fp,qw X pins H b):Inv X pins σ H { s with heap:=h',toks:=t' }:=by
 have nfp:∀b u,H b=some u→b∉fp:=λb u e z=>by rw[(hf b z).1] at e;cases e
 refine I.step (g':=s.gens) (d':=s.drawn) (ch:=fp) (λb hb=>?_) (λb o _ _ hc e _=>k b o hc e) (λb o _ _ hc e _=>⟨o.slots,k b o hc e⟩) (λ_ _ _ _ n=>n)
  (λb o hc e=>⟨o,k b o hc e⟩) (λ_ _ e=>e) (λ_ _ _ e=>e) (λb ps e=>⟨#[],by rw[e];simp⟩) (λm hm=>?_) (λb u e=>?_) I.bare
 ·obtain ⟨f0,f1,f2,f3,f4,f5⟩:=hf b hb;exact ⟨f3,f1,f4,f5⟩
 ·exact hm.at λo e=>k _ o (λz=>(hf _ z).2.1 rfl) e
 ·exact (I.hok b u e).Cy (λc v hc q=>k c v (by
   rcases hc with rfl | hc
   ·exact nfp _ u e
   ·exact nfp _ _ hc) q) (λ_ q=>q) λ_ _ q=>q
end L2
namespace Pc
open PySem PySem.Spec L2 PyProof.Rows
theorem dg {α:Type} (l:List α) (k:Int) (h0:0≤k) (h1:k < (l.length:Int)):∃c,atI l k=some c∧c∈l:=by
 have hk:k.toNat < l.length:=by omega
 have e:k=((k.toNat:Nat):Int):=by omega
 have q:atI l ((k.toNat:Nat):Int)=some l[k.toNat]:=bb (aa1 hk);rw[←e] at q;exact ⟨_,q,ab5 hk⟩
end Pc
namespace Pc
noncomputable def eat:Nat→List Nat→Option Nat
 | 0,_=>some 0
 | _+1,[]=>none
 | l+1,a::r=>(eat (l+a) r).map (·+1)
noncomputable def pend:Nat→List Nat→Option Nat
 | l,[]=>some l
 | 0,_::_=>none
 | l+1,a::r=>pend (l+a) r
noncomputable def starts:Nat→List Nat→List Nat
 | _,[]=>[]
 | p,a::r=>p::(starts (p+1) r).drop a
theorem kj (r:List Nat):eat 0 r=some 0:=by cases r <;> rfl
theorem dz (l a:Nat) (r:List Nat):eat (l+1) (a::r)=(eat (l+a) r).map (·+1):=rfl
theorem qk:∀(xs ys:List Nat) (l:Nat),pend l (xs++ys)=(pend l xs).bind λm=>pend m ys
 | [],ys,l=>by cases l <;> rfl
 | a::r,ys,0=>rfl
 | a::r,ys,l+1=>by
  show pend (l+a) (r++ys)=(pend (l+a) r).bind _
  exact qk r ys (l+a)
theorem Cz (l a:Nat) (h:0 < l):pend l [a]=some (l - 1+a):=by
 cases l with
 | zero=>omega
 | succ l=>show some (l+a)=some (l+1 - 1+a);rw[acw]
theorem yb (xs:List Nat) (a l d:Nat) (h:pend l xs=some d) (hd:0 < d):pend l (xs++[a])=some (d - 1+a):=by
 rw[qk,h];exact Cz d a hd
theorem qo:∀(r:List Nat) (l n:Nat),eat l r=some n→n≤r.length
 | r,0,n,h=>by rw[kj] at h;cases h;exact aa6 _
 | [],l+1,n,h=>by cases h
 | a::r,l+1,n,h=>by
  rw[dz] at h;obtain ⟨m,hm,rfl⟩:=Option.map_eq_some_iff.mp h;have:=qo r (l+a) m hm;rw[aai];omega
theorem sq:∀(r:List Nat) (l:Nat),pend l r=some 0→eat l r=some r.length
 | [],l,h=>by
  cases h
  rfl
 | a::r,0,h=>by cases h
 | a::r,l+1,h=>by
  rw[dz,sq r (l+a) h];rfl
theorem yy (r:List Nat) (l:Nat) (h:pend l r=some 0) (p:Nat):∃m,pend m (r.drop p)=some 0:=by
 have e:r=r.take p++r.drop p:=(ac3 p r).symm;rw[e,qk] at h;cases q:pend l (r.take p) with
 | none=>rw[q] at h;cases h
 | some m=>rw[q] at h;exact ⟨m,h⟩
theorem Lf {m:Nat} {r:List Nat} (h:pend m r=some 0) (hr:r≠[]):0 < m:=by
 cases r with
 | nil=>exact absurd rfl hr
 | cons a r=>
  cases m with
  | zero=>cases h
  | succ m=>omega
theorem xk:∀(r:List Nat) (l m:Nat),pend (l+m) r=some 0→∃n,eat l r=some n∧pend m (r.drop n)=some 0
 | r,0,m,h=>⟨0,kj r,by rw[acm] at h;exact h⟩
 | [],l+1,m,h=>by
  have:l+1+m=0:=aa4 h;omega
 | a::r,l+1,m,h=>by
  have e:l+1+m=(l+m)+1:=by omega
  rw[e] at h;have h':pend (l+a+m) r=some 0:=by
   have e2:l+a+m=l+m+a:=by omega
   rw[e2];exact h
  obtain ⟨n,h1,h2⟩:=xk r (l+a) m h';exact ⟨n+1,by rw[dz,h1];rfl,h2⟩
theorem sj:∀(r:List Nat) (l n p:Nat),eat l r=some n→(starts p r).drop l=starts (p+n) (r.drop n)
 | r,0,n,p,h=>by rw[kj] at h;cases h;rfl
 | [],l+1,n,p,h=>by cases h
 | a::r,l+1,n,p,h=>by
  rw[dz] at h;obtain ⟨m,hm,rfl⟩:=Option.map_eq_some_iff.mp h;show ((starts (p+1) r).drop a).drop l=starts (p+(m+1)) (r.drop m)
  rw[adg,adt a l,sj r (l+a) m (p+1) hm];congr 1
  omega
theorem vq:∀(r:List Nat) (l p:Nat),pend l r=some 0→(starts p r).length=l
 | [],l,p,h=>by
  have:l=0:=aa4 h;rw[this];rfl
 | a::r,0,p,h=>by cases h
 | a::r,l+1,p,h=>by
  have ih:=vq r (l+a) (p+1) h;show ((starts (p+1) r).drop a).length+1=l+1
  rw[aap,ih];omega
theorem se (r:List Nat) (p:Nat) (h:r≠[]):∃t,starts p r=p::t:=by
 cases r with
 | nil=>exact absurd rfl h
 | cons a r=>exact ⟨_,rfl⟩
theorem Hs (ar:List Nat) (p:Nat) (h:p < ar.length):starts p (ar.drop p)=p::(starts (p+1) (ar.drop (p+1))).drop (ar.getD p 0):=by
 rw[aat h];have e:ar.getD p 0=ar[p]:=by rw[aae,aa1 h];rfl
 rw[e];rfl
end Pc
namespace Pc
open PySem PySem.Spec L2 PyProof.Rows
noncomputable abbrev parts:List (Key×V):=[(Sum.inr "add",.int 2),(Sum.inr "sub",.int 2),(Sum.inr "mul",.int 2),(Sum.inr "neg",.int 1)]
noncomputable def arS (z:Str):Nat:=if z="add" then 2 else if z="sub" then 2 else if z="mul" then 2 else if z="neg" then 1 else 0
noncomputable def arV:V→Nat
 | .str z=>arS z
 | _=>0
def isW (v:V):Prop:=∃k:Key,v=kV k
theorem Hz (k:Key):(cy parts k).getD (.int 0)=.int (arV (kV k)):=by
 cases k with
 | inl i=>rfl
 | inr z=>
  show (cy parts (Sum.inr z)).getD (.int 0)=.int (arS z)
  unfold arS;by_cases h1:z="add"
  ·subst h1;rw[b9 rfl,if_pos rfl];rfl
  rw[b8 (λe=>h1 (Sum.inr.inj e).symm),if_neg h1];by_cases h2:z="sub"
  ·subst h2;rw[b9 rfl,if_pos rfl];rfl
  rw[b8 (λe=>h2 (Sum.inr.inj e).symm),if_neg h2];by_cases h3:z="mul"
  ·subst h3;rw[b9 rfl,if_pos rfl];rfl
  rw[b8 (λe=>h3 (Sum.inr.inj e).symm),if_neg h3];by_cases h4:z="neg"
  ·subst h4;rw[b9 rfl,if_pos rfl];rfl
  rw[b8 (λe=>h4 (Sum.inr.inj e).symm),if_neg h4];rfl
theorem arS_le (z:Str):arS z≤2:=by
 unfold arS;repeat' split
 all_goals decide
theorem xf (v:V):arV v≤2:=by cases v <;> first | exact arS_le _ | exact aa6 _
theorem qt {z:Str} (h:0 < arS z):z="add"∨z="sub"∨z="mul"∨z="neg":=by
 unfold arS at h;by_cases h1:z="add"
 ·exact .inl h1
 by_cases h2:z="sub"
 ·exact .inr (.inl h2)
 by_cases h3:z="mul"
 ·exact .inr (.inr (.inl h3))
 by_cases h4:z="neg"
 ·exact .inr (.inr (.inr h4))
 rw[if_neg h1,if_neg h2,if_neg h3,if_neg h4] at h;exact absurd h (by decide)
def isTerm (ws:List V):Prop:=pend 1 (ws.map arV)=some 0
theorem isTerm.ne {ws:List V} (h:isTerm ws):ws≠[]:=by
 intro e;rw[e] at h;cases h
def vt:Sp:=λvs H Q _=>∃v,vs=[v]∧isW v∧Q (.int (arV v)) H
def dq (H:Hp) (d b:Addr) (ns:List Int) (n:Nat):Prop:=H d=some (.lst [.ref b,.int (n:Int)])∧H b=some (.lst (ae7 V.int ns))
def ao (d:Addr) (H H':Hp):Prop:=∀b o,b≠d→H b=some o→H' b=some o
theorem ao.refl (d:Addr) (H:Hp):ao d H H:=λ_ _ _ h=>h
theorem ao.trans {d:Addr} {H H1 H2:Hp} (a:ao d H H1) (b:ao d H1 H2):ao d H H2:=λc o n h=>b c o n (a c o n h)
theorem ao.of {d:Addr} {H H':Hp} (a:ak H H'):ao d H H':=λb o _ h=>a b o h
theorem ao.upd {d p:Addr} {H H':Hp} (a:ao d H H') (hp:H p=none) (o:HO):ao d H (L2.upd H' p o):=λb u n h=>by rw[ah (af h hp)];exact a b u n h
theorem dq.ne {H:Hp} {d b:Addr} {ns:List Int} {n:Nat} (h:dq H d b ns n):b≠d:=gq h.2 h.1 (by intro e;cases ns <;> simp at e)
theorem dq.next {H H':Hp} {d b:Addr} {ns:List Int} {n k:Nat} (h:dq H d b ns n) (s:ao d H H') (e:H' d=some (.lst [.ref b,.int (k:Int)])):dq H' d b ns k:=⟨e,s b _ h.ne h.2⟩
theorem dq.same {H H':Hp} {d b:Addr} {ns:List Int} {n:Nat} (h:dq H d b ns n) (s:ak H H'):dq H' d b ns n:=⟨s _ _ h.1,s _ _ h.2⟩
noncomputable def ml (H:Hp) (p:Addr):Nat:=match H p with | some (.lst ws)=>ws.length | _=>0
theorem gg {H:Hp} {p:Addr} {ws:List V} (h:H p=some (.lst ws)):ml H p=ws.length:=by unfold ml;rw[h]
def iw:Sp:=λvs H Q _=>∃(d b:Addr) (ns:List Int) (n:Nat),vs=[.ref d]∧dq H d b ns n∧n≤100000∧∀(c:Int) (H':Hp),ao d H H'→H' d=some (.lst [.ref b,.int ((n+1:Nat):Int)])→Q (.int c) H'
theorem me {z:Str}:∀{xs:List V},inV (.str z) xs=true→.str z∈xs:=by
 intro xs h;unfold inV at h;obtain ⟨y,hy,e⟩:=List.any_eq_true.mp h;cases y with
 | str x=>
  have e':x=z:=by simpa [eqV] using e
  exact e' ▸ hy
 | _=>simp[eqV] at e
theorem Ep (z:Str) (n:Nat):(mq z n).cps.toList=(aal n z.cps.toList).flatten:=by unfold mq;simp
theorem zx:arS "neg"=1:=by decide+kernel
theorem ao.free {d t:Addr} {H H':Hp} {o:HO} (s:ao d H H') (hd:H' d=some o) (ht:H' t=none):H t=none:=by
 cases e:H t with
 | none=>rfl
 | some u=>
  by_cases h:t=d
  ·subst h;rw[hd] at ht;cases ht
  ·rw[s t u h e] at ht;cases ht
theorem J5 (ns:List Int) (lo hi:Option Int):∃ms:List Int,jh (ns.map V.int) lo hi=ms.map V.int∧ms.length≤ns.length:=by
 refine ⟨_,by unfold jh;rw[←ac5,←aec],?_⟩;rw[ab1,aap];omega
theorem Gv:∀(r:List Nat) (l:Nat),pend l r=some 0→l≤r.length
 | [],l,h=>by
  have:l=0:=aa4 h;omega
 | a::r,0,h=>by cases h
 | a::r,l+1,h=>by
  have:=Gv r (l+a) h;rw[aai];omega
theorem uf:∀(r:List Nat) (j k:Nat),eat (j+k) r=(eat j r).bind λs=>(eat k (r.drop s)).map (s+·)
 | r,0,k=>by
  rw[kj,acm];show eat k r=(eat k r).map (0+·)
  cases eat k r with
  | none=>rfl
  | some n=>show some n=some (0+n);rw[acm]
 | [],j+1,k=>by
  rw[show j+1+k=(j+k)+1 by omega];rfl
 | a::r,j+1,k=>by
  rw[show j+1+k=(j+k)+1 by omega,dz,dz,show j+k+a=j+a+k by omega,uf r (j+a) k];cases eat (j+a) r with
  | none=>rfl
  | some s=>
   show ((eat k (r.drop s)).map (s+·)).map (·+1)=(eat k (r.drop s)).map (s+1+·)
   cases eat k (r.drop s) with
   | none=>rfl
   | some n=>show some (s+n+1)=some (s+1+n);congr 1;omega
theorem Ag:∀(r:List Nat) (k n:Nat),eat (k+1) r=some n→0 < n
 | [],k,n,h=>by cases h
 | a::r,k,n,h=>by
  rw[dz] at h;obtain ⟨m,hm,rfl⟩:=Option.map_eq_some_iff.mp h;omega
theorem pf (ws:List V) (p:Nat) (h:p≤ws.length):jh ws none (some (p:Int))=ws.take p:=by
 unfold jh;rw[HT.Fb,HT.Di,aev h];rfl
theorem Kh (ws:List V) (p n:Nat) (h:p+n≤ws.length):jh ws (some ((p:Int)+(n:Int))) none=ws.drop (p+n):=by
 unfold jh;rw[show (p:Int)+(n:Int)=((p+n:Nat):Int) by omega,HT.Fb,HT.Di,aev h];apply abj
 rw[aap];omega
theorem Dp {ws:List V} (h:isTerm ws) {p:Nat} {x:V} (hx:ws[p]?=some x):∃m,pend (m+arV x) ((ws.drop (p+1)).map arV)=some 0:=by
 have hp:p < ws.length:=(List.getElem?_eq_some_iff.mp hx).1;have hd:ws.drop p=x::ws.drop (p+1):=by
  rw[aat hp];congr 1
  rw[aa1 hp] at hx;exact aa4 hx
 obtain ⟨m,hm⟩:=yy _ 1 h p;rw[←ac5,hd] at hm;cases m with
 | zero=>cases hm
 | succ m'=>exact ⟨m',hm⟩
theorem Cw {x:V} (hx:isW x):(inV x [V.str "add",V.str "sub",V.str "mul"]=true)↔arV x=2:=by
 obtain ⟨k,rfl⟩:=hx;cases k with
 | inl i=>
  constructor
  ·intro h;exact absurd h (by simp[inV,eqV,kV])
  ·intro h;exact absurd h (by show ¬(0=2);decide)
 | inr z=>
  show (inV (.str z) _=true)↔arS z=2
  constructor
  ·intro h;have:=me h;simp only[aan,aa9,or_false,V.str.injEq] at this;rcases this with rfl | rfl | rfl <;> decide+kernel
  ·intro h;rcases qt (z:=z) (by omega) with rfl | rfl | rfl | rfl
   ·decide+kernel
   ·decide+kernel
   ·decide+kernel
   ·rw[zx] at h;exact absurd h (by decide)
noncomputable def intAt (σ:L2.St) (i:Nat):Nat:=match σ[i]? with | some (some (.int x))=>x.toNat | _=>0
def va (K:PySem.W.Frag):Sp:=λvs H Q _=>∃(t:Addr) (ws:List V) (p n:Nat),vs=[.ref t,.int (p:Int)]∧SqT K H t ws∧(∀v∈ws,isW v)∧ws.length≤1000∧eat 1 ((ws.drop p).map arV)=some n∧∀H',ak H H'→Q (.int ((p:Int)+(n:Int))) H'
end Pc
namespace L2.RvR
open PySem PySem.Spec PySem.Calls PyProof.Rows
end L2.RvR
namespace L2
open PySem PySem.Spec PyProof.Rows RvR
noncomputable def Itd (n:Nat):It:=⟨λi _=>i < n,λi H x H'=>H'=H∧x=.int ((n:Int) - 1 - (i:Int)),λi _=>n≤i⟩
theorem He {P:Program} {w:World} {K:PySem.W.Frag} {tg:Expr} (it:Addr) (n:Nat):Turn P w K tg (Itd n) [it] it (λi h=>IsRangeIter h it ((n:Int) - 1+(i:Nat)*(-1)) ((n:Int) - (i:Nat)) (-1)) where
 mem:=by simp
 obj:=λi h st b hb=>by
  have e:b=it:=by simpa using hb
  subst e;exact ⟨_,st,λv z=>nomatch (show Data.fields _=Data.cell v from z)⟩
 keep:=λi h h' st k=>k it (by simp) _ st
 item:=by
  intro X hP hw hK hc i pins s σ H E I hf st hg;subst hP hw hK;obtain ⟨f0,f1,f2,f3,f4,f5⟩:=hf it (by simp);refine (Walks.range (prog:=X.prog) (w:=X.w) (I.ok.hd hc) it ((n:Int) - 1) (-1) n).item i s _ _ hg st λv h' tk hv st' kk=>?_;obtain ⟨t,rfl⟩:=hv;have I1:Inv X pins σ H { s with heap:=h',toks:=tk }:=I.turned (λb o hb e=>kk b o (by simpa using hb) e) f0 f1 f3 f4 f5;refine ⟨_,rfl,Cr (s:={ s with heap:=h',toks:=tk }) (n:="range_iterator") st' rfl rfl (by decide) ⟨.int ((n:Int) - 1 - (i:Int)),H,I1,⟨t,?_⟩,⟨rfl,rfl⟩,st',λb hb=>(hf b hb).1⟩⟩;congr 1
  omega
 done:=by
  intro X hP hw hK hc i pins s σ H E I hf st hg;subst hP hw hK;obtain ⟨f0,f1,f2,f3,f4,f5⟩:=hf it (by simp);have hg:n≤i:=hg;exact wpAny_pyNext_range_end (I.ok.hd hc) st (by omega) λh' eb=>⟨rfl,I.turned (t':=s.toks) (λb o hb e=>eb b o hb e) f0 f1 f3 f4 f5⟩
 self:=λ_ _ _ _ _ st h=>wpAny_pyIter_rangeiter st h
end L2
namespace L2
open PySem PySem.Spec PyProof.Rows
end L2
namespace Pc
open PySem PySem.Spec L2 PyProof.Rows
noncomputable abbrev plV (q:Nat):V:=V.int ((q:Nat):Int)
noncomputable def il:V:=.str (Str.ofString "any")
noncomputable def gu:V:=.str (Str.ofString "var")
noncomputable def lN:Str:=Str.ofString "n"
noncomputable def lV:Str:=Str.ofString "v"
noncomputable def lH:Str:=Str.ofString "h"
noncomputable def lO:Str:=Str.ofString ""
noncomputable def br (kinds:List Str) (v:V):Str:=if v=il then lN else if v=gu then lV else if inV v (kinds.map V.str)=true then lH else lO
noncomputable def isStr:V→Bool
 | .str _=>true
 | _=>false
noncomputable def lies (l:Str) (v x:V):Bool:=if l=lH then true else if l=lN then !isStr x else if l=lV then isStr x&&decide (arV x=0) else decide (v=x)
def jv (K:PySem.W.Frag):Sp:=λvs H Q _=>∃(v:V) (kt:Addr) (kinds:List Str),vs=[v,.ref kt]∧isW v∧SqT K H kt (kinds.map V.str)∧Q (.str (br kinds v)) H
def Ar:Sp:=λvs H Q _=>∃(l:Str) (v x:V),vs=[.str l,v,x]∧isW v∧isW x∧Q (.bl (lies l v x)) H
theorem isW.sc {v:V} (h:isW v) (z:Str):scal v (.str z)=true:=by
 obtain ⟨k,rfl⟩:=h;cases k <;> rfl
theorem isW.sc2 {v x:V} (h:isW v) (g:isW x):scal v x=true:=by
 obtain ⟨k,rfl⟩:=h;obtain ⟨m,rfl⟩:=g;cases k <;> cases m <;> rfl
theorem isW.flat {v:V} (h:isW v):g6 v=true:=by
 obtain ⟨k,rfl⟩:=h;exact Ob k
structure Und where
 hs:List Nat
 ns:List V
 vs:List V
noncomputable def Und.put (u:Und) (l:Str) (p:Nat) (x:V):Und:=if l=lH then ⟨u.hs++[p],u.ns,u.vs⟩ else if l=lN then ⟨u.hs,u.ns++[x],u.vs⟩ else if l=lV then ⟨u.hs,u.ns,u.vs++[x]⟩ else u
noncomputable def endAt (ws:List V) (p:Nat):Nat:=p+(eat 1 ((ws.drop p).map arV)).getD 0
noncomputable def bu (kinds:List Str) (ws:List V):List V→Nat→Und→Option Und
 | [],_,u=>some u
 | v::r,p,u=>if lies (br kinds v) v (ws.getD p .non)=true then bu kinds ws r (if br kinds v=lH then endAt ws p else p+1) (u.put (br kinds v) p (ws.getD p .non)) else none
def vg (H:Hp) (t:Addr) (u:Und):Prop:=∃t1 t2 t3:Addr,H t=some (.tup [.ref t1,.ref t2,.ref t3])∧H t1=some (.tup (u.hs.map plV))∧H t2=some (.tup u.ns)∧H t3=some (.tup u.vs)
structure UndOk (u:Und):Prop where
 n:(∀v∈u.ns,isW v)∧u.ns.length≤1000
 v:(∀v∈u.vs,isW v)∧u.vs.length≤1000
 h:u.hs.length≤1000
theorem vg.same {H H':Hp} {t:Addr} {u:Und} (h:vg H t u) (s:ak H H'):vg H' t u:=by
 obtain ⟨t1,t2,t3,h1,h2,h3,h4⟩:=h;exact ⟨t1,t2,t3,s _ _ h1,s _ _ h2,s _ _ h3,s _ _ h4⟩
def Es (u:Und):Prop:=(∀v∈u.ns,isW v)∧∀v∈u.vs,isW v
theorem Es.put {u:Und} (h:Es u) {x:V} (hx:isW x) (l:Str) (p:Nat):Es (u.put l p x):=by
 unfold Und.put;have ap:∀{L:List V},(∀v∈L,isW v)→∀v∈L++[x],isW v:=λ{L} hL v hv=>by
  rcases List.mem_append.mp hv with g | g
  ·exact hL v g
  ·rw[List.mem_singleton.mp g];exact hx
 by_cases c1:l=lH
 ·rw[if_pos c1];exact h
 rw[if_neg c1];by_cases c2:l=lN
 ·rw[if_pos c2];exact ⟨ap h.1,h.2⟩
 rw[if_neg c2];by_cases c3:l=lV
 ·rw[if_pos c3];exact ⟨h.1,ap h.2⟩
 rw[if_neg c3];exact h
def Kinds (kinds:List Str):Prop:=∀z∈kinds,arS z=0∧V.str z≠il∧V.str z≠gu
def told (r:Option Und) (H':Hp) (Q:VK):Prop:=match r with
 | none=>Q .non H'
 | some u=>∀(t:Addr) (H2:Hp),ak H' H2→vg H2 t u→UndOk u→Q (.ref t) H2
theorem ly {H':Hp} {Q:VK} (h:Q .non H'):told none H' Q:=h
def xh (K:PySem.W.Frag):Sp:=λvs H Q _=>∃(st kt wt:Addr) (sh:List V) (kinds:List Str) (ws:List V) (p n:Nat),vs=[.ref st,.ref kt,.ref wt,.int (p:Int)]∧SqT K H st sh∧SqT K H kt (kinds.map V.str)∧SqT K H wt ws∧Kinds kinds∧(∀v∈sh,isW v)∧(∀v∈ws,isW v)∧isTerm sh∧eat 1 ((ws.drop p).map arV)=some n∧sh.length≤1000∧ws.length≤1000∧∀H',ak H H'→told (bu kinds ws sh p ⟨[],[],[]⟩) H' Q
theorem dw {kinds:List Str} {v:V} (hv:isW v):(v=il∧br kinds v=lN)∨(v=gu∧br kinds v=lV)∨((∃z∈kinds,v=.str z)∧br kinds v=lH)∨(br kinds v=lO∧inV v (kinds.map V.str)=false):=by
 unfold br;by_cases h1:v=il
 ·exact .inl ⟨h1,if_pos h1⟩
 by_cases h2:v=gu
 ·exact .inr (.inl ⟨h2,by rw[if_neg h1,if_pos h2]⟩)
 cases h3:inV v (kinds.map V.str) with
 | true=>
  refine .inr (.inr (.inl ⟨?_,by rw[if_neg h1,if_neg h2,if_pos rfl]⟩));obtain ⟨k,rfl⟩:=hv;cases k with
  | inl i=>
   exfalso
   clear h1 h2;induction kinds with
   | nil=>cases h3
   | cons z r ih=>exact ih h3
  | inr z=>
   obtain ⟨y,hy,e⟩:=List.mem_map.mp (me h3);exact ⟨y,hy,e.symm⟩
 | false=>exact .inr (.inr (.inr ⟨by rw[if_neg h1,if_neg h2,if_neg (by decide)],rfl⟩))
theorem rq:arV il=0:=by decide+kernel
theorem rg:arV gu=0:=by decide+kernel
theorem lets:lN≠lH∧lV≠lH∧lO≠lH∧lV≠lN∧lO≠lN∧lO≠lV:=by decide+kernel
theorem gy {kinds:List Str} {ws r:List V} {v x:V} {q d m:Nat} (hk:Kinds kinds) (hv:isW v) (hx:ws[q]?=some x) (hxw:isW x) (hp:pend (d+1) (arV v::r.map arV)=some 0) (he:eat (d+1) ((ws.drop q).map arV)=some m)
  (hl:lies (br kinds v) v x=true):∃d' m',pend d' (r.map arV)=some 0∧eat d' ((ws.drop (if br kinds v=lH then endAt ws q else q+1)).map arV)=some m':=by
 have hq:q < ws.length:=(List.getElem?_eq_some_iff.mp hx).1;have ed:ws.drop q=x::ws.drop (q+1):=by
  rw[aat hq];congr 1
  rw[aa1 hq] at hx;exact aa4 hx
 obtain ⟨e1,e2,e3,e4,e5,e6⟩:=lets;have hp:pend (d+arV v) (r.map arV)=some 0:=hp;have one:arV v=arV x→br kinds v≠lH→∃d' m',pend d' (r.map arV)=some 0∧eat d' ((ws.drop (if br kinds v=lH then endAt ws q else q+1)).map arV)=some m':=λh n=>by
  rw[if_neg n];rw[ed,aaw,dz] at he;obtain ⟨k,hk',_⟩:=Option.map_eq_some_iff.mp he;exact ⟨d+arV v,k,hp,by rw[h];exact hk'⟩
 unfold lies at hl;rcases dw (kinds:=kinds) hv with ⟨rfl,h⟩ | ⟨rfl,h⟩ | ⟨⟨z,hz,rfl⟩,h⟩ | ⟨h,_⟩
 ·refine one ?_ (by rw[h];exact e1);rw[h,if_neg e1,if_pos rfl] at hl;rw[rq];obtain ⟨k,rfl⟩:=hxw;cases k with
  | inl i=>rfl
  | inr y=>cases hl
 ·refine one ?_ (by rw[h];exact e2);rw[h,if_neg e2,if_neg e4,if_pos rfl,ac8] at hl;rw[rg];exact (of_decide_eq_true hl.2).symm
 ·rw[if_pos h];have a0:arV (.str z)=0:=(hk z hz).1;rw[a0] at hp;rw[show d+1=1+d by omega,uf] at he;cases h1:eat 1 ((ws.drop q).map arV) with
  | none=>rw[h1] at he;cases he
  | some n=>
   rw[h1] at he;obtain ⟨k,hk',_⟩:=Option.map_eq_some_iff.mp (show (eat d (((ws.drop q).map arV).drop n)).map (n+·)=some m from he);refine ⟨d,k,hp,?_⟩;unfold endAt;rw[h1,show (some n).getD 0=n from rfl,←adg];rw[←ac5] at hk';exact hk'
 ·refine one ?_ (by rw[h];exact e3);rw[h,if_neg e3,if_neg e5,if_neg e6] at hl;rw[of_decide_eq_true hl]
theorem gb {kinds:List Str} {ws:List V} {v:V} {r:List V} {p:Nat} {u:Und}:bu kinds ws (v::r) p u=if lies (br kinds v) v (ws.getD p .non)=true then bu kinds ws r (if br kinds v=lH then endAt ws p else p+1) (u.put (br kinds v) p (ws.getD p .non)) else none:=rfl
def UAt (H:Hp) (u0 l1 l2 l3:Addr) (u:Und):Prop:=H u0=some (.dK [(Sum.inr lH,.ref l1),(Sum.inr lN,.ref l2),(Sum.inr lV,.ref l3)])∧H l1=some (.lst (u.hs.map plV))∧H l2=some (.lst u.ns)∧H l3=some (.lst u.vs)
theorem UAt.same {H H':Hp} {u0 l1 l2 l3:Addr} {u:Und} (h:UAt H u0 l1 l2 l3 u) (s:ak H H'):UAt H' u0 l1 l2 l3 u:=⟨s _ _ h.1,s _ _ h.2.1,s _ _ h.2.2.1,s _ _ h.2.2.2⟩
theorem Und.Fp (u:Und) (l:Str) (p:Nat) (x:V) {i:Nat} (h:u.hs.length≤i∧u.ns.length≤i∧u.vs.length≤i):(u.put l p x).hs.length≤i+1∧(u.put l p x).ns.length≤i+1∧(u.put l p x).vs.length≤i+1:=by
 obtain ⟨h1,h2,h3⟩:=h;unfold Und.put;by_cases c1:l=lH
 ·rw[if_pos c1];refine ⟨?_,by show u.ns.length≤_;omega,by show u.vs.length≤_;omega⟩;show (u.hs++[p]).length≤_
  rw[aa2,aaa];omega
 rw[if_neg c1];by_cases c2:l=lN
 ·rw[if_pos c2];refine ⟨by show u.hs.length≤_;omega,?_,by show u.vs.length≤_;omega⟩;show (u.ns++[x]).length≤_
  rw[aa2,aaa];omega
 rw[if_neg c2];by_cases c3:l=lV
 ·rw[if_pos c3];refine ⟨by show u.hs.length≤_;omega,by show u.ns.length≤_;omega,?_⟩;show (u.vs++[x]).length≤_
  rw[aa2,aaa];omega
 rw[if_neg c3];exact ⟨by omega,by omega,by omega⟩
theorem UAt.get1 {H:Hp} {u0 l1 l2 l3:Addr} {u:Und} (h:UAt H u0 l1 l2 l3 u):kb H u0 (.str lH) (some (.ref l1)):=.inl ⟨_,.inr lH,.inl h.1,rfl,rfl⟩
theorem UAt.get2 {H:Hp} {u0 l1 l2 l3:Addr} {u:Und} (h:UAt H u0 l1 l2 l3 u):kb H u0 (.str lN) (some (.ref l2)):=.inl ⟨_,.inr lN,.inl h.1,rfl,rfl⟩
theorem UAt.get3 {H:Hp} {u0 l1 l2 l3:Addr} {u:Und} (h:UAt H u0 l1 l2 l3 u):kb H u0 (.str lV) (some (.ref l3)):=.inl ⟨_,.inr lV,.inl h.1,rfl,rfl⟩
theorem UAt.put1 {H:Hp} {u0 l1 l2 l3:Addr} {u:Und} (h:UAt H u0 l1 l2 l3 u) (n10:l1≠u0) (n21:l2≠l1) (n31:l3≠l1) (p:Nat) (x:V):UAt (upd H l1 (.lst (u.hs.map plV++[plV p]))) u0 l1 l2 l3 (u.put lH p x):=by
 unfold Und.put;rw[if_pos rfl];refine ⟨by rw[ah n10.symm];exact h.1,?_,by rw[ah n21];exact h.2.2.1,by rw[ah n31];exact h.2.2.2⟩;rw[ae,aa8];rfl
theorem UAt.put2 {H:Hp} {u0 l1 l2 l3:Addr} {u:Und} (h:UAt H u0 l1 l2 l3 u) (n20:l2≠u0) (n21:l2≠l1) (n32:l3≠l2) (p:Nat) (x:V):UAt (upd H l2 (.lst (u.ns++[x]))) u0 l1 l2 l3 (u.put lN p x):=by
 unfold Und.put;rw[if_neg lets.1,if_pos rfl];exact ⟨by rw[ah n20.symm];exact h.1,by rw[ah n21.symm];exact h.2.1,ae,by rw[ah n32];exact h.2.2.2⟩
theorem UAt.put3 {H:Hp} {u0 l1 l2 l3:Addr} {u:Und} (h:UAt H u0 l1 l2 l3 u) (n30:l3≠u0) (n31:l3≠l1) (n32:l3≠l2) (p:Nat) (x:V):UAt (upd H l3 (.lst (u.vs++[x]))) u0 l1 l2 l3 (u.put lV p x):=by
 unfold Und.put;rw[if_neg lets.2.1,if_neg lets.2.2.2.1,if_pos rfl];exact ⟨by rw[ah n30.symm];exact h.1,by rw[ah n31.symm];exact h.2.1,by rw[ah n32.symm];exact h.2.2.1,ae⟩
theorem Und.put0 (u:Und) (p:Nat) (x:V):u.put lO p x=u:=by
 unfold Und.put;rw[if_neg lets.2.2.1,if_neg lets.2.2.2.2.1,if_neg lets.2.2.2.2.2]
theorem Fu {r:List Nat} {d m:Nat} (h:eat (d+1) r=some m):∃n,eat 1 r=some n:=by
 rw[show d+1=1+d by omega,uf] at h;cases h1:eat 1 r with
 | none=>rw[h1] at h;cases h
 | some n=>exact ⟨n,rfl⟩
structure Rl where
 name:Str
 kind:Str
 price:Int
 shape:List V
def gm (H:Hp) (a:Addr) (r:Rl):Prop:=∃(sa da:Addr) (ds:List V),H a=some (.tup [.str r.name,.str r.kind,.int r.price,.ref sa,.ref da])∧H sa=some (.tup r.shape)∧H da=some (.tup ds)
theorem gm.same {H H':Hp} {a:Addr} {r:Rl} (h:gm H a r) (s:ak H H'):gm H' a r:=by
 obtain ⟨sa,da,ds,h1,h2,h3⟩:=h;exact ⟨sa,da,ds,s _ _ h1,s _ _ h2,s _ _ h3⟩
def dm (H:Hp) (ra:List Addr) (rs:List Rl):Prop:=ra.length=rs.length∧∀(i:Nat) (r:Rl),rs[i]?=some r→∃a,ra[i]?=some a∧gm H a r
theorem dm.same {H H':Hp} {ra:List Addr} {rs:List Rl} (h:dm H ra rs) (s:ak H H'):dm H' ra rs:=⟨h.1,λi r hr=>by
 obtain ⟨a,h1,h2⟩:=h.2 i r hr;exact ⟨a,h1,h2.same s⟩⟩
def bh (H:Hp) (b:Addr) (kinds:List Str) (rs:List Rl):Prop:=∃(kt rt:Addr) (ra:List Addr),H b=some (.tup [.ref kt,.ref rt])∧H kt=some (.tup (kinds.map V.str))∧H rt=some (.tup (ra.map V.ref))∧dm H ra rs
theorem bh.same {H H':Hp} {b:Addr} {kinds:List Str} {rs:List Rl} (h:bh H b kinds rs) (s:ak H H'):bh H' b kinds rs:=by
 obtain ⟨kt,rt,ra,h1,h2,h3,h4⟩:=h;exact ⟨kt,rt,ra,s _ _ h1,s _ _ h2,s _ _ h3,h4.same s⟩
structure Bk (kinds:List Str) (rs:List Rl):Prop where
 kd:Kinds kinds
 nd:(rs.map (·.name)).Nodup
 sh:∀r∈rs,(∀v∈r.shape,isW v)∧isTerm r.shape∧r.shape.length≤100
 len:rs.length≤100
 kn:kinds.Nodup
 kl:kinds.length≤60
 pr:∀r∈rs,1≤r.price
 rk:∀r∈rs,r.kind∈kinds
structure Tw (ws:List V):Prop where
 w:∀v∈ws,isW v∧v≠il∧v≠gu
 one:isTerm ws
 len:ws.length≤1000
theorem Tw.eat {ws:List V} (h:Tw ws) {p:Nat} (hp:p < ws.length):∃n,eat 1 ((ws.drop p).map arV)=some n:=by
 obtain ⟨m,hm⟩:=yy _ 1 h.one p;rw[←ac5] at hm;have hpos:=Lf hm (by intro e;have:=congrArg ad0 e;rw[aa0,aap] at this;simp at this;omega);obtain ⟨d,rfl⟩:∃d,m=d+1:=⟨m - 1,by omega⟩;exact Fu (sq _ _ hm)
theorem Bk.name {kinds:List Str} {rs:List Rl} (h:Bk kinds rs) {i j:Nat} {r r':Rl} (hi:rs[i]?=some r) (hj:rs[j]?=some r') (e:r'.name=r.name):i=j:=by
 have h1:(rs.map (·.name))[i]?=some r.name:=by rw[aac,hi];rfl
 have h2:(rs.map (·.name))[j]?=some r.name:=by rw[aac,hj,←e];rfl
 obtain ⟨a1,b1⟩:=List.getElem?_eq_some_iff.mp h1;obtain ⟨a2,b2⟩:=List.getElem?_eq_some_iff.mp h2;exact (adq h.nd).mp (b1.trans b2.symm)
def vy (K:PySem.W.Frag):Sp:=λvs H Q _=>∃(t:Addr) (ws:List V),vs=[.ref t]∧SqT K H t ws∧(∀v∈ws,isW v)∧isTerm ws∧ws.length≤1000∧∀(l:Addr) (H':Hp),ak H H'→H l=none→H' l=some (.lst ((aax ws.length).map λq=>plV (endAt ws q)))→Q (.ref l) H'
def qc (K:PySem.W.Frag):Sp:=λvs H Q _=>∃(st kt wt et:Addr) (sh:List V) (kinds:List Str) (ws:List V) (p:Nat),vs=[.ref kt,.ref st,.ref wt,.ref et,.int (p:Int)]∧SqT K H st sh∧SqT K H kt (kinds.map V.str)∧SqT K H wt ws∧H et=some (.lst ((aax ws.length).map λq=>plV (endAt ws q)))∧Kinds kinds∧(∀v∈sh,isW v)∧isTerm sh∧sh.length≤1000∧Tw ws∧p < ws.length∧∀H',ak H H'→told (bu kinds ws sh p ⟨[],[],[]⟩) H' Q
noncomputable def vh (ws:List V) (p:Nat):List Nat:=starts p ((ws.map arV).drop p)++[ws.length]
theorem M3 (ws:List V):vh ws ws.length=[ws.length]:=by
 unfold vh;rw[abz (by rw[aa0];exact aa3 _)];rfl
theorem Pf {ws:List V} (h:isTerm ws) {p:Nat} {x:V} (hx:ws[p]?=some x):vh ws p=p::(vh ws (p+1)).drop (arV x)∧∃t,(vh ws (p+1)).drop (arV x)=endAt ws p::t:=by
 have hp:p < ws.length:=(List.getElem?_eq_some_iff.mp hx).1;obtain ⟨m,hm⟩:=Dp h hx;have Sl:=vq _ _ (p+1) hm;rw[ac5] at Sl hm;have ea:(ws.map arV).getD p 0=arV x:=by rw[aae,aac,hx];rfl
 have hst:=Hs (ws.map arV) p (by rw[aa0];exact hp);rw[ea] at hst;obtain ⟨n,hn,_⟩:=xk _ (arV x) m (by rw[adt];exact hm);have hd:=sj _ _ _ (p+1) hn;have hle:=qo _ _ _ hn;have ed:(ws.drop p).map arV=arV x::(ws.map arV).drop (p+1):=by
  rw[aat hp,aaw,ac5];rw[aa1 hp] at hx;rw[aa4 hx]
 have en:endAt ws p=p+1+n:=by
  unfold endAt;rw[ed,dz,acm,hn];show p+(n+1)=_
  omega
 unfold vh;rw[hst,List.drop_append_of_le_length (by omega),hd];refine ⟨rfl,?_⟩;rw[adg];rw[aap,aa0] at hle;by_cases c:p+1+n < ws.length
 ·obtain ⟨t,ht⟩:=se ((ws.map arV).drop (p+1+n)) (p+1+n) (by intro e;have:=congrArg ad0 e;rw[aap,aa0] at this;simp at this;omega);exact ⟨t++[ws.length],by rw[ht,en];rfl⟩
 ·refine ⟨[],?_⟩;rw[abz (by rw[aa0];omega),en,show p+1+n=ws.length by omega];rfl
theorem Am {x:V} (hx:isW x):(inV x [V.str "add",V.str "sub",V.str "mul",V.str "neg"]=true)↔0 < arV x:=by
 obtain ⟨k,rfl⟩:=hx;cases k with
 | inl i=>
  constructor
  ·intro h;exact absurd h (by simp[inV,eqV,kV])
  ·intro h;exact absurd h (by show ¬(0 < 0);decide)
 | inr z=>
  show (inV (.str z) _=true)↔0 < arS z
  constructor
  ·intro h;have:=me h;simp only[aan,aa9,or_false,V.str.injEq] at this;rcases this with rfl | rfl | rfl | rfl <;> decide+kernel
  ·intro h;rcases qt (z:=z) h with rfl | rfl | rfl | rfl <;> decide+kernel
theorem Hc (ws:List V) {p:Nat} (hp:p≤ws.length):∃t,vh ws p=p::t:=by
 unfold vh;by_cases c:p < ws.length
 ·obtain ⟨t,ht⟩:=se ((ws.map arV).drop p) p (by intro e;have:=congrArg ad0 e;rw[aap,aa0] at this;simp at this;omega);exact ⟨t++[ws.length],by rw[ht];rfl⟩
 ·refine ⟨[],?_⟩;rw[abz (by rw[aa0];omega),show p=ws.length by omega];rfl
theorem Ny {n p:Nat} (h:p < n):ixN n (p:Int)=some p:=by
 unfold ixN;rw[if_pos (by omega),if_pos (by omega),acg]
theorem Mu {p:Nat} {x:V} {L:List V}:(aal (p+1) (V.int 0)++L).set p x=aal p (V.int 0)++x::L:=by
 rw[List.replicate_succ',abn,List.set_append_right _ _ (by rw[abc];exact aa3 _),abc,acx];rfl
theorem yj:∀(r:List Nat) (p:Nat),(starts p r).length≤r.length
 | [],_=>aa3 _
 | a::r,p=>by
  show (p::(starts (p+1) r).drop a).length≤_
  have:=yj r (p+1);rw[aai,aap,aai];omega
theorem Ls (ws:List V) (p:Nat):(vh ws p).length≤ws.length+1:=by
 unfold vh;have:=yj ((ws.map arV).drop p) p;rw[aap,aa0] at this;rw[aa2,aaa];omega
def nr (H:Hp) (u0 l1 l2 l3:Addr) (u:Und):Prop:=H u0=some (.lst [.ref l1,.ref l2,.ref l3])∧H l1=some (.lst (u.hs.map plV))∧H l2=some (.lst u.ns)∧H l3=some (.lst u.vs)
theorem nr.same {H H':Hp} {u0 l1 l2 l3:Addr} {u:Und} (h:nr H u0 l1 l2 l3 u) (s:ak H H'):nr H' u0 l1 l2 l3 u:=⟨s _ _ h.1,s _ _ h.2.1,s _ _ h.2.2.1,s _ _ h.2.2.2⟩
theorem nr.put1 {H:Hp} {u0 l1 l2 l3:Addr} {u:Und} (h:nr H u0 l1 l2 l3 u) (n10:u0≠l1) (n21:l2≠l1) (n31:l3≠l1) (p:Nat) (x:V):nr (upd H l1 (.lst (u.hs.map plV++[plV p]))) u0 l1 l2 l3 (u.put lH p x):=by
 unfold Und.put;rw[if_pos rfl];refine ⟨by rw[ah n10];exact h.1,?_,by rw[ah n21];exact h.2.2.1,by rw[ah n31];exact h.2.2.2⟩;rw[ae,aa8];rfl
theorem nr.put2 {H:Hp} {u0 l1 l2 l3:Addr} {u:Und} (h:nr H u0 l1 l2 l3 u) (n20:u0≠l2) (n21:l2≠l1) (n32:l3≠l2) (p:Nat) (x:V):nr (upd H l2 (.lst (u.ns++[x]))) u0 l1 l2 l3 (u.put lN p x):=by
 unfold Und.put;rw[if_neg lets.1,if_pos rfl];exact ⟨by rw[ah n20];exact h.1,by rw[ah n21.symm];exact h.2.1,ae,by rw[ah n32];exact h.2.2.2⟩
theorem nr.put3 {H:Hp} {u0 l1 l2 l3:Addr} {u:Und} (h:nr H u0 l1 l2 l3 u) (n30:u0≠l3) (n31:l3≠l1) (n32:l3≠l2) (p:Nat) (x:V):nr (upd H l3 (.lst (u.vs++[x]))) u0 l1 l2 l3 (u.put lV p x):=by
 unfold Und.put;rw[if_neg lets.2.1,if_neg lets.2.2.2.1,if_pos rfl];exact ⟨by rw[ah n30];exact h.1,by rw[ah n31.symm];exact h.2.1,by rw[ah n32.symm];exact h.2.2.1,ae⟩
theorem Kinds.out {kinds:List Str} (h:Kinds kinds) {z:Str} (hz:V.str z=il∨V.str z=gu):inV (.str z) (kinds.map V.str)=false:=by
 cases e:inV (.str z) (kinds.map V.str) with
 | false=>rfl
 | true=>
  obtain ⟨y,hy,e2⟩:=List.mem_map.mp (me e);obtain ⟨_,h1,h2⟩:=h y hy;rcases hz with hz | hz
  ·exact absurd (e2.trans hz) h1
  ·exact absurd (e2.trans hz) h2
theorem letH {kinds:List Str} {v:V} (h:br kinds v=lH):inV v (kinds.map V.str)=true:=by
 unfold br at h;obtain ⟨b1,b2,b3,_,_,_⟩:=lets;by_cases h1:v=il
 ·rw[if_pos h1] at h;exact absurd h b1
 by_cases h2:v=gu
 ·rw[if_neg h1,if_pos h2] at h;exact absurd h b2
 rw[if_neg h1,if_neg h2] at h;cases e:inV v (kinds.map V.str) with
 | true=>rfl
 | false=>rw[e,if_neg (by decide)] at h;exact absurd h b3
theorem letO {kinds:List Str} {v:V} (h:br kinds v=lO):v≠il∧v≠gu:=by
 obtain ⟨_,_,_,_,b5,b6⟩:=lets;unfold br at h;refine ⟨λe=>?_,λe=>?_⟩
 ·rw[if_pos e] at h;exact b5 h.symm
 ·subst e;by_cases h1:gu=il
  ·rw[if_pos h1] at h;exact b5 h.symm
  ·rw[if_neg h1,if_pos rfl] at h;exact b6 h.symm
def nmOk (z:Str):Prop:=arS z=0∧V.str z≠il∧V.str z≠gu
def dc (H:Hp) (l:Addr) (zs:List Str):Prop:=H l=some (.lst (zs.map V.str))∧zs.length=60∧zs.Nodup∧∀z∈zs,nmOk z
theorem dc.same {H H':Hp} {l:Addr} {zs:List Str} (h:dc H l zs) (s:ak H H'):dc H' l zs:=⟨s _ _ h.1,h.2⟩
theorem dc.lb {H H':Hp} {d b l:Addr} {ns:List Int} {n:Nat} {zs:List Str} (h:dc H l zs) (hD:dq H d b ns n) (s:ao d H H'):dc H' l zs:=by
 refine ⟨s _ _ (gq h.1 hD.1 ?_) h.1,h.2⟩;intro e;have:=h.2.1;cases zs with
 | nil=>cases this
 | cons z r=>
  have e:HO.lst (V.str z::r.map V.str)=HO.lst _:=e;cases e
def twW (v:V):Prop:=isW v∧v≠il∧v≠gu
theorem twW_int (i:Int):twW (.int i):=⟨⟨Sum.inl i,rfl⟩,(λe=>nomatch e),λe=>nomatch e⟩
theorem twW_name {z:Str} (h:nmOk z):twW (.str z):=⟨⟨Sum.inr z,rfl⟩,h.2⟩
theorem twW_op {z:Str} (h:0 < arS z):twW (.str z):=⟨⟨Sum.inr z,rfl⟩,λe=>by rw[V.str.inj (show V.str z=V.str (Str.ofString "any") from e)] at h;revert h;decide+kernel,λe=>by rw[V.str.inj (show V.str z=V.str (Str.ofString "var") from e)] at h;revert h;decide+kernel⟩
theorem t4 {z:Str} {xs:List V} (h:V.str z∈xs):inV (.str z) xs=true:=List.any_eq_true.mpr ⟨_,h,by simp[eqV]⟩
def uj:Sp:=λvs H Q _=>∃(d nl b:Addr) (ns:List Int) (zs:List Str) (m n:Nat),vs=[.ref d,.ref nl,.int (m:Int)]∧dq H d b ns n∧dc H nl zs∧1≤m∧m≤120∧n≤50000∧∀(t:Addr) (n':Nat) (H':Hp) (ws:List V),ao d H H'→H' d=some (.lst [.ref b,.int (n':Int)])→n'≤n+m→H t=none→H' t=some (.tup ws)→Tw ws→ws.length≤m→Q (.ref t) H'
structure j8 (kinds:List Str) (sh:List V):Prop where
 w:∀v∈sh,isW v
 one:isTerm sh
 len:sh.length≤11
 few:(sh.filter λv=>!inV v (kinds.map V.str)).length≤5
def ud:Sp:=λvs H Q _=>∃(d kt b:Addr) (ns:List Int) (kinds:List Str) (n:Nat),vs=[.ref d,.ref kt]∧dq H d b ns n∧H kt=some (.tup (kinds.map V.str))∧Kinds kinds∧1≤kinds.length∧kinds.length≤20∧n≤50000∧∀(t:Addr) (n':Nat) (H':Hp) (sh:List V),ao d H H'→H' d=some (.lst [.ref b,.int (n':Int)])→n'≤n+12→H t=none→H' t=some (.tup sh)→j8 kinds sh→Q (.ref t) H'
def ub (K:PySem.W.Frag):Sp:=λvs H Q _=>∃(kt st:Addr) (kinds:List Str) (sh:List V),vs=[.ref kt,.ref st]∧H kt=some (.tup (kinds.map V.str))∧H st=some (.tup sh)∧Kinds kinds∧j8 kinds sh∧∀(t:Addr) (ds:List V) (H':Hp),ak H H'→H' t=some (.tup ds)→Q (.ref t) H'
noncomputable def isT (z:Str):Bool:=decide (z.cps.toList.head?=some 116)
noncomputable def tc (zs:List Str):Nat:=(zs.filter isT).length
theorem rf (xs ys:List Str):tc (xs++ys)=tc xs+tc ys:=by
 unfold tc;rw[abf,aa2]
noncomputable def bz (kinds:List Str) (vs:List V):Nat:=(vs.filter λv=>!inV v (kinds.map V.str)).length
theorem ma (kinds:List Str) (xs ys:List V):bz kinds (xs++ys)=bz kinds xs+bz kinds ys:=by
 unfold bz;rw[abf,aa2]
theorem vj {kinds:List Str} (hk:Kinds kinds):∀(xs:List V) (l m:Nat),(∀v∈xs,isW v)→pend l (xs.map arV)=some m→m≤l+bz kinds xs
 | [],l,m,_,h=>by
  have:l=m:=aa4 h;omega
 | v::r,0,m,_,h=>by cases h
 | v::r,l+1,m,hw,h=>by
  have h:pend (l+arV v) (r.map arV)=some m:=h;have ih:=vj hk r _ _ (λx hx=>hw x (aab _ hx)) h;have e:bz kinds (v::r)=bz kinds [v]+bz kinds r:=ma kinds [v] r;have a2:=xf v;rcases abl (arV v) with h0 | h0
  ·omega
  ·have:bz kinds [v]=1:=by
    unfold bz;rcases dw (kinds:=kinds) (hw v aa7) with ⟨rfl,_⟩ | ⟨rfl,_⟩ | ⟨⟨z,hz,rfl⟩,_⟩ | ⟨_,hno⟩
    ·rw[rq] at h0;cases h0
    ·rw[rg] at h0;cases h0
    ·have:=(hk z hz).1;have h0:0 < arS z:=h0;omega
    ·rw[aar,hno];rfl
   omega
theorem Dw {n:Nat} (h:n≤11):(Gu (.int (n:Int))).length≤2∧wordV (.int (n:Int)):=by
 have a:∀n:Fin 12,(Gu (.int ((n.1:Nat):Int))).length≤2:=by decide+kernel
 have b:∀n:Fin 12,(((n.1:Nat):Int)).natAbs.log2 < 1920:=by decide+kernel
 exact ⟨a ⟨n,by omega⟩,b ⟨n,by omega⟩⟩
structure DI (kinds:List Str) (sh:List V) (p:Nat) (zs fs:List Str):Prop where
 pd:pend zs.length ((sh.drop p).map arV)=some 0
 bf:pend 1 ((sh.take p).map arV)=some zs.length
 three:fs.length+tc zs=3
 un:tc zs≤bz kinds (sh.drop p)
 zl:∀z∈zs,1≤z.length∧z.length≤100
 fl:∀z∈fs,isT z=true∧1≤z.length∧z.length≤100
theorem DI.start {kinds:List Str} {sh:List V} (h:j8 kinds sh):DI kinds sh sh.length [] [Str.ofString "t3",Str.ofString "t2",Str.ofString "t1"]:=by
 refine ⟨by rw[aby];rfl,by rw[abp];exact h.one,rfl,aa6 _,(λ_ h=>nomatch h),λz hz=>?_⟩;simp only[aan,aa9,or_false] at hz;rcases hz with rfl | rfl | rfl <;> decide+kernel
theorem DI.less {kinds:List Str} {sh:List V} {p:Nat} {zs fs:List Str} (h:DI kinds sh (p+1) zs fs) {v:V} (hv:sh[p]?=some v):arV v≤zs.length∧pend (zs.length - arV v+1) ((sh.drop p).map arV)=some 0∧pend 1 ((sh.take p).map arV)=some (zs.length - arV v+1)∧sh.drop p=v::sh.drop (p+1):=by
 have hp:p < sh.length:=(List.getElem?_eq_some_iff.mp hv).1;have ed:sh.drop p=v::sh.drop (p+1):=by
  rw[aat hp];congr 1
  rw[aa1 hp] at hv;exact aa4 hv
 have et:sh.take (p+1)=sh.take p++[v]:=by rw[ab6,hv];rfl
 have bf:=h.bf;rw[et,aa8,qk] at bf;cases hq:pend 1 ((sh.take p).map arV) with
 | none=>rw[hq] at bf;cases bf
 | some m=>
  rw[hq] at bf;have bf:pend m [arV v]=some zs.length:=bf;cases m with
  | zero=>cases bf
  | succ m=>
   rw[Cz _ _ (Nat.succ_pos _)] at bf;have e:=aa4 bf;have hm:m+1=zs.length - arV v+1:=by omega
   refine ⟨by omega,?_,by rw[hm],ed⟩;rw[ed,aaw];show pend (zs.length - arV v+arV v) ((sh.drop (p+1)).map arV)=some 0
   rw[show zs.length - arV v+arV v=zs.length by omega];exact h.pd
theorem DI.hole {kinds:List Str} {sh:List V} {p:Nat} {zs fs:List Str} (h:DI kinds sh (p+1) zs fs) {v:V} (hv:sh[p]?=some v) (a0:arV v=0) {z:Str} (hz:isT z=false) (hl:1≤z.length∧z.length≤100):DI kinds sh p (zs++[z]) fs:=by
 obtain ⟨_,h2,h3,ed⟩:=h.less hv;rw[a0,ack] at h2 h3;have tz:tc (zs++[z])=tc zs:=by
  rw[rf];unfold tc;rw[aar,hz];rfl
 refine ⟨by rw[aa2];exact h2,by rw[aa2];exact h3,by rw[tz];exact h.three,?_,λy hy=>?_,h.fl⟩
 ·rw[tz,ed];have:=ma kinds [v] (sh.drop (p+1));have e:bz kinds (v::sh.drop (p+1))=bz kinds [v]+bz kinds (sh.drop (p+1)):=this;have:=h.un;omega
 ·rcases List.mem_append.mp hy with g | g
  ·exact h.zl y g
  ·rw[List.mem_singleton.mp g];exact hl
theorem DI.put {kinds:List Str} {sh:List V} {p:Nat} {zs fs zs0 rd:List Str} (hk:Kinds kinds) (ok:j8 kinds sh) (h:DI kinds sh (p+1) zs fs) {v:V} (hv:sh[p]?=some v) (hn:inV v (kinds.map V.str)=false) (e:zs=zs0++rd) (hr:rd.length=arV v):
  (∀z fs2,fs2.length+1=fs.length+tc rd→isT z=true→1≤z.length→z.length≤100→(∀y∈fs2,isT y=true∧1≤y.length∧y.length≤100)→DI kinds sh p (zs0++[z]) fs2)∧
  (∀z fs2,fs2.length=fs.length+tc rd→isT z=false→1≤z.length→z.length≤100→(∀y∈fs2,isT y=true∧1≤y.length∧y.length≤100)→DI kinds sh p (zs0++[z]) fs2)∧(0 < p→1≤fs.length+tc rd):=by
 obtain ⟨h1,h2,h3,ed⟩:=h.less hv;subst e;rw[aa2,hr,acw] at h2 h3;have th:=h.three;have un:=h.un;rw[rf] at th un;have uv:bz kinds (sh.drop p)=1+bz kinds (sh.drop (p+1)):=by
  rw[ed];have:=ma kinds [v] (sh.drop (p+1));have e1:bz kinds [v]=1:=by
   unfold bz;rw[aar,hn];rfl
  have e:bz kinds (v::sh.drop (p+1))=bz kinds [v]+bz kinds (sh.drop (p+1)):=this;omega
 have zl0:∀y∈zs0,1≤y.length∧y.length≤100:=λy hy=>h.zl y (abr _ hy);refine ⟨λz fs2 hf hz l1 l2 hfl=>⟨by rw[aa2];exact h2,by rw[aa2];exact h3,?_,?_,λy hy=>?_,hfl⟩,λz fs2 hf hz l1 l2 hfl=>⟨by rw[aa2];exact h2,by rw[aa2];exact h3,?_,?_,λy hy=>?_,hfl⟩,λhp=>?_⟩
 ·rw[rf,show tc [z]=1 by unfold tc;rw[aar,hz];rfl];omega
 ·rw[rf,show tc [z]=1 by unfold tc;rw[aar,hz];rfl,uv];omega
 ·rcases List.mem_append.mp hy with g | g
  ·exact zl0 y g
  ·rw[List.mem_singleton.mp g];exact ⟨l1,l2⟩
 ·rw[rf,show tc [z]=0 by unfold tc;rw[aar,hz];rfl];omega
 ·rw[rf,show tc [z]=0 by unfold tc;rw[aar,hz];rfl,uv];omega
 ·rcases List.mem_append.mp hy with g | g
  ·exact zl0 y g
  ·rw[List.mem_singleton.mp g];exact ⟨l1,l2⟩
 ·have u5:=ok.few;have hs:bz kinds sh≤5:=u5;have es:bz kinds sh=bz kinds (sh.take p)+bz kinds (sh.drop p):=by
   rw[←ma,ac3]
  have pu:=vj hk (sh.take p) 1 _ (λx hx=>ok.w x (abt hx)) h3;have tl:tc zs0≤zs0.length:=ab8 _ _;omega
theorem Qc {kinds:List Str} (hk:Kinds kinds) {v:V} (hv:isW v) (h:inV v (kinds.map V.str)=true):arV v=0:=by
 obtain ⟨b1,b2,b3,_,_,_⟩:=lets;rcases dw (kinds:=kinds) hv with ⟨rfl,_⟩ | ⟨rfl,_⟩ | ⟨⟨z,hz,rfl⟩,_⟩ | ⟨_,hno⟩
 ·exact rq
 ·exact rg
 ·exact (hk z hz).1
 ·rw[hno] at h;cases h
theorem gv (a b:Str):(a++b).cps.toList=a.cps.toList++b.cps.toList:=by
 show (a.cps++b.cps).toList=_
 exact Array.toList_append
theorem isT_h (tx:Str):isT (Str.ofString "h"++tx)=false:=by
 unfold isT;rw[gv,show (Str.ofString "h").cps.toList=[104] by decide+kernel];rfl
theorem Oj:isT (Str.ofString "out")=false:=by decide+kernel
theorem Ln {z:Str} (h:1≤z.length):∃c,atI z.cps.toList 0=some c∧((V.str ⟨#[c]⟩=V.str (Str.ofString "t"))↔isT z=true):=by
 have hl:z.cps.toList.length=z.length:=rfl;cases e:z.cps.toList with
 | nil=>rw[e] at hl;simp at hl;omega
 | cons c r=>
  refine ⟨c,bb (j:=0) rfl,?_⟩;unfold isT;rw[e];have et:Str.ofString "t"=⟨#[116]⟩:=by decide+kernel
  rw[et];constructor
  ·intro h;have:(#[c]:Array Nat)=#[116]:=congrArg Str.cps (V.str.inj h);have:c=116:=by simpa using this
   subst this;rfl
  ·intro h;have:c=116:=by simpa using h
   subst this;rfl
theorem Iq {v:V} (hv:isW v):((if inV v [V.str "add",V.str "sub",V.str "mul",V.str "neg"]=true then (1:Int) else 0)+if inV v [V.str "add",V.str "sub",V.str "mul"]=true then 1 else 0)=(arV v:Int):=by
 have three:=Cw hv;have four:=Am hv;have a2:=xf v;by_cases c:0 < arV v
 ·rw[if_pos (four.mpr c)];by_cases c2:arV v=2
  ·rw[if_pos (three.mpr c2)];omega
  ·rw[if_neg λe=>c2 (three.mp e)];omega
 ·rw[if_neg λe=>c (four.mp e),if_neg λe=>by have:=three.mp e;omega];omega
def Ah:Sp:=λvs H Q _=>∃(d nl b:Addr) (ns:List Int) (zs:List Str) (n:Nat),vs=[.ref d,.ref nl]∧dq H d b ns n∧dc H nl zs∧n≤1000∧∀(bt:Addr) (n':Nat) (H':Hp) (kinds:List Str) (rs:List Rl),ao d H H'→H' d=some (.lst [.ref b,.int (n':Int)])→n'≤n+1000→bh H' bt kinds rs→Bk kinds rs→1≤rs.length→(∀r∈rs,r.name∈zs)→(∀z∈kinds,z∈zs)→Q (.ref bt) H'
def fq (H:Hp) (sa:List Addr) (kinds:List Str) (ps:List (Str×List V)):Prop:=sa.length=ps.length∧∀(i:Nat) (k:Str) (sh:List V),ps[i]?=some (k,sh)→(j8 kinds sh∧k∈kinds)∧∃a s:Addr,sa[i]?=some a∧H a=some (.tup [.str k,.ref s])∧H s=some (.tup sh)
theorem fq.nil (H:Hp) (kinds:List Str):fq H [] kinds []:=⟨rfl,λi k sh h=>by simp at h⟩
theorem fq.lb {H H':Hp} {d b:Addr} {ns:List Int} {n:Nat} {sa:List Addr} {kinds:List Str} {ps:List (Str×List V)} (h:fq H sa kinds ps) (hD:dq H d b ns n) (s:ao d H H'):fq H' sa kinds ps:=⟨h.1,λi k sh hi=>by
 obtain ⟨ok,a,t,h1,h2,h3⟩:=h.2 i k sh hi;exact ⟨ok,a,t,h1,s _ _ (gq h2 hD.1 (by intro e;cases e)) h2,s _ _ (gq h3 hD.1 (by intro e;cases e)) h3⟩⟩
theorem fq.same {H H':Hp} {sa:List Addr} {kinds:List Str} {ps:List (Str×List V)} (h:fq H sa kinds ps) (s:ak H H'):fq H' sa kinds ps:=⟨h.1,λi k sh hi=>by
 obtain ⟨ok,a,t,h1,h2,h3⟩:=h.2 i k sh hi;exact ⟨ok,a,t,h1,s _ _ h2,s _ _ h3⟩⟩
theorem fq.snoc {H:Hp} {sa:List Addr} {kinds:List Str} {ps:List (Str×List V)} (h:fq H sa kinds ps) {a s:Addr} {k:Str} {sh:List V} (ok:j8 kinds sh∧k∈kinds) (h1:H a=some (.tup [.str k,.ref s])) (h2:H s=some (.tup sh)):fq H (sa++[a]) kinds (ps++[(k,sh)]):=by
 refine ⟨by rw[aa2,aa2,h.1];rfl,λi k' sh' hi=>?_⟩;by_cases c:i < ps.length
 ·rw[aaf c] at hi;obtain ⟨ok',a',t',g1,g2,g3⟩:=h.2 i k' sh' hi;exact ⟨ok',a',t',by rw[aaf (by rw[h.1];exact c)];exact g1,g2,g3⟩
 ·rw[aad (by omega)] at hi;have hz:i - ps.length=0:=by
   rcases abl (i - ps.length) with g | g
   ·exact g
   ·rw[abd (by rw[aaa];omega)] at hi;cases hi
  rw[hz] at hi;cases hi
  exact ⟨ok,a,s,by rw[aad (by rw[h.1];omega),h.1,hz];rfl,h1,h2⟩
theorem Hm {kinds:List Str} (hk:Kinds kinds) {z:Str} (hz:z∈kinds):j8 kinds [.str z]:=by
 refine ⟨λv hv=>by rw[List.mem_singleton.mp hv];exact ⟨Sum.inr z,rfl⟩,?_,by show (1:Nat)≤11;decide,aau (ab8 _ _) (by show (1:Nat)≤5;decide)⟩;show pend 1 [arS z]=some 0
 rw[(hk z hz).1];rfl
theorem Lb (kinds:List Str):j8 kinds [il]:=⟨λv hv=>by rw[List.mem_singleton.mp hv];exact ⟨Sum.inr _,rfl⟩,by show pend 1 [arV il]=some 0;rw[rq];rfl,by show (1:Nat)≤11;decide,aau (ab8 _ _) (by show (1:Nat)≤5;decide)⟩
theorem M0 (kinds:List Str):j8 kinds [gu]:=⟨λv hv=>by rw[List.mem_singleton.mp hv];exact ⟨Sum.inr _,rfl⟩,by show pend 1 [arV gu]=some 0;rw[rg];rfl,by show (1:Nat)≤11;decide,aau (ab8 _ _) (by show (1:Nat)≤5;decide)⟩
theorem Lh {kinds:List Str} (hk:Kinds kinds) {z:Str} (hz:z∈kinds):j8 kinds [.str (Str.ofString "add"),.str z,.str z]:=by
 refine ⟨λv hv=>?_,?_,by show (3:Nat)≤11;decide,aau (ab8 _ _) (by show (3:Nat)≤5;decide)⟩
 ·simp only[aan,aa9,or_false] at hv;rcases hv with rfl | rfl | rfl <;> exact ⟨Sum.inr _,rfl⟩
 ·show pend 1 [arS (Str.ofString "add"),arS z,arS z]=some 0
  rw[(hk z hz).1,show arS (Str.ofString "add")=2 by decide+kernel];rfl
theorem Jm {kinds:List Str} (hk:Kinds kinds) {z:Str} (hz:z∈kinds):j8 kinds [.str (Str.ofString "neg"),.str z]:=by
 refine ⟨λv hv=>?_,?_,by show (2:Nat)≤11;decide,aau (ab8 _ _) (by show (2:Nat)≤5;decide)⟩
 ·simp only[aan,aa9,or_false] at hv;rcases hv with rfl | rfl <;> exact ⟨Sum.inr _,rfl⟩
 ·show pend 1 [arS (Str.ofString "neg"),arS z]=some 0
  rw[(hk z hz).1,show arS (Str.ofString "neg")=1 from zx];rfl
theorem gm.keep {H H':Hp} {a:Addr} {r:Rl} (h:gm H a r) (t:∀{a:Addr} {xs:List V},H a=some (.tup xs)→H' a=some (.tup xs)):gm H' a r:=by
 obtain ⟨sa,da,ds,h1,h2,h3⟩:=h;exact ⟨sa,da,ds,t h1,t h2,t h3⟩
theorem dm.keep {H H':Hp} {ra:List Addr} {rs:List Rl} (h:dm H ra rs) (t:∀{a:Addr} {xs:List V},H a=some (.tup xs)→H' a=some (.tup xs)):dm H' ra rs:=⟨h.1,λi r hr=>by
 obtain ⟨a,h1,h2⟩:=h.2 i r hr;exact ⟨a,h1,h2.keep t⟩⟩
theorem fq.keep {H H':Hp} {sa:List Addr} {kinds:List Str} {ps:List (Str×List V)} (h:fq H sa kinds ps) (t:∀{a:Addr} {xs:List V},H a=some (.tup xs)→H' a=some (.tup xs)):fq H' sa kinds ps:=⟨h.1,λi k sh hi=>by
 obtain ⟨ok,a,s,h1,h2,h3⟩:=h.2 i k sh hi;exact ⟨ok,a,s,h1,t h2,t h3⟩⟩
theorem bx {H H':Hp} {d b:Addr} {ns:List Int} {n:Nat} (hD:dq H d b ns n) (s:ao d H H') {a:Addr} {xs:List V} (h:H a=some (.tup xs)):H' a=some (.tup xs):=s _ _ (gq h hD.1 (by intro e;cases e)) h
theorem dm.snoc {H:Hp} {ra:List Addr} {rs:List Rl} (h:dm H ra rs) {a:Addr} {r:Rl} (hr:gm H a r):dm H (ra++[a]) (rs++[r]):=by
 refine ⟨by rw[aa2,aa2,h.1];rfl,λi r' hi=>?_⟩;by_cases c:i < rs.length
 ·rw[aaf c] at hi;obtain ⟨a',g1,g2⟩:=h.2 i r' hi;exact ⟨a',by rw[aaf (by rw[h.1];exact c)];exact g1,g2⟩
 ·rw[aad (by omega)] at hi;have hz:i - rs.length=0:=by
   rcases abl (i - rs.length) with g | g
   ·exact g
   ·rw[abd (by rw[aaa];omega)] at hi;cases hi
  rw[hz] at hi;cases hi
  exact ⟨a,by rw[aad (by rw[h.1];omega),h.1,hz];rfl,hr⟩
theorem dm.rot {H:Hp} {ra:List Addr} {rs:List Rl} (h:dm H ra rs) (k:Nat):dm H (ra.drop k++ra.take k) (rs.drop k++rs.take k):=by
 have h1:=h.1;refine ⟨by rw[aa2,aa2,aap,aap,ab1,ab1,h1],λi r hi=>?_⟩;by_cases c:i < rs.length - k
 ·rw[aaf (by rw[aap];exact c),adk] at hi;rw[aaf (by rw[aap,h1];exact c),adk];exact h.2 _ r hi
 ·rw[aad (by rw[aap];omega),aap] at hi;rw[aad (by rw[aap,h1];omega),aap,h1];by_cases c2:i - (rs.length - k) < k
  ·rw[acs c2] at hi;rw[acs c2];exact h.2 _ r hi
  ·rw[abd (by rw[ab1];omega)] at hi;cases hi
theorem bk_rot {kinds zs:List Str} {rs:List Rl} (hk:Kinds kinds) (kn:kinds.Nodup) (kl:kinds.length≤60) (nd:zs.Nodup) (e:rs.map (·.name)=(zs.drop 8).take rs.length) (so:∀r∈rs,j8 kinds r.shape∧1≤r.price∧r.kind∈kinds) (hl:rs.length≤40) (k:Nat):Bk kinds (rs.drop k++rs.take k):=by
 have hp:(rs.drop k++rs.take k).Perm rs:=List.perm_append_comm.trans (by rw[ac3]);refine ⟨hk,(hp.map (·.name)).nodup_iff.mpr ?_,λr hr=>?_,by rw[hp.length_eq];omega,kn,kl,λr hr=>(so r (hp.mem_iff.mp hr)).2.1,λr hr=>(so r (hp.mem_iff.mp hr)).2.2⟩
 ·rw[e];exact (nd.sublist (List.drop_sublist 8 zs)).sublist (adn _ _)
 ·have o:=(so r (hp.mem_iff.mp hr)).1;exact ⟨o.w,o.one,by have:=o.len;omega⟩
theorem Hq {zs:List Str} {rs:List Rl} {n:Nat} (e:rs.map (·.name)=(zs.drop 8).take n) (k:Nat):∀r∈rs.drop k++rs.take k,r.name∈zs:=λr hr=>by
 have hm:r∈rs:=(List.mem_append.mp hr).elim ae9 abt;have h:r.name∈rs.map (·.name):=List.mem_map.mpr ⟨r,hm,rfl⟩;rw[e] at h;exact ae9 (abt h)
theorem Er {zs:List Str} {rs:List Rl} {r:Rl} {i:Nat} (e:rs.map (·.name)=(zs.drop 8).take i) (hz:zs[8+i]?=some r.name):(rs++[r]).map (·.name)=(zs.drop 8).take (i+1):=by
 rw[aa8,e,ab6,adk,hz];rfl
def cx (z:Str):Prop:=(∀c∈z.cps.toList,c < 128)∧z.length≤1000
def ql:Sp:=λvs H Q _=>∃(d b:Addr) (ns:List Int) (n:Nat),vs=[.ref d]∧dq H d b ns n∧n≤1000∧∀(l:Addr) (H':Hp) (zs:List Str),ao d H H'→H' d=some (.lst [.ref b,.int ((n+1:Nat):Int)])→dc H' l zs→(∀z∈zs,cx z)→Q (.ref l) H'
noncomputable abbrev Bg:Str:=Str.ofString "abcdefghijklmnopqrstuvwxyz"
noncomputable def ltr (i:Int):Str:=⟨#[97+(i % 26).toNat]⟩
theorem fu (i:Int):(ltr i).cps.toList=[97+(i % 26).toNat]:=rfl
theorem ee (i:Int):(ltr i).length=1:=rfl
theorem ltr_at (i:Int):atI Bg.cps.toList (i % 26)=some (97+(i % 26).toNat):=by
 have a:∀j:Fin 26,Bg.cps.toList[j.1]?=some (97+j.1):=by decide+kernel
 obtain ⟨j,hj,e⟩:∃j:Nat,j < 26∧i % 26=(j:Int):=⟨(i % 26).toNat,by omega,by omega⟩;rw[e,acg];exact bb (a ⟨j,hj⟩)
theorem ib {i:Int} {H:Hp} {Q:VK} (q:Q (.str (ltr i)) H):rIxS (.str Bg) (.int (i % 26)) H Q:=
 ⟨Bg,i % 26,_,rfl,rfl,by rw[sizeLine_eq];decide+kernel,ltr_at i,q⟩
noncomputable def dn:List Str:=["add","sub","mul","neg","any","var","put","load","out"]
noncomputable def ownC:List (List Nat):=dn.map λz=>z.cps.toList
theorem rb {a b:Str} (h:a.cps.toList=b.cps.toList):a=b:=by
 cases a;cases b
 congr 1
 exact Array.toList_inj.mp h
theorem qq {z:Str}:z∈dn↔z.cps.toList∈ownC:=by
 unfold ownC;constructor
 ·exact λh=>List.mem_map.mpr ⟨z,h,rfl⟩
 ·intro h;obtain ⟨y,hy,e⟩:=List.mem_map.mp h;rw[←rb e];exact hy
theorem own_ok {z:Str} (h:z∉dn):nmOk z:=by
 refine ⟨?_,λe=>h ?_,λe=>h ?_⟩
 ·rcases abl (arS z) with g | g
  ·exact g
  ·exfalso
   apply h
   rcases qt g with rfl | rfl | rfl | rfl
   ·exact aa7
   ·exact aab _ aa7
   ·exact aab _ (aab _ aa7)
   ·exact aab _ (aab _ (aab _ aa7))
 ·rw[V.str.inj (show V.str z=V.str (Str.ofString "any") from e)];decide+kernel
 ·rw[V.str.inj (show V.str z=V.str (Str.ofString "var") from e)];decide+kernel
noncomputable def nm0 (m:Int) (tail:Str) (k:Nat):Str:=ltr (m+(k:Int))++ltr (m / 7+(k:Int) / 26)++tail
noncomputable def nm1 (m:Int) (k:Nat):Str:=dn.getD (((k:Int)+m) % 9).toNat ""++ltr (m / 9+(k:Int) / 9)
noncomputable def nm2 (m:Int) (k:Nat):Str:=mq (ltr m) (1+(k:Int) % 3).toNat++mq (ltr (m+1)) ((k:Int) / 3 % 4).toNat++ltr (m+2+(k:Int) / 12)
noncomputable def sf (m:Int):Str:=mq (ltr (m / 26)) (m / 676 % 6).toNat
noncomputable def nmX (c:Int) (k:Nat):Str:=if c % 3=2 then nm2 (c / 3) k else if c % 3=1 then nm1 (c / 3) k else nm0 (c / 3) (sf (c / 3)) k
noncomputable def nmP (c:Int) (k:Nat):Str:=if nmX c k∈dn then nmX c k++"xq" else nmX c k
theorem i7 (i:Int) (n:Nat):(mq (ltr i) n).cps.toList=aal n (97+(i % 26).toNat):=by
 rw[Ep,fu];induction n with
 | zero=>rfl
 | succ n ih=>rw[ab3,abv,ih,ab3];rfl
theorem Hu (m:Int) (t:Str) (k:Nat):(nm0 m t k).cps.toList=(97+((m+(k:Int)) % 26).toNat)::(97+((m / 7+(k:Int) / 26) % 26).toNat)::t.cps.toList:=by
 unfold nm0;rw[gv,gv,fu,fu];rfl
theorem add_mod {n a b c:Int} (h:(a+b) % n=(a+c) % n):(b - c) % n=0:=by
 have h:=Int.emod_eq_emod_iff_emod_sub_eq_zero.mp h;rw[show a+b - (a+c)=b - c by omega] at h;exact h
theorem t8 {a b:Int} {n:Nat} (hn:0 < n) (h:97+(a % (n:Int)).toNat=97+(b % (n:Int)).toNat):a % (n:Int)=b % (n:Int):=by
 have h1:=aas a (show (n:Int)≠0 by omega);have h2:=aas b (show (n:Int)≠0 by omega);generalize a % (n:Int)=x at h h1;generalize b % (n:Int)=y at h h2;omega
theorem Nr {m:Int} {t:Str} {k k':Nat} (h:k < 60) (h':k' < 60) (e:nm0 m t k=nm0 m t k'):k=k':=by
 have e:=congrArg (λz:Str=>z.cps.toList) e;simp only[Hu,ace] at e;obtain ⟨e1,e2,_⟩:=e;have a1:=add_mod (t8 (n:=26) (by decide) e1);have a2:=add_mod (t8 (n:=26) (by decide) e2);clear e1 e2;omega
theorem Hx:dn.Nodup:=by decide+kernel
theorem Nq {m:Int} {k k':Nat} (h:k < 60) (h':k' < 60) (e:nm1 m k=nm1 m k'):k=k':=by
 unfold nm1 at e;have e:=congrArg (λz:Str=>z.cps.toList) e;simp only[gv,fu] at e;obtain ⟨e1,e2⟩:=aep e rfl;have e1:=rb e1;have b1:(((k:Int)+m) % 9).toNat < dn.length:=by show _ < 9;omega
 have b2:(((k':Int)+m) % 9).toNat < dn.length:=by show _ < 9;omega
 rw[aae,aae,aa1 b1,aa1 b2] at e1;have e3:=(adq Hx).mp (show dn[(((k:Int)+m) % 9).toNat]=dn[(((k':Int)+m) % 9).toNat] from e1);simp only[ace,and_true] at e2;have a2:=add_mod (t8 (n:=26) (by decide) e2);have h1:=aas ((k:Int)+m) (show (9:Int)≠0 by decide);have h2:=aas ((k':Int)+m) (show (9:Int)≠0 by decide);have e4:((k:Int)+m) % 9=((k':Int)+m) % 9:=by
  generalize ((k:Int)+m) % 9=x at e3 h1;generalize ((k':Int)+m) % 9=y at e3 h2;clear a2 h h';omega
 rw[Int.add_comm,Int.add_comm (k':Int)] at e4;have a1:=add_mod e4;clear e1 e2 e3 e4 b1 b2 h1 h2 e;omega
theorem ym (m:Int) (k:Nat):(nm2 m k).cps.toList=aal (1+(k:Int) % 3).toNat (97+(m % 26).toNat)++(aal ((k:Int) / 3 % 4).toNat (97+((m+1) % 26).toNat)++[97+((m+2+(k:Int) / 12) % 26).toNat]):=by
 unfold nm2;rw[gv,gv,i7,i7,fu,abn]
theorem Qn {m:Int} {k k':Nat} (h:k < 60) (h':k' < 60) (e:nm2 m k=nm2 m k'):k=k':=by
 have e:=congrArg (λz:Str=>z.cps.toList) e;simp only[ym] at e;have ab:97+((m+1) % 26).toNat≠97+(m % 26).toNat:=by omega
 have ac:∀k:Nat,k < 60→97+((m+2+(k:Int) / 12) % 26).toNat≠97+(m % 26).toNat:=λk h=>by omega
 have bc:∀k:Nat,k < 60→97+((m+2+(k:Int) / 12) % 26).toNat≠97+((m+1) % 26).toNat:=λk h=>by omega
 have c1:=congrArg (List.count (97+(m % 26).toNat)) e;have c2:=congrArg (List.count (97+((m+1) % 26).toNat)) e;have c3:=congrArg List.getLast? e;rw[abo,abo,abo,abo,ac7,ac7,aco,aco,acp,acp,if_neg (by simpa using ab),if_neg (by simpa using ac k h),if_neg (by simpa using ab),if_neg (by simpa using ac k' h')] at c1;rw[abo,abo,abo,abo,ac7,ac7,aco,aco,acp,acp,if_neg (by simpa using ab.symm),if_neg (by simpa using bc k h),if_neg (by simpa using ab.symm),if_neg (by simpa using bc k' h')] at c2;rw[←abn,←abn,aea,aea] at c3;have c3:=aa4 c3;rw[Int.add_assoc,Int.add_assoc m 2] at c3;have a3:=add_mod (t8 (n:=26) (by decide) c3);clear c3 ab ac bc e;omega
theorem Og (m:Int) (k:Nat):nm1 m k∉dn:=by
 intro h;have h:=qq.mp h;unfold nm1 at h;have b1:(((k:Int)+m) % 9).toNat < dn.length:=by show _ < 9;omega
 rw[gv,fu,aae,aa1 b1] at h;have a:∀x∈ownC,x.dropLast∉ownC:=by decide+kernel
 apply a _ h
 rw[ae8];exact qq.mp (ab5 b1)
theorem Qe {m:Int} {k:Nat} (hk:k < 60):nm2 m k∉dn:=by
 intro h;have h:=qq.mp h;rw[ym] at h;have a:∀x∈ownC,3≤x.length∧x.getD 1 0≠x.getD 0 0∧x.getD 1 0≠x.getD 0 0+1∧(x.getD 0 0=122→False):=by decide+kernel
 obtain ⟨i,hi⟩:∃i,(1+(k:Int) % 3).toNat=i+1:=⟨((k:Int) % 3).toNat,by omega⟩;obtain ⟨a1,a2,a3,a4⟩:=a _ h;rw[hi,ab3] at a1 a2 a3 a4;cases i with
 | succ i=>
  rw[ab3] at a2;exact a2 rfl
 | zero=>
  cases hj:((k:Int) / 3 % 4).toNat with
  | zero=>
   rw[hj] at a1;simp at a1
  | succ j=>
   rw[hj,ab3] at a3;simp at a3 a4;omega
theorem zu {z:Str} (h:z∈dn):z.length≤4∧3≤z.length:=by
 have a:∀z∈dn,z.length≤4∧3≤z.length:=by decide+kernel
 exact a z h
theorem zg:(Str.length "xq")=2:=by decide+kernel
theorem Gg {c:Int} {k k':Nat} (h:k < 60) (h':k' < 60) (e:nmX c k=nmX c k'):k=k':=by
 unfold nmX at e;by_cases c2:c % 3=2
 ·rw[if_pos c2,if_pos c2] at e;exact Qn h h' e
 rw[if_neg c2,if_neg c2] at e;by_cases c1:c % 3=1
 ·rw[if_pos c1,if_pos c1] at e;exact Nq h h' e
 rw[if_neg c1,if_neg c1] at e;exact Nr h h' e
theorem Gn {c:Int} {k:Nat} (h:k < 60) (e:nmX c k∈dn) (j:Nat):(nmX c j).length=(nmX c k).length:=by
 unfold nmX at e ⊢;by_cases c2:c % 3=2
 ·rw[if_pos c2] at e;exact absurd e (Qe h)
 rw[if_neg c2] at e;rw[if_neg c2,if_neg c2];by_cases c1:c % 3=1
 ·rw[if_pos c1] at e;exact absurd e (Og _ _)
 rw[if_neg c1,if_neg c1];unfold nm0;rw[Str.length_append,Str.length_append,Str.length_append,Str.length_append,ee,ee,ee,ee]
theorem Ng {c:Int} {k k':Nat} (h:k < 60) (h':k' < 60) (e:nmP c k=nmP c k'):k=k':=by
 unfold nmP at e;have x2:=zg;by_cases o:nmX c k∈dn
 ·rw[if_pos o] at e;have l1:=Gn h o k';have e2:=congrArg Str.length e;by_cases o':nmX c k'∈dn
  ·rw[if_pos o'] at e;have e:=congrArg (λz:Str=>z.cps.toList) e;simp only[gv] at e;exact Gg h h' (rb (aep e rfl).1)
  ·rw[if_neg o',Str.length_append] at e2;omega
 ·rw[if_neg o] at e;by_cases o':nmX c k'∈dn
  ·have l1:=Gn h' o' k;rw[if_pos o'] at e;have e2:=congrArg Str.length e;rw[Str.length_append] at e2;omega
  ·rw[if_neg o'] at e;exact Gg h h' e
theorem nmP_ok (c:Int) (k:Nat):nmOk (nmP c k):=by
 apply own_ok
 unfold nmP;by_cases o:nmX c k∈dn
 ·rw[if_pos o];intro h;have a:=(zu h).1;have b:=(zu o).2;rw[Str.length_append,zg] at a;omega
 ·rw[if_neg o];exact o
theorem Ee {H:Hp} {l:Addr} {c:Int} (h:H l=some (.lst ((aax 60).map λk=>V.str (nmP c k)))):dc H l ((aax 60).map (nmP c)):=by
 refine ⟨by rw[ac0];exact h,by rw[aa0,ac6],?_,λz hz=>?_⟩
 ·refine List.pairwise_map.mpr (List.Pairwise.imp_of_mem ?_ List.nodup_range);intro a b ha hb n e;exact n (Ng (List.mem_range.mp ha) (List.mem_range.mp hb) e)
 ·obtain ⟨k,_,rfl⟩:=List.mem_map.mp hz;exact nmP_ok c k
theorem G2 (m m':Int) (k:Nat):(nm0 m (sf m') k).length≤100:=by
 unfold nm0 sf;rw[Str.length_append,Str.length_append,ee,ee];have e:(mq (ltr (m' / 26)) (m' / 676 % 6).toNat).length=(mq (ltr (m' / 26)) (m' / 676 % 6).toNat).cps.toList.length:=rfl;rw[e,i7,abc];omega
theorem lu (i:Int) (n:Nat):(mq (ltr i) n).length=n:=by
 have e:(mq (ltr i) n).length=(mq (ltr i) n).cps.toList.length:=rfl;rw[e,i7,abc]
theorem Fz (m:Int) (k:Nat):(nm1 m k).length≤100:=by
 unfold nm1;have b1:(((k:Int)+m) % 9).toNat < dn.length:=by show _ < 9;omega
 rw[Str.length_append,ee,aae,aa1 b1];have:=(zu (ab5 b1)).1;show (dn[(((k:Int)+m) % 9).toNat]).length+1≤100
 omega
theorem O3 (m:Int) (k:Nat):(nm2 m k).length≤100:=by
 unfold nm2;rw[Str.length_append,Str.length_append,ee,lu,lu];omega
theorem E9 (c:Int) (k:Nat):(nmX c k).length≤100:=by
 unfold nmX;by_cases c2:c % 3=2
 ·rw[if_pos c2];exact O3 _ _
 rw[if_neg c2];by_cases c1:c % 3=1
 ·rw[if_pos c1];exact Fz _ _
 rw[if_neg c1];exact G2 _ _ _
theorem Mt (z:Str):(inV (.str z) (dn.map V.str)=true)↔z∈dn:=by
 constructor
 ·intro h;obtain ⟨y,hy,e⟩:=List.mem_map.mp (me h);rw[←V.str.inj e];exact hy
 ·intro h;exact t4 (List.mem_map.mpr ⟨z,h,rfl⟩)
theorem bh.keep {H H':Hp} {b:Addr} {kinds:List Str} {rs:List Rl} (h:bh H b kinds rs) (t:∀{a:Addr} {xs:List V},H a=some (.tup xs)→H' a=some (.tup xs)):bh H' b kinds rs:=by
 obtain ⟨kt,rt,ra,h1,h2,h3,h4⟩:=h;exact ⟨kt,rt,ra,t h1,t h2,t h3,h4.keep t⟩
theorem Tw.pos {ws:List V} (h:Tw ws):0 < ws.length:=by
 cases ws with
 | nil=>cases h.one
 | cons x r=>exact Nat.succ_pos _
theorem Ap (i:Int):∀c∈(ltr i).cps.toList,c < 128:=λc h=>by
 rw[fu] at h;rw[List.mem_singleton.mp h];omega
theorem rh {a b:Str} (h:∀c∈a.cps.toList,c < 128) (g:∀c∈b.cps.toList,c < 128):∀c∈(a++b).cps.toList,c < 128:=λc hc=>by
 rw[gv] at hc;rcases List.mem_append.mp hc with hc | hc
 ·exact h c hc
 ·exact g c hc
theorem Dj (i:Int) (n:Nat):∀c∈(mq (ltr i) n).cps.toList,c < 128:=λc h=>by
 rw[i7] at h;rw[(List.mem_replicate.mp h).2];omega
theorem own_tx {z:Str} (h:z∈dn):∀c∈z.cps.toList,c < 128:=by
 have a:∀z∈dn,∀c∈z.cps.toList,c < 128:=by decide+kernel
 exact a z h
theorem Mr (c:Int) (k:Nat):∀x∈(nmX c k).cps.toList,x < 128:=by
 unfold nmX;by_cases c2:c % 3=2
 ·rw[if_pos c2];exact rh (rh (Dj _ _) (Dj _ _)) (Ap _)
 rw[if_neg c2];by_cases c1:c % 3=1
 ·rw[if_pos c1];unfold nm1;have b1:(((k:Int)+c / 3) % 9).toNat < dn.length:=by show _ < 9;omega
  rw[aae,aa1 b1];exact rh (own_tx (ab5 b1)) (Ap _)
 rw[if_neg c1];exact rh (rh (Ap _) (Ap _)) (Dj _ _)
theorem nmP_tx (c:Int) (k:Nat):cx (nmP c k):=by
 have l:=E9 c k;have x2:=zg;unfold nmP;by_cases o:nmX c k∈dn
 ·rw[if_pos o];exact ⟨rh (Mr c k) (by decide+kernel),by rw[Str.length_append];omega⟩
 ·rw[if_neg o];exact ⟨Mr c k,by omega⟩
theorem Ll (c:Int):∀z∈(aax 60).map (nmP c),cx z:=λz hz=>by
 obtain ⟨k,_,rfl⟩:=List.mem_map.mp hz;exact nmP_tx c k
end Pc
namespace Fm
section
variable {N:Type} [DecidableEq N]
structure Lin (lt:N→N→Bool):Prop where
 irr:∀x,lt x x=false
 tr:∀{x y z},lt x y=true→lt y z=true→lt x z=true
 tri:∀x y,lt x y=true∨x=y∨lt y x=true
variable {lt:N→N→Bool}
variable (mon:N→Int)
end
end Fm
namespace L2
open PySem PySem.Spec PyProof.Rows
def TK (H H':Hp):Prop:=∀b xs,H b=some (.tup xs)→H' b=some (.tup xs)
theorem TK.trans {H H1 H2:Hp} (a:TK H H1) (b:TK H1 H2):TK H H2:=λc xs h=>b c xs (a c xs h)
theorem TK.of {H H':Hp} (s:ak H H'):TK H H':=λb xs h=>s b _ h
theorem TK.put {H:Hp} {a:Addr} {o o':HO} (h:H a=some o) (ho:∀xs,o≠.tup xs):TK H (upd H a o'):=λb xs hb=>by
 rw[ah (λe=>by rw[e,h] at hb;exact ho xs (aa4 hb))];exact hb
theorem Pn {J:It} {fr:St} {tc:TT} {te:TE} {D:Addr} {H1:Hp} {Q:Hp→Prop} (n:Nat) (item:Nat→V) (P:Nat→List V→Hp→Prop) (mono:∀i ys H H',TK H H'→P i ys H→P i ys H') (hn:n < sizeLine) (hD:H1 D=none)
  (hgo:∀i H,i < n→ak H1 H→J.go i H) (hyld:∀i H x H',i < n→ak H1 H→J.yld i H x H'→H'=H∧x=item i) (hstop:∀H,ak H1 H→J.stop n H) (h0:P 0 [] H1)
  (step:∀i ys H (G:Hp→Prop) (K':V→Hp→Prop),i < n→P i ys H→ys.length≤i→ak H1 H→(∀H3,ak H H3→P (i+1) ys H3→G H3)→(∀y H4,ak H H4→P (i+1) (ys++[y]) H4→K' y H4)→tc ([some (item i)]++fr) H λb H3=>if b=true then te ([some (item i)]++fr) H3 K' else G H3)
  (done:∀ys H,P n ys H→ys.length≤n→ak H1 H→H D=some (.lst ys)→Q H):LC 1 fr (cu 0) tc te J D H1 Q:=by
 refine ⟨λi m H=>m=n - i∧i≤n∧∃ys,H D=some (.lst ys)∧P i ys H∧ys.length≤i∧ak H1 H,⟨n,by simp,aa6 _,[],ae,mono _ _ _ _ (TK.of (aa hD _)) h0,aa3 _,aa hD _⟩,?_⟩;rintro i m H ⟨rfl,hi,ys,hys,hP,hl,hS⟩;by_cases hlt:i < n
 ·refine .inr ⟨hgo i H hlt hS,λτ x H' hτ hy=>?_⟩;obtain ⟨e1,e2⟩:=hyld i H x H' hlt hS hy;subst e1 e2;obtain ⟨a,rfl⟩:∃a,τ=[a]:=List.length_eq_one_iff.mp hτ;refine ⟨⟨[some (item i)],rfl,rfl⟩,step i ys H' _ _ hlt hP hl hS (λH3 q1 q2=>?_) (λy H4 q1 q2=>?_)⟩
  ·exact ⟨n - (i+1),by omega,rfl,hlt,ys,q1 _ _ hys,q2,acj hl,hS.trans q1⟩
  ·refine ⟨ys,q1 _ _ hys,by omega,n - (i+1),by omega,rfl,hlt,ys++[y],ae,mono _ _ _ _ (TK.put (q1 _ _ hys) λxs e=>by cases e) q2,?_,(hS.trans q1).upd hD _⟩;rw[aa2,aaa];omega
 ·have e:i=n:=by omega
  subst e;exact .inl ⟨hstop H hS,done ys H hP hl hS hys⟩
theorem K5 {K:PySem.W.Frag} {c:Nat} {J:It} {fr:St} {tc:TT} {te:TE} {D:Addr} {H1:Hp} {Q:Hp→Prop} (n:Nat) (R:Nat→V→V→Hp→Prop) (P:Nat→List V→Hp→Prop) (mono:∀i ys H H',TK H H'→P i ys H→P i ys H') (hc:c=2) (hn:n < sizeLine) (hD:H1 D=none)
  (hgo:∀i H,i < n→ak H1 H→J.go i H) (hyld:∀i H v H',i < n→ak H1 H→J.yld i H v H'→ak H H'∧∃p x y,v=.ref p∧SqT K H' p [x,y]∧R i x y H') (hstop:∀H,ak H1 H→J.stop n H) (h0:P 0 [] H1)
  (step:∀i x y ys H (G:Hp→Prop) (K':V→Hp→Prop),i < n→R i x y H→P i ys H→ys.length≤i→ak H1 H→(∀H3,ak H H3→P (i+1) ys H3→G H3)→(∀y H4,ak H H4→P (i+1) (ys++[y]) H4→K' y H4)→tc ([some x,some y]++fr) H λb H3=>if b=true then te ([some x,some y]++fr) H3 K' else G H3)
  (done:∀ys H,P n ys H→ys.length≤n→ak H1 H→H D=some (.lst ys)→Q H):LC 2 fr (zk K c (fm (cu 0) (fm (cu 1) Dq))) tc te J D H1 Q:=by
 refine ⟨λi m H=>m=n - i∧i≤n∧∃ys,H D=some (.lst ys)∧P i ys H∧ys.length≤i∧ak H1 H,⟨n,by simp,aa6 _,[],ae,mono _ _ _ _ (TK.of (aa hD _)) h0,aa3 _,aa hD _⟩,?_⟩;rintro i m H ⟨rfl,hi,ys,hys,hP,hl,hS⟩;by_cases hlt:i < n
 ·refine .inr ⟨hgo i H hlt hS,λτ v H' hτ hy=>?_⟩;obtain ⟨e1,p,x,y,rfl,hp,hR⟩:=hyld i H v H' hlt hS hy;obtain ⟨a,b,rfl⟩:∃a b,τ=[a,b]:=us2 (P:=λτ=>∃a b,τ=[a,b]) hτ λa b=>⟨a,b,rfl⟩;have hys':=e1 _ _ hys;refine ⟨p,_,rfl,hp,by rw[hc];rfl,_,_,rfl,_,_,rfl,rfl,⟨[some x,some y],rfl,rfl⟩,step i x y ys H' _ _ hlt hR (mono _ _ _ _ (TK.of e1) hP) hl (hS.trans e1) (λH3 q1 q2=>?_) (λy H4 q1 q2=>?_)⟩
  ·exact ⟨n - (i+1),by omega,rfl,hlt,ys,q1 _ _ hys',q2,acj hl,(hS.trans e1).trans q1⟩
  ·refine ⟨ys,q1 _ _ hys',by omega,n - (i+1),by omega,rfl,hlt,ys++[y],ae,mono _ _ _ _ (TK.put (q1 _ _ hys') λxs e=>by cases e) q2,?_,((hS.trans e1).trans q1).upd hD _⟩;rw[aa2,aaa];omega
 ·have e:i=n:=by omega
  subst e;exact .inl ⟨hstop H hS,done ys H hP hl hS hys⟩
end L2
namespace Fm
section
variable {α:Type}
noncomputable def ins (lt:α→α→Bool) (x:α):List α→List α
 | []=>[x]
 | y::r=>if lt y x=true then y::ins lt x r else x::y::r
noncomputable def Gw (lt:α→α→Bool) (l:List α):List α:=l.foldr (ins lt) []
variable {lt:α→α→Bool}
theorem vx (x:α):∀l:List α,(ins lt x l).Perm (x::l)
 | []=>acz _
 | y::r=>by
  show (if lt y x=true then y::ins lt x r else x::y::r).Perm _
  split
  ·exact ((vx x r).cons y).trans (List.Perm.swap x y r)
  ·exact acz _
theorem ic:∀l:List α,(Gw lt l).Perm l
 | []=>acz _
 | x::r=>(vx x (Gw lt r)).trans ((ic r).cons x)
def Srt (lt:α→α→Bool) (l:List α):Prop:=l.Pairwise λa b=>lt b a=false
structure Pre (lt:α→α→Bool):Prop where
 irr:∀x,lt x x=false
 tr:∀{x y z},lt x y=true→lt y z=true→lt x z=true
 neg:∀{x z} (y:α),lt x z=true→lt x y=true∨lt y z=true
theorem E4 (o:Pre lt) (x:α):∀{l:List α},Srt lt l→Srt lt (ins lt x l)
 | [],_=>List.pairwise_singleton _ _
 | y::r,h=>by
  obtain ⟨h1,h2⟩:=List.pairwise_cons.mp h;show Srt lt (if lt y x=true then y::ins lt x r else x::y::r)
  split
  ·rename_i c
   refine List.pairwise_cons.mpr ⟨λz hz=>?_,E4 o x h2⟩;rcases List.mem_cons.mp ((vx x r).mem_iff.mp hz) with e | e
   ·rw[e];cases q:lt x y with
    | false=>rfl
    | true=>exact absurd (o.tr c q) (by rw[o.irr];decide)
   ·exact h1 z e
  ·rename_i c
   have c:lt y x=false:=Bool.eq_false_iff.mpr c;refine List.pairwise_cons.mpr ⟨λz hz=>?_,h⟩;rcases List.mem_cons.mp hz with e | e
   ·rw[e];exact c
   ·cases q:lt z x with
    | false=>rfl
    | true=>
     rcases o.neg y q with k | k
     ·rw[h1 z e] at k;cases k
     ·rw[c] at k;cases k
theorem y4 (o:Pre lt):∀l:List α,Srt lt (Gw lt l)
 | []=>aei
 | x::r=>E4 o x (y4 o r)
theorem uo [DecidableEq α] (o:Lin lt):∀{l m:List α},l.Perm m→Srt lt l→Srt lt m→l=m
 | [],m,h,_,_=>h.nil_eq
 | a::r,[],h,_,_=>absurd h.length_eq (by simp)
 | a::r,b::s,h,h1,h2=>by
  obtain ⟨p1,p2⟩:=List.pairwise_cons.mp h1;obtain ⟨q1,q2⟩:=List.pairwise_cons.mp h2;have e:a=b:=by
   rcases List.mem_cons.mp (h.mem_iff.mp aa7) with e | e
   ·exact e
   ·rcases List.mem_cons.mp (h.mem_iff.mpr aa7) with k | k
    ·exact k.symm
    ·rcases o.tri a b with z | z | z
     ·rw[q1 a e] at z;cases z
     ·exact z
     ·rw[p1 b k] at z;cases z
  subst e;rw[uo o (List.Perm.cons_inv h) p2 q2]
end
section
variable {N:Type} [DecidableEq N] {lt:N→N→Bool}
theorem Lin.pre (o:Lin lt) {β:Type} (f:β→N):Pre (λp q:β=>lt (f p) (f q)):=⟨λx=>o.irr _,λh k=>o.tr h k,λ{x z} y h=>by
 rcases o.tri (f x) (f y) with k | k | k
 ·exact .inl k
 ·rw[←k];exact .inr h
 ·exact .inr (o.tr k h)⟩
end
end Fm
namespace Pc
open PySem PySem.Spec L2 PyProof.Rows Fm
theorem linS:Lin ltS:=⟨Ay,Ad,Fi⟩
noncomputable def df (l:List Str):List Str:=Gw ltS l
theorem J2 {l m:List Str} (hp:m.Perm l) (hs:Srt ltS m):m=df l:=uo linS (hp.trans (ic l).symm) hs (y4 (linS.pre id) l)
theorem qx (l:List Str):(df l).length=l.length:=(ic l).length_eq
theorem Hg {l:List Str} {z:Str}:z∈df l↔z∈l:=(ic l).mem_iff
end Pc
namespace L2
open PySem PySem.Spec PyProof.Rows PySem.SeqAt Pc
end L2
namespace L2
open PySem
theorem hu8_of {k:Nat} {A:Around} (r:fz k A):A.units+8 < cLine:=by
 have:=r.units;omega
end L2
namespace Pc
open PySem PySem.Spec L2 PyProof.Rows Fm
end Pc
namespace L2
open PySem
theorem Jh {X:Cx} {pos:Pos} (K:PySem.W.Frag) (hK:X.K=K) {a b:Expr} {k:Nat} {t:TGs} (hc:X.calm=true) (h:PGs X [a,b] t) (hn:(assignEach [a,b] X.env).length=2:=by rfl) (hst:(assignEach [a,b] X.env).findIdx? (·.1)=none:=by rfl):PG X (.Tuple [a,b] k pos) (zk K 2 t):=by
 subst hK;exact Ed hc h hn hst
end L2
namespace Pc
open PySem PySem.Spec L2 PyProof.Rows Fm
theorem getD_some {α:Type} {l:List α} {i:Nat} {d x:α} (h:l[i]?=some x):l.getD i d=x:=by rw[aae,h];rfl
theorem zo {zs:List Str} {is:List Nat} (hp:is.Perm (aax (zs.map V.str).length)) (hi:∀i j,i≤j→j < (zs.map V.str).length→rank zs.length (λi j=>ltS (zs.getD i "") (zs.getD j "")) (is.getD i 0)≤rank zs.length (λi j=>ltS (zs.getD i "") (zs.getD j "")) (is.getD j 0)):
  (is.map λi=>(zs.map V.str).getD i .non)=(df zs).map V.str:=by
 rw[aa0] at hp hi;have hlen:is.length=zs.length:=by rw[hp.length_eq,ac6]
 have hmem:∀i∈is,i < zs.length:=λi h=>List.mem_range.mp (hp.mem_iff.mp h);have e1:(is.map λi=>(zs.map V.str).getD i .non)=(is.map λi=>zs.getD i "").map V.str:=by
  rw[ac0];apply List.map_congr_left
  intro i h;have hi:=hmem i h;show (zs.map V.str).getD i .non=V.str (zs.getD i "")
  rw[getD_some (x:=V.str zs[i]) (by rw[aac,aa1 hi];rfl),getD_some (aa1 hi)]
 rw[e1];congr 1
 refine J2 ?_ ?_
 ·have e:(aax zs.length).map (λi=>zs.getD i "")=zs:=by
   apply aej
   intro i;rw[aac];by_cases h:i < zs.length
   ·rw[aed h,aa1 h];show some (zs.getD i "")=_
    rw[getD_some (aa1 h)]
   ·rw[List.getElem?_eq_none_iff.mpr (by rw[ac6];omega),List.getElem?_eq_none_iff.mpr (by omega)];rfl
  have:=hp.map λi=>zs.getD i "";rw[e] at this;exact this
 ·refine List.pairwise_map.mpr (List.pairwise_iff_getElem.mpr λi j h1 h2 hij=>?_);have o:Ord zs.length λi j=>ltS (zs.getD i "") (zs.getD j ""):=⟨λ_ _=>Ay _,λ_ _ _ _ _ _ a b=>Ad a b,λ_ j _ _ _ _ a=>Gd _ a⟩;have hr:=hi i j (abq hij) (by omega);rw[getD_some (aa1 h1),getD_some (aa1 h2)] at hr;have hrk:=o.rank (i:=is[j]) (j:=is[i]) (hmem _ (ab5 h2)) (hmem _ (ab5 h1));rw[decide_eq_false (by omega)] at hrk;exact hrk.symm
end Pc
namespace L2.Zd
open PySem
abbrev IsZ (h:Heap) (z TI TO:Addr) (f0 f1:Value):Prop:=
 h.get? z=some { cls:=.type "zip",dict:=none,data:=.fields #[f0,f1,.bool false,.ref TI,.ref TO],slots:=#[] }
section
variable {prog:Program} {w:World} {A:Around} {E:Value→Shared→Prop} {s:Shared}
theorem alive {M:Model} {a:Addr} {Q:Option Obj→Shared→Prop} (h:Q (s.heap.get? a) s):wpAny M A (loadIfAlive a) Q E s:=λΓ p hΓ=>by
 unfold loadIfAlive;rw[Sem.wp_loadIfAlive];exact wpAny_pure h Γ p hΓ
theorem J4 {z TI TO T:Addr} {b:Bool} {o:Obj} {Q:Bool→Shared→Prop} (hz:IsZ s.heap z TI TO (rawInt T) (.bool b)) (ho:s.heap.get? T=some o)
  (q:∀h',IsZ h' z TI TO (rawInt T) (.bool true)→Heap.SameBut z s.heap h'→Q false { s with heap:=h' }):wpAny (model prog w) A (Builtin.SmallTypes.ownedTupleIsFree (.ref z)) Q E s:=by
 unfold Builtin.SmallTypes.ownedTupleIsFree;refine wpAny_bind (wpAny_field hz rfl (x:=rawInt T) rfl ?_);show wpAny _ _ (loadIfAlive T >>=_) _ _ _
 refine wpAny_bind (alive ?_);rw[ho];show wpAny _ _ (field (.ref z) 1 >>=_) _ _ _
 refine wpAny_bind (wpAny_field hz rfl (x:=.bool b) rfl ?_);cases b with
 | true=>exact wpAny_pure (q s.heap hz (Heap.SameBut.refl _ _))
 | false=>exact wpAny_bind (wpAny_setField_rec hz (by simp) λh' hz' hs'=>wpAny_pure (q h' hz' hs'))
end
end L2.Zd
namespace L2.Zg
open PySem L2.Zd
def Hf:Bool→Addr→Addr→Array Value→Nat→Heap→Prop
 | false,it,l,xs,k,h=>h.IsListIter it l k∧h.IsList l xs
 | true,it,l,xs,k,h=>h.IsTupleIter it l k∧h.IsTuple l xs
theorem Hf.keep {b:Bool} {it l:Addr} {xs:Array Value} {k:Nat} {h h':Heap} (x:Hf b it l xs k h) (g1:∀o,h.get? it=some o→h'.get? it=some o) (g2:∀o,h.get? l=some o→h'.get? l=some o):Hf b it l xs k h':=by
 cases b
 ·obtain ⟨⟨o,e,r⟩,⟨o',e',r'⟩⟩:=x;exact ⟨⟨o,g1 _ e,r⟩,⟨o',g2 _ e',r'⟩⟩
 ·obtain ⟨⟨o,e,r⟩,⟨o',e',r'⟩⟩:=x;exact ⟨⟨o,g1 _ e,r⟩,⟨o',g2 _ e',r'⟩⟩
section
variable {prog:Program} {w:World} {A:Around} {E:Value→Shared→Prop} {s:Shared}
theorem Hf.next {b:Bool} {it l:Addr} {xs:Array Value} {k:Nat} {v:Value} {Q:Value→Shared→Prop} (x:Hf b it l xs k s.heap) (hne:l≠it) (hx:xs[k]?=some v)
  (hQ:∀h',Hf b it l xs (k+1) h'→Heap.SameBut it s.heap h'→Q v { s with heap:=h' }):wpAny (model prog w) A (Builtin.SmallTypes.nextOf (.ref it)) Q E s:=by
 cases b
 ·obtain ⟨x1,x2⟩:=x;exact wpAny_nextOf_list_item x1 x2 hx λh' a b=>hQ h' ⟨a,x2.extBut b.extBut hne⟩ b
 ·obtain ⟨x1,x2⟩:=x;have ty:=x1.typeIs;obtain ⟨oi,hoi,ci,di⟩:=id x1;obtain ⟨ot,hot,_,nt,dt⟩:=id x2;unfold Builtin.SmallTypes.nextOf;refine wpAny_bind (wpAny_callSpecial?_slot (name:=Str.ofString "__next__") ty F.slot_tuple_iterator_next (wpAny_call_entry F.slot_tuple_iterator_next ty F.entry_tuple_iterator_next ?_ (F.args_tuple_iterator_next_1 _)));show wpAny _ _ (field (.ref it) 0 >>=_) _ _ s
  refine wpAny_bind (wpAny_field hoi di (x:=.ref l) rfl ?_);show wpAny _ _ (if (Value.ref l==Value.none)=true then _ else _) _ _ s
  rw[if_neg (show ¬((Value.ref l==Value.none)=true) from aak)];show wpAny _ _ (field (.ref it) 1 >>=_) _ _ s
  refine wpAny_bind (wpAny_field hoi di (x:=.int k 0) rfl ?_);show wpAny _ _ (seqItems? (.ref l) >>=_) _ _ s
  refine wpAny_bind (wpAny_seqItems hot dt ?_);simp only[acg,hx];refine wpAny_bind (wpAny_setField hoi di (by simp) (wpAny_pure ⟨v,rfl,wpAny_pure (hQ _ ⟨⟨_,Heap.get?_update_self _ hoi (Obj.isFreed_of_fields (Obj.data_mapFields di _)),(Obj.cls_mapFields ..).trans ci,by rw[Obj.data_mapFields di];simp[rawInt]⟩,x2.extBut (Heap.SameBut.update ..).extBut hne⟩ (Heap.SameBut.update ..))⟩))
theorem Hf.stop {b:Bool} {it l:Addr} {xs:Array Value} {k:Nat} {Q:Value→Shared→Prop} (hh:A.handled=none) (x:Hf b it l xs k s.heap) (hx:xs[k]?=none)
  (hE:∀h' e,Heap.ExtBut it s.heap h'→(∃o,h'.get? e=some o∧o.cls=.type "StopIteration")→E (.ref e) { s with heap:=h' }):wpAny (model prog w) A (Builtin.SmallTypes.nextOf (.ref it)) Q E s:=by
 cases b
 ·obtain ⟨x1,x2⟩:=x;exact wpAny_nextOf_list_end hh x1 x2 hx hE
 ·obtain ⟨x1,x2⟩:=x;have ty:=x1.typeIs;obtain ⟨oi,hoi,ci,di⟩:=id x1;obtain ⟨ot,hot,_,nt,dt⟩:=id x2;unfold Builtin.SmallTypes.nextOf;refine wpAny_bind (wpAny_callSpecial?_slot (name:=Str.ofString "__next__") ty F.slot_tuple_iterator_next (wpAny_call_entry F.slot_tuple_iterator_next ty F.entry_tuple_iterator_next ?_ (F.args_tuple_iterator_next_1 _)));show wpAny _ _ (field (.ref it) 0 >>=_) _ _ s
  refine wpAny_bind (wpAny_field hoi di (x:=.ref l) rfl ?_);show wpAny _ _ (if (Value.ref l==Value.none)=true then _ else _) _ _ s
  rw[if_neg (show ¬((Value.ref l==Value.none)=true) from aak)];show wpAny _ _ (field (.ref it) 1 >>=_) _ _ s
  refine wpAny_bind (wpAny_field hoi di (x:=.int k 0) rfl ?_);show wpAny _ _ (seqItems? (.ref l) >>=_) _ _ s
  refine wpAny_bind (wpAny_seqItems hot dt ?_);simp only[acg,hx];refine wpAny_bind (wpAny_rule (wpAny_bind (wpAny_setField hoi di (by simp) ?_)));show wpAny _ _ (newExc (.type "StopIteration") [] >>=_) _ _ _
  refine wpAny_bind ?_;simp only[newExc,newTuple];refine wpAny_bind (wpAny_newObj_type ?_ (by size_fits));refine wpAny_bind (m:=firstArgMember _ _) (wpAny_of_eq (a:=Value.none) (by first | rfl | (simp only[firstArgMember];rfl)) ?_);refine wpAny_newObj_type ?_ (by size_fits);simp only[raiseNew];refine wpAny_bind (wpAny_handled ?_);first | rw[show A.in1.handled=none from hh] | rw[hh]
  refine wpAny_bind (wpAny_pure (wpAny_throw ?_));exact hE _ _ (((Heap.SameBut.update ..).extBut.push _).push _) ⟨_,Heap.get?_push_size _ rfl,rfl⟩
theorem free {z TI TO:Addr} {f0:Value} {b:Bool} {Q:Bool→Shared→Prop} (hz:IsZ s.heap z TI TO f0 (.bool b)) (hf:f0=.none∨∃T:Addr,f0=rawInt T)
  (q:∀r h' b',IsZ h' z TI TO f0 (.bool b')→Heap.SameBut z s.heap h'→Q r { s with heap:=h' }):wpAny (model prog w) A (Builtin.SmallTypes.ownedTupleIsFree (.ref z)) Q E s:=by
 rcases hf with rfl | ⟨T,rfl⟩
 ·unfold Builtin.SmallTypes.ownedTupleIsFree;refine wpAny_bind (wpAny_field hz rfl (x:=.none) rfl (wpAny_pure ?_));exact q true s.heap b hz (Heap.SameBut.refl _ _)
 ·cases ho:s.heap.get? T with
  | some o=>exact J4 hz ho λh' a c=>q false h' true a c
  | none=>
   unfold Builtin.SmallTypes.ownedTupleIsFree;refine wpAny_bind (wpAny_field hz rfl (x:=rawInt T) rfl ?_);show wpAny _ _ (loadIfAlive T >>=_) _ _ _
   refine wpAny_bind (alive ?_);rw[ho];exact wpAny_pure (q true s.heap b hz (Heap.SameBut.refl _ _))
end
def Zst (c1 c2:Bool) (z TI TO i1 i2 l1 l2:Addr) (xs ys:Array Value) (i:Nat) (h:Heap):Prop:=
 (∃f0 b,IsZ h z TI TO f0 (.bool b)∧(f0=.none∨∃T:Addr,f0=rawInt T))∧(∃a b,IsPair h TO a b)∧IsPair h TI (.ref i1) (.ref i2)∧Hf c1 i1 l1 xs i h∧Hf c2 i2 l2 ys i h
theorem Zst.keep {c1 c2:Bool} {z TI TO i1 i2 l1 l2:Addr} {xs ys:Array Value} {i:Nat} {h h':Heap} (x:Zst c1 c2 z TI TO i1 i2 l1 l2 xs ys i h) (k:∀c∈[z,TI,TO,i1,i2],∀o,h.get? c=some o→h'.get? c=some o) (k1:∀o,h.get? l1=some o→h'.get? l1=some o) (k2:∀o,h.get? l2=some o→h'.get? l2=some o):Zst c1 c2 z TI TO i1 i2 l1 l2 xs ys i h':=by
 obtain ⟨⟨f0,b,a1,a2⟩,⟨p,q,a3⟩,a4,a5,a6⟩:=x;exact ⟨⟨f0,b,k z (by simp) _ a1,a2⟩,⟨p,q,k TO (by simp) _ a3⟩,k TI (by simp) _ a4,a5.keep (k i1 (by simp)) k1,a6.keep (k i2 (by simp)) k2⟩
section
variable {prog:Program} {w:World} {A:Around} {E:Value→Shared→Prop} {s:Shared} {c1 c2:Bool} {z TI TO i1 i2 l1 l2:Addr} {xs ys:Array Value} {i:Nat}
theorem item {x y:Value} {Q:Value→Shared→Prop} (D:ZipApart z TI TO i1 i2 l1 l2) (hz:Zst c1 c2 z TI TO i1 i2 l1 l2 xs ys i s.heap) (hx:xs[i]?=some x) (hy:ys[i]?=some y)
  (hQ:∀h',Zst c1 c2 z TI TO i1 i2 l1 l2 xs ys (i+1) h'→IsPair h' s.heap.objs.size x y→h'.objs.size=s.heap.objs.size+1→(∀c o,c≠z→c≠TO→c≠i1→c≠i2→s.heap.get? c=some o→h'.get? c=some o)→Q (.ref s.heap.objs.size) { s with heap:=h' }):
  wpAny (model prog w) A (Builtin.«zip.__next__» ⟨[.ref z],[]⟩) (λfin s'=>∃v,fin=.done (.ret v)∧Q v s') E s:=by
 obtain ⟨⟨f0,b,z0,hf⟩,⟨p,q,hTO⟩,hTI,h1,h2⟩:=hz;show wpAny _ _ (field (.ref z) 2 >>=_) _ _ _
 refine wpAny_bind (wpAny_field z0 rfl (x:=.bool false) rfl ?_);show wpAny _ _ (field (.ref z) 3 >>=_) _ _ _
 refine wpAny_bind (wpAny_field z0 rfl (x:=.ref TI) rfl ?_);refine wpAny_bind (wpAny_seqItems hTI rfl ?_);show wpAny _ _ (Builtin.SmallTypes.ownedTupleIsFree (.ref z) >>=_) _ _ _
 refine wpAny_bind (free z0 hf λr h₁ b1 z1 s1=>?_);have k1:∀c o,c≠z→s.heap.get? c=some o→h₁.get? c=some o:=λc o n e=>s1.extBut _ _ n e;have H1:=h1.keep (λo e=>k1 _ o D.i1z e) λo e=>k1 _ o D.l1z e;have H2:=h2.keep (λo e=>k1 _ o D.i2z e) λo e=>k1 _ o D.l2z e;cases r with
 | false=>
  simp only[abb,if_false];refine wpAny_bind ?_;rw[←aef];simp only[ada,adh];refine wpAny_bind (wpAny_bind (wpAny_holding ?_));show wpAny _ _ (Builtin.SmallTypes.nextOf (.ref i1) >>=_) _ _ _
  refine wpAny_bind (H1.next (s:={ s with heap:=h₁ }) D.l1i1 hx λh₂ H1' s2=>wpAny_pure (wpAny_pure ?_));have s2:Heap.SameBut i1 h₁ h₂:=s2;have H2':=H2.keep (λo e=>s2.extBut _ _ D.i12.symm e) λo e=>s2.extBut _ _ D.l2i1 e;refine wpAny_bind (wpAny_bind (wpAny_holding ?_));show wpAny _ _ (Builtin.SmallTypes.nextOf (.ref i2) >>=_) _ _ _
  refine wpAny_bind (H2'.next (s:={ s with heap:=h₂ }) D.l2i2 hy λh₃ H2'' s3=>wpAny_pure (wpAny_pure (wpAny_pure ?_)));have s3:Heap.SameBut i2 h₂ h₃:=s3;refine wpAny_bind (wpAny_newTuple (hsz:=by show (2:Nat)≤sizeLine;decide) ?_);have sz:h₃.objs.size=s.heap.objs.size:=by rw[s3.1,s2.1,s1.1]
  have up:∀c o,c≠z→c≠i1→c≠i2→s.heap.get? c=some o→(h₃.push { cls:=.type "tuple",data:=.seq #[x,y] }).get? c=some o:=λc o n1 n2 n3 e=>Heap.get?_push_of_some _ (s3.extBut _ _ n3 (s2.extBut _ _ n2 (s1.extBut _ _ n1 e)));refine wpAny_pure ⟨_,rfl,?_⟩;rw[sz];refine hQ _ ⟨⟨f0,b1,Heap.get?_push_of_some _ (s3.extBut _ _ D.i2z.symm (s2.extBut _ _ D.i1z.symm z1)),hf⟩,⟨p,q,up _ _ D.TOz D.TOi1 D.TOi2 hTO⟩,up _ _ D.TIz D.TIi1 D.TIi2 hTI,?_,H2''.keep (λo e=>Heap.get?_push_of_some _ e) λo e=>Heap.get?_push_of_some _ e⟩ ?_ (by rw[Heap.size_push,sz]) λc o n1 _ n3 n4 e=>up c o n1 n3 n4 e
  ·exact H1'.keep (λo e=>Heap.get?_push_of_some _ (s3.extBut _ _ D.i12 e)) λo e=>Heap.get?_push_of_some _ (s3.extBut _ _ D.l1i2 e)
  ·rw[←sz];exact Heap.get?_push_size _ rfl
 | true=>
  simp only[if_true];refine wpAny_bind (wpAny_rule ?_);refine wpAny_bind (wpAny_field z1 rfl (x:=.ref TO) rfl ?_);refine wpAny_bind (wpAny_setField_rec z1 (by simp) λh₂ z2 s2=>?_);replace z2:IsZ h₂ z TI TO .ellipsis (.bool b1):=z2
  have s2:Heap.SameBut z h₁ h₂:=s2;refine wpAny_bind ?_;simp only[aeq,aew,ada,adh];have H1a:=H1.keep (λo e=>s2.extBut _ _ D.i1z e) λo e=>s2.extBut _ _ D.l1z e;have H2a:=H2.keep (λo e=>s2.extBut _ _ D.i2z e) λo e=>s2.extBut _ _ D.l2z e;refine wpAny_bind (wpAny_bind (wpAny_onRaise ?_));show wpAny _ _ (Builtin.SmallTypes.nextOf (.ref i1) >>=_) _ _ _
  refine wpAny_bind (H1a.next (s:={ s with heap:=h₂ }) D.l1i1 hx λh₃ H1b s3=>wpAny_pure ?_);have s3:Heap.SameBut i1 h₂ h₃:=s3;have o3:IsPair h₃ TO p q:=s3.extBut _ _ D.TOi1 (s2.extBut _ _ D.TOz (k1 _ _ D.TOz hTO));refine wpAny_bind (wpAny_seqItems o3 rfl ?_);refine wpAny_bind (wpAny_updateSeq_pair o3 λh₄ o4 s4=>?_);replace o4:IsPair h₄ TO x q:=o4
  have s4:Heap.SameBut TO h₃ h₄:=s4;refine wpAny_bind (wpAny_letGo (wpAny_pure ?_));have H2b:=H2a.keep (λo e=>s4.extBut _ _ D.TOi2.symm (s3.extBut _ _ D.i12.symm e)) λo e=>s4.extBut _ _ D.l2TO (s3.extBut _ _ D.l2i1 e);refine wpAny_bind (wpAny_bind (wpAny_onRaise ?_));show wpAny _ _ (Builtin.SmallTypes.nextOf (.ref i2) >>=_) _ _ _
  refine wpAny_bind (H2b.next (s:={ s with heap:=h₄ }) D.l2i2 hy λh₅ H2c s5=>wpAny_pure ?_);have s5:Heap.SameBut i2 h₄ h₅:=s5;have o5:IsPair h₅ TO x q:=s5.extBut _ _ D.TOi2 o4;refine wpAny_bind (wpAny_seqItems o5 rfl ?_);refine wpAny_bind (wpAny_updateSeq_pair o5 λh₆ o6 s6=>?_);replace o6:IsPair h₆ TO x y:=o6
  have s6:Heap.SameBut TO h₅ h₆:=s6;refine wpAny_bind (wpAny_letGo (wpAny_pure (wpAny_pure ?_)));refine wpAny_bind (wpAny_seqItems o6 rfl ?_);refine wpAny_bind (wpAny_newTuple ?_);have sz:h₆.objs.size=s.heap.objs.size:=by rw[s6.1,s5.1,s4.1,s3.1,s2.1,s1.1]
  have z6:IsZ h₆ z TI TO .ellipsis (.bool b1):=s6.extBut _ _ D.TOz.symm (s5.extBut _ _ D.i2z.symm (s4.extBut _ _ D.TOz.symm (s3.extBut _ _ D.i1z.symm z2)));have up:∀c o,c≠z→c≠TO→c≠i1→c≠i2→s.heap.get? c=some o→h₆.get? c=some o:=λc o n1 n2 n3 n4 e=>s6.extBut _ _ n2 (s5.extBut _ _ n4 (s4.extBut _ _ n2 (s3.extBut _ _ n3 (s2.extBut _ _ n1 (k1 _ _ n1 e)))));have H1c:=H1b.keep (λo e=>s6.extBut _ _ D.TOi1.symm (s5.extBut _ _ D.i12 (s4.extBut _ _ D.TOi1.symm e))) λo e=>s6.extBut _ _ D.l1TO (s5.extBut _ _ D.l1i2 (s4.extBut _ _ D.l1TO e));have H2d:=H2c.keep (λo e=>s6.extBut _ _ D.TOi2.symm e) λo e=>s6.extBut _ _ D.l2TO e;have zl:z < h₆.objs.size:=Heap.lt_size z6;show wpAny _ _ (Builtin.SmallTypes.ownedTupleHandOut (.ref z) (.ref h₆.objs.size) >>=_) _ _ _
  refine wpAny_bind ?_;unfold Builtin.SmallTypes.ownedTupleHandOut;have z7:IsZ (h₆.push { cls:=.type "tuple",data:=.seq #[x,y] }) z TI TO .ellipsis (.bool b1):=Heap.get?_push_of_some _ z6;refine wpAny_bind (wpAny_setField_rec z7 (by simp) λh₈ z8 s8=>?_);replace z8:IsZ h₈ z TI TO (rawInt h₆.objs.size) (.bool b1):=z8
  refine wpAny_setField_rec z8 (by simp) λh₉ z9 s9=>?_;replace z9:IsZ h₉ z TI TO (rawInt h₆.objs.size) (.bool false):=z9
  have u9:∀c o,c≠z→h₆.get? c=some o→h₉.get? c=some o:=λc o n e=>s9.extBut _ _ n (s8.extBut _ _ n (Heap.get?_push_of_some _ e));have t9:IsPair h₉ h₆.objs.size x y:=s9.extBut _ _ (ab9 zl) (s8.extBut _ _ (ab9 zl) (Heap.get?_push_size _ rfl));have n9:h₉.objs.size=h₆.objs.size+1:=by rw[s9.1,s8.1,Heap.size_push]
  rw[sz] at z9 t9 n9;refine wpAny_pure ⟨_,rfl,?_⟩;show Q (.ref h₆.objs.size) _
  rw[sz];exact hQ h₉ ⟨⟨_,false,z9,.inr ⟨_,rfl⟩⟩,⟨x,y,u9 _ _ D.TOz o6⟩,u9 _ _ D.TIz (up _ _ D.TIz D.TITO D.TIi1 D.TIi2 hTI),H1c.keep (λo e=>u9 _ o D.i1z e) λo e=>u9 _ o D.l1z e,H2d.keep (λo e=>u9 _ o D.i2z e) λo e=>u9 _ o D.l2z e⟩ t9 n9 λc o n1 n2 n3 n4 e=>u9 c o n1 (up c o n1 n2 n3 n4 e)
theorem fin {Q:Fin→Shared→Prop} (hh:A.handled=none) (D:ZipApart z TI TO i1 i2 l1 l2) (hz:Zst c1 c2 z TI TO i1 i2 l1 l2 xs ys i s.heap) (hx:xs[i]?=none)
  (hE:∀h' e,(∀c o,c≠z→c≠TO→c≠i1→c≠i2→s.heap.get? c=some o→h'.get? c=some o)→(∃o,h'.get? e=some o∧o.cls=.type "StopIteration")→E (.ref e) { s with heap:=h' }):
  wpAny (model prog w) A (Builtin.«zip.__next__» ⟨[.ref z],[]⟩) Q E s:=by
 obtain ⟨⟨f0,b,z0,hf⟩,⟨p,q,hTO⟩,hTI,h1,h2⟩:=hz;show wpAny _ _ (field (.ref z) 2 >>=_) _ _ _
 refine wpAny_bind (wpAny_field z0 rfl (x:=.bool false) rfl ?_);show wpAny _ _ (field (.ref z) 3 >>=_) _ _ _
 refine wpAny_bind (wpAny_field z0 rfl (x:=.ref TI) rfl ?_);refine wpAny_bind (wpAny_seqItems hTI rfl ?_);show wpAny _ _ (Builtin.SmallTypes.ownedTupleIsFree (.ref z) >>=_) _ _ _
 refine wpAny_bind (free z0 hf λr h₁ b1 z1 s1=>?_);have k1:∀c o,c≠z→s.heap.get? c=some o→h₁.get? c=some o:=λc o n e=>s1.extBut _ _ n e;have H1:=h1.keep (λo e=>k1 _ o D.i1z e) λo e=>k1 _ o D.l1z e;cases r with
 | false=>
  simp only[abb,if_false];refine wpAny_bind ?_;rw[←aef];simp only[ada,adh];refine wpAny_bind (wpAny_bind (wpAny_holding ?_));show wpAny _ _ (Builtin.SmallTypes.nextOf (.ref i1) >>=_) _ _ _
  exact wpAny_bind (H1.stop (s:={ s with heap:=h₁ }) hh hx λh₂ e s2 he=>hE h₂ e (λc o n1 _ n3 _ g=>s2 _ _ n3 (k1 _ _ n1 g)) he)
 | true=>
  simp only[if_true];refine wpAny_bind (wpAny_rule ?_);refine wpAny_bind (wpAny_field z1 rfl (x:=.ref TO) rfl ?_);refine wpAny_bind (wpAny_setField_rec z1 (by simp) λh₂ z2 s2=>?_);replace z2:IsZ h₂ z TI TO .ellipsis (.bool b1):=z2
  have s2:Heap.SameBut z h₁ h₂:=s2;refine wpAny_bind ?_;simp only[aeq,aew,ada,adh];have H1a:=H1.keep (λo e=>s2.extBut _ _ D.i1z e) λo e=>s2.extBut _ _ D.l1z e;refine wpAny_bind (wpAny_bind (wpAny_onRaise ?_));show wpAny _ _ (Builtin.SmallTypes.nextOf (.ref i1) >>=_) _ _ _
  refine wpAny_bind (H1a.stop (s:={ s with heap:=h₂ }) hh hx λh₃ e s3 he=>?_);obtain ⟨oe,hoe,hce⟩:=he;have z3:IsZ h₃ z TI TO .ellipsis (.bool b1):=s3 _ _ D.i1z.symm z2;have hez:e≠z:=λx=>by subst x;rw[z3] at hoe;cases hoe;simp at hce
  exact wpAny_setField_rec z3 (by simp) λh₄ _ s4=>hE h₄ e (λc o n1 _ n3 _ g=>s4.extBut _ _ n1 (s3 _ _ n3 (s2.extBut _ _ n1 (k1 _ _ n1 g)))) ⟨oe,s4.extBut _ _ hez hoe,hce⟩
theorem K4 {x y:Value} {Q:Option Value→Shared→Prop} (D:ZipApart z TI TO i1 i2 l1 l2) (hz:Zst c1 c2 z TI TO i1 i2 l1 l2 xs ys i s.heap) (hx:xs[i]?=some x) (hy:ys[i]?=some y)
  (hQ:∀h',Zst c1 c2 z TI TO i1 i2 l1 l2 xs ys (i+1) h'→IsPair h' s.heap.objs.size x y→h'.objs.size=s.heap.objs.size+1→(∀c o,c≠z→c≠TO→c≠i1→c≠i2→s.heap.get? c=some o→h'.get? c=some o)→Q (some (.ref s.heap.objs.size)) { s with heap:=h' }):
  wpAny (model prog w) A (pyNext (.ref z)) Q E s:=by
 have hT:s.TypeIs (.ref z) "zip":=by obtain ⟨⟨f0,b,z0,_⟩,_⟩:=hz;exact ⟨_,z0,rfl⟩
 unfold pyNext;exact wpAny_bind (wpAny_attempt (wpAny_callSpecial?_slot (name:=Str.ofString "__next__") hT F.slot_zip_next (wpAny_call_entry F.slot_zip_next hT F.entry_zip_next (item D hz hx hy λh' a b c d=>wpAny_pure (hQ h' a b c d)) (F.args_zip_next_1 _))))
theorem pyFin {Q:Option Value→Shared→Prop} (hh:A.handled=none) (D:ZipApart z TI TO i1 i2 l1 l2) (hz:Zst c1 c2 z TI TO i1 i2 l1 l2 xs ys i s.heap) (hx:xs[i]?=none)
  (hQ:∀h',(∀c o,c≠z→c≠TO→c≠i1→c≠i2→s.heap.get? c=some o→h'.get? c=some o)→Q none { s with heap:=h' }):wpAny (model prog w) A (pyNext (.ref z)) Q E s:=by
 have hT:s.TypeIs (.ref z) "zip":=by obtain ⟨⟨f0,b,z0,_⟩,_⟩:=hz;exact ⟨_,z0,rfl⟩
 unfold pyNext;refine wpAny_bind (wpAny_attempt (wpAny_callSpecial?_slot (name:=Str.ofString "__next__") hT F.slot_zip_next (wpAny_call_entry F.slot_zip_next hT F.entry_zip_next (fin (by first | exact hh | simp[hh]) D hz hx λh' e hk he=>?_) (F.args_zip_next_1 _))));obtain ⟨o,ho,hc⟩:=he;refine wpAny_bind (wpAny_isInstance (T:="StopIteration") (b:=true) ⟨o,ho,hc⟩ isSubtype_stop ?_);exact wpAny_pure (hQ _ hk)
theorem J7 {Q:Value→Shared→Prop} (hz:Zst c1 c2 z TI TO i1 i2 l1 l2 xs ys i s.heap) (h:Q (.ref z) s):wpAny (model prog w) A (pyIter (.ref z)) Q E s:=by
 have hT:s.TypeIs (.ref z) "zip":=by obtain ⟨⟨f0,b,z0,_⟩,_⟩:=hz;exact ⟨_,z0,rfl⟩
 refine wpAny_pyIter_slot hT F.slot_zip_iter (wpAny_call_entry F.slot_zip_iter hT F.entry_zip_iter ?_ (F.args_zip_iter_1 _));show wpAny _ _ (ret (.ref z)) _ _ s
 exact wpAny_pure ⟨_,rfl,"zip",_,hT,F.slot_zip_next.lookup,h⟩
end
theorem new_tl (l1 l2:Addr) (xs ys:Array Value):
  Meets (Builtin.«zip.__new__» ⟨[.type "zip",.ref l1,.ref l2],[]⟩) (λ_ R s=>s.heap.IsTuple l1 xs∧s.heap.IsList l2 ys∧
   R (.ok (.ret (.ref (s.heap.objs.size+4)))) { s with heap:=((((s.heap.push { cls:=.type "tuple_iterator",data:=.fields #[.ref l1,.int 0 0] }).push { cls:=.type "list_iterator",data:=.fields #[.ref l2,.int 0 0] }).push { cls:=.type "tuple",data:=.seq #[.ref s.heap.objs.size,.ref (s.heap.objs.size+1)] }).push { cls:=.type "tuple",data:=.seq #[.none,.none] }).push { cls:=.type "zip",data:=.fields #[.none,.bool false,.bool false,.ref (s.heap.objs.size+2),.ref (s.heap.objs.size+3)] } }):=
 .of_wp λprog w A R s h=>by
  obtain ⟨hp,g,d,tk,os⟩:=s;obtain ⟨hl1,hl2,h⟩:=h;have hsub:=sub_zip;have hL1:Heap.IsTuple (Shared.heap ⟨hp,g,d,tk,os⟩) l1 xs:=hl1;have hL2:Heap.IsList (Shared.heap ⟨hp.push { cls:=.type "tuple_iterator",data:=.fields #[.ref l1,.int 0 0] },g,d,tk,os⟩) l2 ys:=Heap.IsList.push hl2 _;simp only[←Heap.size_push] at h;wp_walk using wpAny_pyIter_tuple hL1,wpAny_pyIter_list hL2
  simp only[Heap.size_push] at h ⊢;exact ⟨_,rfl,h⟩
section
variable {prog:Program} {w:World} {A:Around} {E:Value→Shared→Prop} {s:Shared}
theorem Ov {l1 l2:Addr} {xs ys:Array Value} {Q:Value→Shared→Prop} (hl1:s.heap.IsTuple l1 xs) (hl2:s.heap.IsList l2 ys)
  (h:∀h',Zst true false (s.heap.objs.size+4) (s.heap.objs.size+2) (s.heap.objs.size+3) s.heap.objs.size (s.heap.objs.size+1) l1 l2 xs ys 0 h'→h'.objs.size=s.heap.objs.size+5→
   (∀c o,s.heap.get? c=some o→h'.get? c=some o)→Q (.ref (s.heap.objs.size+4)) { s with heap:=h' }):
  wpAny (model prog w) A (call (.type "zip") [.ref l1,.ref l2]) Q E s:=by
 refine callType_new F.called_zip (by decide) (F.typeCall_zip_2 _ _) (F.newCall_zip_2 _ _) (λobj=>F.args_object_init_3 obj _ _) F.entry_zip_new (new_tl l1 l2 xs ys) ⟨hl1,hl2,?_⟩;generalize hn:s.heap.objs.size=n at h ⊢;have e1:(s.heap.push { cls:=.type "tuple_iterator",data:=.fields #[.ref l1,.int 0 0] }).get? n=some { cls:=.type "tuple_iterator",data:=.fields #[.ref l1,.int 0 0] }:=by rw[←hn];exact Heap.get?_push_size _ rfl
 have n1:(s.heap.push { cls:=.type "tuple_iterator",data:=.fields #[.ref l1,.int 0 0] }).objs.size=n+1:=by rw[Heap.size_push,hn]
 have k1:∀c o,s.heap.get? c=some o→(s.heap.push { cls:=.type "tuple_iterator",data:=.fields #[.ref l1,.int 0 0] }).get? c=some o:=λc o e=>Heap.get?_push_of_some _ e;generalize s.heap.push { cls:=.type "tuple_iterator",data:=.fields #[.ref l1,.int 0 0] }=h1 at e1 n1 k1 ⊢;have e2:(h1.push { cls:=.type "list_iterator",data:=.fields #[.ref l2,.int 0 0] }).get? (n+1)=some { cls:=.type "list_iterator",data:=.fields #[.ref l2,.int 0 0] }:=by rw[←n1];exact Heap.get?_push_size _ rfl
 have n2:(h1.push { cls:=.type "list_iterator",data:=.fields #[.ref l2,.int 0 0] }).objs.size=n+2:=by rw[Heap.size_push,n1]
 have k2:∀c o,h1.get? c=some o→(h1.push { cls:=.type "list_iterator",data:=.fields #[.ref l2,.int 0 0] }).get? c=some o:=λc o e=>Heap.get?_push_of_some _ e;generalize h1.push { cls:=.type "list_iterator",data:=.fields #[.ref l2,.int 0 0] }=h2 at e2 n2 k2 ⊢;have e3:(h2.push { cls:=.type "tuple",data:=.seq #[.ref n,.ref (n+1)] }).get? (n+2)=some { cls:=.type "tuple",data:=.seq #[.ref n,.ref (n+1)] }:=by rw[←n2];exact Heap.get?_push_size _ rfl
 have n3:(h2.push { cls:=.type "tuple",data:=.seq #[.ref n,.ref (n+1)] }).objs.size=n+3:=by rw[Heap.size_push,n2]
 have k3:∀c o,h2.get? c=some o→(h2.push { cls:=.type "tuple",data:=.seq #[.ref n,.ref (n+1)] }).get? c=some o:=λc o e=>Heap.get?_push_of_some _ e;generalize h2.push { cls:=.type "tuple",data:=.seq #[.ref n,.ref (n+1)] }=h3 at e3 n3 k3 ⊢;have e4:(h3.push { cls:=.type "tuple",data:=.seq #[.none,.none] }).get? (n+3)=some { cls:=.type "tuple",data:=.seq #[.none,.none] }:=by rw[←n3];exact Heap.get?_push_size _ rfl
 have n4:(h3.push { cls:=.type "tuple",data:=.seq #[.none,.none] }).objs.size=n+4:=by rw[Heap.size_push,n3]
 have k4:∀c o,h3.get? c=some o→(h3.push { cls:=.type "tuple",data:=.seq #[.none,.none] }).get? c=some o:=λc o e=>Heap.get?_push_of_some _ e;generalize h3.push { cls:=.type "tuple",data:=.seq #[.none,.none] }=h4 at e4 n4 k4 ⊢;have e5:(h4.push { cls:=.type "zip",data:=.fields #[.none,.bool false,.bool false,.ref (n+2),.ref (n+3)] }).get? (n+4)=some { cls:=.type "zip",data:=.fields #[.none,.bool false,.bool false,.ref (n+2),.ref (n+3)] }:=by rw[←n4];exact Heap.get?_push_size _ rfl
 have n5:(h4.push { cls:=.type "zip",data:=.fields #[.none,.bool false,.bool false,.ref (n+2),.ref (n+3)] }).objs.size=n+5:=by rw[Heap.size_push,n4]
 have k5:∀c o,h4.get? c=some o→(h4.push { cls:=.type "zip",data:=.fields #[.none,.bool false,.bool false,.ref (n+2),.ref (n+3)] }).get? c=some o:=λc o e=>Heap.get?_push_of_some _ e;generalize h4.push { cls:=.type "zip",data:=.fields #[.none,.bool false,.bool false,.ref (n+2),.ref (n+3)] }=h5 at e5 n5 k5 ⊢;have up:∀c o,s.heap.get? c=some o→h5.get? c=some o:=λc o e=>k5 _ _ (k4 _ _ (k3 _ _ (k2 _ _ (k1 _ _ e))));obtain ⟨o1,g1,r1⟩:=hl1;obtain ⟨o2,g2,r2⟩:=hl2;exact ⟨⟨_,e5,rfl⟩,h _ ⟨⟨.none,false,e5,.inl rfl⟩,⟨_,_,k5 _ _ e4⟩,k5 _ _ (k4 _ _ e3),⟨⟨_,k5 _ _ (k4 _ _ (k3 _ _ (k2 _ _ e1))),rfl,rfl⟩,⟨o1,up _ _ g1,r1⟩⟩,⟨⟨_,k5 _ _ (k4 _ _ (k3 _ _ e2)),rfl,rfl⟩,⟨o2,up _ _ g2,r2⟩⟩⟩ n5 up⟩
theorem Oz {l1 l2:Addr} {xs ys:Array Value} {Q:Value→Shared→Prop} (hl1:s.heap.IsList l1 xs) (hl2:s.heap.IsList l2 ys)
  (h:∀h',Zst false false (s.heap.objs.size+4) (s.heap.objs.size+2) (s.heap.objs.size+3) s.heap.objs.size (s.heap.objs.size+1) l1 l2 xs ys 0 h'→h'.objs.size=s.heap.objs.size+5→
   (∀c o,s.heap.get? c=some o→h'.get? c=some o)→Q (.ref (s.heap.objs.size+4)) { s with heap:=h' }):
  wpAny (model prog w) A (call (.type "zip") [.ref l1,.ref l2]) Q E s:=
 call_zip_2 hl1 hl2 λh' a1 a2 a3 a4 a5 a6 keep=>h h' ⟨⟨.none,false,a1,.inl rfl⟩,⟨_,_,a3⟩,a2,⟨a4,hl1.at λo e=>keep _ o e⟩,⟨a5,hl2.at λo e=>keep _ o e⟩⟩ a6 keep
end
structure Mk (xs ys:Array Value) (lo:Addr) (h:Heap) (as:List Addr):Prop where
 nd:as.Nodup
 up:∀a∈as,lo < a
 at':∀(j:Nat) (a:Addr),as[j]?=some a→∃x y,xs[j]?=some x∧ys[j]?=some y∧IsPair h a x y
section
variable {prog:Program} {w:World} {A:Around} {s:Shared} {R:Result→Shared→Prop} {c1 c2:Bool} {z TI TO i1 i2 l1 l2 S:Addr} {xs ys:Array Value}
theorem loop (hh:A.handled=none) (D:ZipApart z TI TO i1 i2 l1 l2) (hS:S∉[z,TI,TO,i1,i2,l1,l2]) (lo:Addr) (hlo:z≤lo∧TO≤lo∧i1≤lo∧i2≤lo∧S≤lo) (hn:xs.size=ys.size) (hz:xs.size≤sizeLine) (res:Value) {h₁:Heap}
  (hR:∀h' tk acc c as,(∀b o,b∉[S,z,TO,i1,i2]→h₁.get? b=some o→h'.get? b=some o)→h'.get? S=some { cls:=.type "list",dict:=none,data:=.seq acc c,slots:=#[] }→as.length=xs.size→Mk xs ys lo h' as→
   acc.toList=as.map Value.ref→R (.ok (.ret res)) { s with heap:=h',toks:=tk }):
  ∀(k i:Nat) (h:Heap) (tk c:Nat) (acc:Array Value) (as:List Addr),xs.size - i=k→i≤xs.size→Zst c1 c2 z TI TO i1 i2 l1 l2 xs ys i h→(∀b o,b∉[S,z,TO,i1,i2]→h₁.get? b=some o→h.get? b=some o)→
   h.get? S=some { cls:=.type "list",dict:=none,data:=.seq acc c,slots:=#[] }→acc.toList=as.map Value.ref→as.length=i→Mk xs ys lo h as→lo < h.objs.size→
   codeAny (model prog w) A (.builtin "list.extend.loop" ⟨[.ref S,.ref z,res],[]⟩) R { s with heap:=h,toks:=tk }:=by
 simp only[aan,aa9,or_false,not_or] at hS;obtain ⟨Sz,STI,STO,S1,S2,Sl1,Sl2⟩:=hS;intro k;induction k with
 | zero=>
  intro i h tk c acc as hk hi hst hkeep hSl hacc hal hG hIs;refine codeAny_builtin PySem.F.entry_extend_loop ?_;rw[Around.under_plainId PySem.F.plain_extend_loop _];show wpAny _ A.in1 (pyNext (.ref z) >>=_) _ _ _
  refine wpAny_bind (pyFin (s:={ s with heap:=h,toks:=tk }) (A:=A.in1) hh D hst (ae3 (by omega)) λh' he=>?_);refine wpAny_pure (hR h' tk acc c as (λb o hb e=>?_) (he S _ Sz STO S1 S2 hSl) (by omega) ⟨hG.nd,hG.up,λj a hj=>?_⟩ hacc)
  ·have hb':=hb;simp only[aan,aa9,or_false,not_or] at hb';exact he b o hb'.2.1 hb'.2.2.1 hb'.2.2.2.1 hb'.2.2.2.2 (hkeep b o hb e)
  ·obtain ⟨x,y,g1,g2,g3⟩:=hG.at' j a hj;have u:=hG.up a (aah hj);have ne:∀{c:Addr},c≤lo→a≠c:=λq=>ab9 (acu q u);exact ⟨x,y,g1,g2,he a _ (ne hlo.1) (ne hlo.2.1) (ne hlo.2.2.1) (ne hlo.2.2.2.1) g3⟩
 | succ k ih=>
  intro i h tk c acc as hk hi hst hkeep hSl hacc hal hG hIs;have hlt:i < xs.size:=by omega
  have hsz:acc.size=i:=by rw[←abx,hacc,aa0,hal]
  refine codeAny_builtin PySem.F.entry_extend_loop ?_;rw[Around.under_plainId PySem.F.plain_extend_loop _];show wpAny _ A.in1 (pyNext (.ref z) >>=_) _ _ _
  refine wpAny_bind (K4 (s:={ s with heap:=h,toks:=tk }) D hst (abk hlt) (abk (by omega)) λh' hst' ht hz' hkp=>?_);dsimp only at ht hz' hkp ⊢;have hS':=hkp S _ Sz STO S1 S2 hSl;have up:∀b o,b≠S→h'.get? b=some o→(h'.update S (Obj.mapSeq (·.push (Value.ref h.objs.size)))).get? b=some o:=λb o hb e=>(Heap.get?_update_other _ _ (Ne.symm hb)).trans e;have hSs:S < h.objs.size:=Heap.lt_size hSl;show wpAny _ A.in1 (updateSeq S (·.push (Value.ref h.objs.size)) >>=_) _ _ _
  refine wpAny_bind ?_;refine wpAny_updateSeq hS' rfl (wpAny_pure ⟨plainId_quiet PySem.F.plain_extend_loop _,ih (i+1) _ tk _ (acc.push (Value.ref h.objs.size)) (as++[h.objs.size]) (by omega) hlt
   (hst'.keep (λb hb o e=>up b o (λx=>by subst x;simp only[aan,aa9,or_false] at hb;rcases hb with q | q | q | q | q <;> exact absurd q (by assumption)) e) (λo e=>up _ o (Ne.symm Sl1) e) λo e=>up _ o (Ne.symm Sl2) e)
   (λb o hb e=>?_) (Heap.get?_update_self _ hS' rfl) (by rw[Array.toList_push,hacc,aa8];rfl) (by rw[aa2,hal];rfl) ⟨?_,?_,?_⟩ ?_⟩) (by rw[hsz];omega) (by show (acc.push (Value.ref h.objs.size)).size≤sizeLine+1;rw[Array.size_push,hsz];omega)
  ·have hb':=hb;simp only[aan,aa9,or_false,not_or] at hb';exact up b o hb'.1 (hkp b o hb'.2.1 hb'.2.2.1 hb'.2.2.2.1 hb'.2.2.2.2 (hkeep b o hb e))
  ·refine List.nodup_append.mpr ⟨hG.nd,(by simp),λa ha b hb=>?_⟩;rw[List.mem_singleton.mp hb];obtain ⟨j,hj⟩:=List.mem_iff_getElem?.mp ha;obtain ⟨_,_,_,_,e3⟩:=hG.at' j a hj;exact aao (Heap.lt_size e3)
  ·intro a ha;rcases List.mem_append.mp ha with ha | ha
   ·exact hG.up a ha
   ·rw[List.mem_singleton.mp ha];exact hIs
  ·intro j b hj;rcases Nat.lt_trichotomy j as.length with g | g | g
   ·rw[aaf g] at hj;obtain ⟨x,y,e1,e2,e3⟩:=hG.at' j b hj;have u:=hG.up b (aah hj);have ne:∀{c:Addr},c≤lo→b≠c:=λq=>ab9 (acu q u);exact ⟨x,y,e1,e2,up b _ (ne hlo.2.2.2.2) (hkp b _ (ne hlo.1) (ne hlo.2.1) (ne hlo.2.2.1) (ne hlo.2.2.2.1) e3)⟩
   ·subst g;have hb:h.objs.size=b:=by simpa using hj
    subst hb;exact ⟨_,_,by rw[hal];exact abk hlt,by rw[hal];exact abk (by omega),up _ _ (ab9 hSs) ht⟩
   ·have hnone:(as++[h.objs.size])[j]?=none:=abd (by rw[aa2,aaa];omega);rw[hnone] at hj;cases hj
  ·rw[Heap.size_update,hz'];exact aci hIs
end
theorem E1:typeLookup (.type "zip") "__len__"=pure none:=by rw[typeLookup_type,builtinLookup_eq_fast];kernel_rfl
theorem Pp:typeLookup (.type "zip") "__length_hint__"=pure none:=by rw[typeLookup_type,builtinLookup_eq_fast];kernel_rfl
section
variable {prog:Program} {w:World} {A:Around} {E:Value→Shared→Prop} {s:Shared} {c1 c2:Bool} {z TI TO i1 i2 l1 l2:Addr} {xs ys:Array Value}
theorem extend {R:Result→Shared→Prop} (hh:A.handled=none) (D:ZipApart z TI TO i1 i2 l1 l2) (hz:Zst c1 c2 z TI TO i1 i2 l1 l2 xs ys 0 s.heap) (S:Addr) (hS:S∉[z,TI,TO,i1,i2,l1,l2]) (lo:Addr) (hlo:z≤lo∧TO≤lo∧i1≤lo∧i2≤lo∧S≤lo) (hls:lo < s.heap.objs.size) (hn:xs.size=ys.size) (hsz:xs.size≤sizeLine) (res:Value) (c₀:Nat) (hSl:s.heap.get? S=some { cls:=.type "list",data:=.seq #[] c₀ })
  (hR:∀h' tk acc c as,(∀b o,b∉[S,z,TO,i1,i2]→s.heap.get? b=some o→h'.get? b=some o)→h'.get? S=some { cls:=.type "list",dict:=none,data:=.seq acc c,slots:=#[] }→as.length=xs.size→Mk xs ys lo h' as→
   acc.toList=as.map Value.ref→R (.ok (.ret res)) { s with heap:=h',toks:=tk }):
  wpAny (model prog w) A.in1 (Builtin.List.listExtendWith (.ref S) (.ref z) res)
   (λfin s'=>match fin with | .done f=>R (.ok f) s' | .again c'=>c'.quiet=true∧codeAny (model prog w) A c' R s') (λe s'=>R (.error e) s') s:=by
 have hT:s.TypeIs (.ref z) "zip":=by obtain ⟨⟨f0,b,z0,_⟩,_⟩:=hz;exact ⟨_,z0,rfl⟩
 have hSz:S≠z:=λe=>hS (by simp[e]);unfold Builtin.List.listExtendWith;refine wpAny_bind (wpAny_typeOf hT ?_);have h1:Builtin.List.listSameRef (.ref S) (.ref z)=false:=by simp[Builtin.List.listSameRef,hSz]
 have h2:(Value.type "zip"==Value.type "list")=false:=by decide
 have h3:(Value.type "zip"==Value.type "tuple")=false:=by decide
 simp only[h1,h2,h3,adm,abb,if_false];refine wpAny_bind (J7 hz ?_);refine wpAny_bind (wpAny_holding ?_);unfold Builtin.List.listLengthHint;refine wpAny_bind (wpAny_specialOf hT E1 ?_);show wpAny _ A.in1 (specialOf (Value.ref z) (Str.ofString "__length_hint__") >>=_) _ _ _
 refine wpAny_bind (wpAny_specialOf hT Pp ?_);refine wpAny_pure ?_;show wpAny _ A.in1 (rule "list.extend.makes-room" >>=λ_=>Builtin.List.listTouch (.ref S) >>=λ_=>again (.builtin "list.extend.loop" ⟨[.ref S,.ref z,res],[]⟩)) _ _ _
 refine wpAny_bind (wpAny_rule ?_);refine wpAny_bind ?_;show wpAny _ A.in1 (updateSeq S (·.push .none) >>=λ_=>updateSeq S (·.pop)) _ _ _
 refine wpAny_bind (wpAny_updateSeq hSl rfl ?_);have hS₂:=Heap.get?_update_self (Obj.mapSeq (·.push Value.none)) hSl rfl;refine wpAny_updateSeq (hz:=by seq_fits) hS₂ rfl ?_;have hS₃:=Heap.get?_update_self (Obj.mapSeq (·.pop)) hS₂ rfl;have oth:∀b o,b≠S→s.heap.get? b=some o→((s.heap.update S (Obj.mapSeq (·.push Value.none))).update S (Obj.mapSeq (·.pop))).get? b=some o:=λb o hb e=>(Heap.get?_update_other _ _ (Ne.symm hb)).trans ((Heap.get?_update_other _ _ (Ne.symm hb)).trans e);have hS':=hS;simp only[aan,aa9,or_false,not_or] at hS';refine wpAny_pure ⟨plainId_quiet PySem.F.plain_extend_loop _,loop (s:=s) (h₁:=s.heap) hh D hS lo hlo hn hsz res hR xs.size 0 _ _ _ #[] [] (ack _) (aa6 _) (hz.keep (λb hb o e=>oth b o (λx=>?_) e) (λo e=>oth _ o (Ne.symm hS'.2.2.2.2.2.1) e) λo e=>oth _ o (Ne.symm hS'.2.2.2.2.2.2) e) (λb o hb e=>oth b o (λx=>hb (by simp[x])) e) hS₃ rfl rfl ⟨adf,(λ_ ha=>nomatch ha),(λj a hj=>by simp at hj)⟩ ?_⟩
 ·subst x;simp only[aan,aa9,or_false] at hb;rcases hb with q | q | q | q | q
  ·exact hS'.1 q
  ·exact hS'.2.1 q
  ·exact hS'.2.2.1 q
  ·exact hS'.2.2.2.1 q
  ·exact hS'.2.2.2.2.1 q
 ·rw[Heap.size_update,Heap.size_update];exact hls
theorem O8 {Q:Value→Shared→Prop} (hh:A.handled=none) (D:ZipApart z TI TO i1 i2 l1 l2) (hz:Zst c1 c2 z TI TO i1 i2 l1 l2 xs ys 0 s.heap) (hlt:∀b∈[z,TI,TO,i1,i2,l1,l2],b < s.heap.objs.size) (hn:xs.size=ys.size) (hsz:xs.size≤sizeLine)
  (hQ:∀h' tk acc c as,(∀b o,b∉[z,TO,i1,i2]→s.heap.get? b=some o→h'.get? b=some o)→h'.get? s.heap.objs.size=some { cls:=.type "list",dict:=none,data:=.seq acc c,slots:=#[] }→as.length=xs.size→Mk xs ys s.heap.objs.size h' as→
   acc.toList=as.map Value.ref→Q (.ref s.heap.objs.size) { s with heap:=h',toks:=tk }):
  wpAny (model prog w) A (call (.type "list") [.ref z]) Q E s:=by
 refine callType_codes (Q₁:=λobj s₁=>obj=.ref s.heap.objs.size∧s₁={ s with heap:=s.heap.push { cls:=.type "list",data:=.seq #[] } }) PySem.F.called_list (PySem.F.typeCall_list_1 _) PySem.F.entry_list_init
  (code_list_new _ ⟨rfl,rfl⟩) λobj s₁ h₁=>?_
 obtain ⟨rfl,rfl⟩:=h₁;have hS:(s.heap.push { cls:=.type "list",data:=.seq #[] }).get? s.heap.objs.size=some { cls:=.type "list",data:=.seq #[] }:=Heap.get?_push_size _ rfl;have hSf:s.heap.objs.size∉[z,TI,TO,i1,i2,l1,l2]:=λe=>abe _ (hlt _ e);have hz1:=hz.keep (h':=s.heap.push { cls:=.type "list",data:=.seq #[] }) (λb _ o e=>Heap.get?_push_of_some _ e) (λo e=>Heap.get?_push_of_some _ e) λo e=>Heap.get?_push_of_some _ e;refine ⟨⟨_,hS,rfl⟩,PySem.F.args_list_init_2 _ _,?_⟩;have z1:=hlt z (by simp);have z2:=hlt TO (by simp);have z3:=hlt i1 (by simp);have z4:=hlt i2 (by simp);show wpAny _ _ (do let old ←Builtin.List.listItems (.ref s.heap.objs.size);Builtin.List.listUpdate (.ref s.heap.objs.size) (λ_=>#[]);letGo old.toList.reverse;Builtin.List.listExtendWith (.ref s.heap.objs.size) (.ref z) .none) _ _ _
 refine wpAny_bind ?_;unfold Builtin.List.listItems;refine wpAny_bind (wpAny_seqItems hS rfl (wpAny_pure ?_));show wpAny _ _ (updateSeq s.heap.objs.size (λ_=>#[]) >>=λ_=>letGo (#[]:Array Value).toList.reverse >>=λ_=>Builtin.List.listExtendWith (.ref s.heap.objs.size) (.ref z) .none) _ _ _
 refine wpAny_bind (wpAny_updateSeq hS rfl ?_);have hS₂:=Heap.get?_update_self (Obj.mapSeq (λ_=>(#[]:Array Value))) hS rfl;have oth:∀b o,b≠s.heap.objs.size→(s.heap.push { cls:=.type "list",data:=.seq #[] }).get? b=some o→((s.heap.push { cls:=.type "list",data:=.seq #[] }).update s.heap.objs.size (Obj.mapSeq (λ_=>(#[]:Array Value)))).get? b=some o:=λb o hb e=>(Heap.get?_update_other _ _ (Ne.symm hb)).trans e;refine wpAny_bind (wpAny_letGo ?_);refine extend (A:=A.in1) hh D (hz1.keep (λb hb o e=>oth b o (aao (hlt b (by simp only[aan,aa9,or_false] at hb ⊢;rcases hb with q | q | q | q | q <;> simp[q]))) e) (λo e=>oth _ o (aao (hlt l1 (by simp))) e) λo e=>oth _ o (aao (hlt l2 (by simp))) e) _ hSf s.heap.objs.size ⟨abq z1,abq z2,abq z3,abq z4,aa3 _⟩ (by show _ < (Heap.update _ _ _).objs.size;rw[Heap.size_update,Heap.size_push];exact aer _) hn hsz .none _ hS₂ λh' tk acc c as hk hS' hl hG hacc=>?_;exact ⟨rfl,hQ h' tk acc c as (λb o hb e=>hk b o (λx=>by
  rcases List.mem_cons.mp x with q | q
  ·exact abe _ (q ▸ Heap.lt_size e)
  ·exact hb q) (oth b o (aao (Heap.lt_size e)) (Heap.get?_push_of_some _ e))) hS' hl hG hacc⟩
end
end L2.Zg
namespace L2
open PySem PySem.Spec PyProof.Rows Zd Zg
theorem Jv:bootBuiltins "zip"=some (.type "zip"):=by decide+kernel
def SqB (K:PySem.W.Frag):Bool→Hp→Addr→List V→Prop
 | true,H,a,xs=>SqT K H a xs
 | false,H,a,xs=>SqL K H a xs
def itB:Bool→Heap→Addr→Addr→Nat→Prop
 | true,h,it,l,i=>h.IsTupleIter it l i
 | false,h,it,l,i=>h.IsListIter it l i
theorem itB.keep {b:Bool} {h h':Heap} {it l:Addr} {i:Nat} (x:itB b h it l i) (k:∀o,h.get? it=some o→h'.get? it=some o):itB b h' it l i:=by
 cases b
 ·obtain ⟨o,e,r⟩:=x;exact ⟨o,k _ e,r⟩
 ·obtain ⟨o,e,r⟩:=x;exact ⟨o,k _ e,r⟩
theorem itB.obj {b:Bool} {h:Heap} {it l:Addr} {i:Nat} (x:itB b h it l i):∃o,h.get? it=some o∧∀v,o.data≠.cell v:=by
 cases b
 ·obtain ⟨o,e,_,d⟩:=x;exact ⟨o,e,λv z=>by rw[d] at z;cases z⟩
 ·obtain ⟨o,e,_,d⟩:=x;exact ⟨o,e,λv z=>by rw[d] at z;cases z⟩
theorem As {b:Bool} {it l:Addr} {xs:Array Value} {i:Nat} {h:Heap} (x:Hf b it l xs i h):itB b h it l i:=by
 cases b
 ·exact x.1
 ·exact x.1
def zpN (z TI TO i1 i2:Addr) (h:Heap):Prop:=(∃f0 b,IsZ h z TI TO f0 (.bool b)∧(f0=.none∨∃T:Addr,f0=rawInt T))∧(∃a b,IsPair h TO a b)∧IsPair h TI (.ref i1) (.ref i2)
section
variable {X:Cx} {pins:List (Addr×Obj)} {σ:St} {H:Hp} {s:Shared}
theorem Inv.sqB (I:Inv X pins σ H s) {b:Bool} {a:Addr} {xs:List V} (h:SqB X.K b H a xs):∃its:List Value,Vals xs its∧xs.length≤sizeLine∧a < s.heap.objs.size∧(∀it i,itB b s.heap it a i→Hf b it a its.toArray i s.heap)∧(b=true→s.heap.IsTuple a its.toArray)∧(b=false→s.heap.IsList a its.toArray):=by
 cases b
 ·obtain ⟨its,r,p,z⟩:=I.list h;refine ⟨its,r,z,?_,λit i q=>⟨q,p.isList⟩,(λe=>nomatch e),λ_=>p.isList⟩;obtain ⟨o,e,_⟩:=p.isList;exact Heap.lt_size e
 ·obtain ⟨its,r,p,z⟩:=I.tuple h;refine ⟨its,r,z,?_,λit i q=>⟨q,p⟩,(λ_=>p),(λe=>nomatch e)⟩;obtain ⟨o,e,_⟩:=p;exact Heap.lt_size e
theorem Inv.Fw (I:Inv X pins σ H s) {b:Bool} {a:Addr} {xs ys:List V} (h:SqB X.K b H a xs) (h':SqB X.K b H a ys):xs=ys:=by
 cases b
 ·exact I.xa h h'
 ·exact I.y3 h h'
end
noncomputable def Itz (K:PySem.W.Frag) (c1 c2:Bool) (l1 l2:Addr):It:=
  ⟨λi H=>∃xs ys x y,SqB K c1 H l1 xs∧SqB K c2 H l2 ys∧xs[i]?=some x∧ys[i]?=some y,
   λi H x H'=>∃p u v,(∀xs,SqB K c1 H l1 xs→xs[i]?=some u)∧(∀ys,SqB K c2 H l2 ys→ys[i]?=some v)∧H p=none∧x=.ref p∧H'=upd H p (.tup [u,v]),
   λi H=>∃xs ys,SqB K c1 H l1 xs∧SqB K c2 H l2 ys∧xs.length≤i⟩
theorem go_zip {P:Program} {w:World} {A:Around} {E:Value→Shared→Prop} {s:Shared} {tg:Expr} {z TI TO T:Addr} {f0:Value} {b:Bool} {Q:Unit→Shared→Prop} (ht:(∃x pos,tg=.Name x pos)∨∃es k pos,tg=.Tuple es k pos) (hz:IsZ s.heap z TI TO f0 (.bool b)) (hf:f0=.none∨∃T:Addr,f0=rawInt T)
  (q:∀h' f1,IsZ h' z TI TO f1 (.bool b)→(f1=.none∨∃T:Addr,f1=rawInt T)→Heap.SameBut z s.heap h'→Q () { s with heap:=h' }):wpAny (model P w) A (letOwnedTupleGo tg (.ref z) (.ref T)) Q E s:=by
 rcases ht with ⟨x,pos,rfl⟩ | ⟨es,k,pos,rfl⟩
 ·exact wpAny_pure (q s.heap f0 hz hf (Heap.SameBut.refl _ _))
 ·unfold letOwnedTupleGo;refine wpAny_bind (wpAny_load hz ?_);show wpAny _ _ (if (["enumerate","zip","dict_itemiterator","dict_reverseitemiterator","odict_iterator","itertools.zip_longest","itertools.pairwise"].contains "zip"&&(#[f0,.bool b,.bool false,.ref TI,.ref TO]:Array Value)[0]?==some (rawInt T))=true then _ else _) Q E s
  refine wpAny_ite_split (λ_=>wpAny_bind (wpAny_rule ?_)) λ_=>wpAny_pure (q s.heap f0 hz hf (Heap.SameBut.refl _ _));show wpAny _ _ (setField (.ref z) 0 .none) Q E s
  exact wpAny_setField_rec hz (by simp) λh' hz' hs'=>q h' .none hz' (.inl rfl) hs'
theorem Ma {P:Program} {w:World} {K:PySem.W.Frag} {tg:Expr} {c1 c2:Bool} (z TI TO i1 i2 l1 l2:Addr) (D:ZipApart z TI TO i1 i2 l1 l2) (ht:(∃x pos,tg=.Name x pos)∨∃es k pos,tg=.Tuple es k pos):
  Turn P w K tg (Itz K c1 c2 l1 l2) [z,TI,TO,i1,i2] z (λi h=>zpN z TI TO i1 i2 h∧itB c1 h i1 l1 i∧itB c2 h i2 l2 i) where
 mem:=by simp
 obj:=λi h st b hb=>by
  obtain ⟨⟨⟨f0,b0,a1,_⟩,⟨p,q,a2⟩,a3⟩,a4,a5⟩:=st;simp only[aan,aa9,or_false] at hb;rcases hb with rfl | rfl | rfl | rfl | rfl
  ·exact ⟨_,a1,λv z=>by cases z⟩
  ·exact ⟨_,a3,λv z=>by cases z⟩
  ·exact ⟨_,a2,λv z=>by cases z⟩
  ·exact a4.obj
  ·exact a5.obj
 keep:=λi h h' st k=>by
  obtain ⟨⟨⟨f0,b0,a1,a0⟩,⟨p,q,a2⟩,a3⟩,a4,a5⟩:=st;exact ⟨⟨⟨f0,b0,k z (by simp) _ a1,a0⟩,⟨p,q,k TO (by simp) _ a2⟩,k TI (by simp) _ a3⟩,a4.keep (k i1 (by simp)),a5.keep (k i2 (by simp))⟩
 item:=by
  intro X hP hw hK hc i pins s σ H E I hf st hg;subst hP hw hK;obtain ⟨xs,ys,x,y,hq1,hq2,hx,hy⟩:=hg;obtain ⟨⟨a1,a2,a3⟩,a4,a5⟩:=st;obtain ⟨its1,rv1,_,_,f1,_,_⟩:=I.sqB hq1;obtain ⟨its2,rv2,_,_,f2,_,_⟩:=I.sqB hq2;obtain ⟨u,hu,ru⟩:=rv1.get hx;obtain ⟨v,hv,rv⟩:=rv2.get hy;have fpl:∀b∈[z,TI,TO,i1,i2],b < s.heap.objs.size:=λb hb=>by
   obtain ⟨f0,b0,e1,_⟩:=a1;obtain ⟨p,q,e2⟩:=a2;obtain ⟨_,e4,_⟩:=a4.obj;obtain ⟨_,e5,_⟩:=a5.obj;simp only[aan,aa9,or_false] at hb;rcases hb with rfl | rfl | rfl | rfl | rfl
   ·exact Heap.lt_size e1
   ·exact Heap.lt_size a3
   ·exact Heap.lt_size e2
   ·exact Heap.lt_size e4
   ·exact Heap.lt_size e5
  refine K4 (c1:=c1) (c2:=c2) (xs:=its1.toArray) (ys:=its2.toArray) (i:=i) (x:=u) (y:=v) D ⟨a1,a2,a3,f1 _ _ a4,f2 _ _ a5⟩ (by simpa using hu) (by simpa using hv) λh1 zs1 hT hz1 hk1=>⟨_,rfl,?_⟩;obtain ⟨⟨f0,b0,e0,g0⟩,⟨p,q,e2⟩,e3,e4,e5⟩:=zs1;refine go_zip ht e0 g0 λh2 f3 e0' g0' sb=>?_;have sb:Heap.SameBut z h1 h2:=sb;have hfr:H s.heap.objs.size=none:=I.hok.fresh (aa3 _);have I1:Inv X pins σ (upd H s.heap.objs.size (.tup [x,y])) { s with heap:=s.heap.push { cls:=.type "tuple",data:=.seq #[u,v] },toks:=s.toks }:=
   I.laid (λb o' e'=>Heap.get?_push_of_some _ e') (aa3 _) (show cf X.prog X.w _ _ _ (.tup [x,y]) from ⟨by show (2:Nat)≤sizeLine;decide,[u,v],.cons ru (.cons rv .nil),⟨_,Heap.get?_push_size _ rfl,rfl,_,rfl,rfl⟩⟩)
  have nup:∀b,b < s.heap.objs.size→(upd H s.heap.objs.size (.tup [x,y])) b=H b:=λb hb=>ah (aao hb);have zl:=fpl z (by simp);have I2:=Inv.Fo (h':=h2) (t':=s.toks) (fp:=[z,TI,TO,i1,i2]) I1 (λb o' hb e'=>by
   simp only[aan,aa9,or_false,not_or] at hb;have e':(s.heap.push { cls:=.type "tuple",data:=.seq #[u,v] }).get? b=some o':=e';by_cases hbs:b=s.heap.objs.size
   ·subst hbs;rw[Heap.get?_push_size _ rfl] at e';cases e'
    exact (sb.2 _ hb.1).trans hT
   ·rw[Heap.get?_push_ne _ _ _ hbs] at e';exact (sb.2 _ hb.1).trans (hk1 b o' hb.1 hb.2.2.1 hb.2.2.2.1 hb.2.2.2.2 e')) λb hb=>by
   obtain ⟨f0,f⟩:=hf b hb;exact ⟨by rw[nup b (fpl b hb)];exact f0,f⟩
  exact ⟨.ref s.heap.objs.size,_,I2,rfl,⟨_,x,y,λzs hz=>by rw[I.Fw hz hq1];exact hx,λzs hz=>by rw[I.Fw hz hq2];exact hy,hfr,rfl,rfl⟩,⟨⟨⟨f3,b0,e0',g0'⟩,⟨p,q,sb.extBut _ _ D.TOz e2⟩,sb.extBut _ _ D.TIz e3⟩,(As e4).keep λo e=>sb.extBut _ _ D.i1z e,(As e5).keep λo e=>sb.extBut _ _ D.i2z e⟩,λb hb=>by rw[nup b (fpl b hb)];exact (hf b hb).1⟩
 done:=by
  intro X hP hw hK hc i pins s σ H E I hf st hg;subst hP hw hK;obtain ⟨xs,ys,hq1,hq2,hx⟩:=hg;obtain ⟨⟨a1,a2,a3⟩,a4,a5⟩:=st;obtain ⟨its1,rv1,_,_,f1,_,_⟩:=I.sqB hq1;obtain ⟨its2,rv2,_,_,f2,_,_⟩:=I.sqB hq2;have hl:=rv1.length;refine pyFin (c1:=c1) (c2:=c2) (xs:=its1.toArray) (ys:=its2.toArray) (i:=i) (I.ok.hd hc) D ⟨a1,a2,a3,f1 _ _ a4,f2 _ _ a5⟩ (by simp;omega) λh' hk=>⟨rfl,Inv.Fo (t':=s.toks) (fp:=[z,TI,TO,i1,i2]) I (λb o hb e=>?_) hf⟩;simp only[aan,aa9,or_false,not_or] at hb;exact hk b o hb.1 hb.2.2.1 hb.2.2.2.1 hb.2.2.2.2 e
 self:=λ_ _ _ _ _ st h=>by
  obtain ⟨⟨⟨f0,b0,a1,_⟩,_⟩,_⟩:=st;refine wpAny_pyIter_slot ⟨_,a1,rfl⟩ F.slot_zip_iter (wpAny_call_entry F.slot_zip_iter ⟨_,a1,rfl⟩ F.entry_zip_iter ?_ (F.args_zip_iter_1 _));exact wpAny_pure ⟨_,rfl,"zip",_,⟨_,a1,rfl⟩,F.slot_zip_next.lookup,h⟩
def iZip (K:PySem.W.Frag) (c:Bool) (ta:TA):TI:=λσ H R=>ta σ H λvs H1=>∃l1 l2 xs ys,vs=[.ref l1,.ref l2]∧SqB K c H1 l1 xs∧SqL K H1 l2 ys∧R (Itz K c false l1 l2) H1
section
variable {X:Cx}
theorem wg {pins:List (Addr×Obj)} {σ:St} {H:Hp} {s:Shared} {c:Bool} {l1 l2:Addr} {xs ys:List V} {A:Around} {E:Value→Shared→Prop} {Q:Value→Shared→Prop} (I:Inv X pins σ H s) (h1:SqB X.K c H l1 xs) (h2:SqL X.K H l2 ys)
  (q:∀(u v:List Value) (h':Heap),Vals xs u→Vals ys v→Zst c false (s.heap.objs.size+4) (s.heap.objs.size+2) (s.heap.objs.size+3) s.heap.objs.size (s.heap.objs.size+1) l1 l2 u.toArray v.toArray 0 h'→h'.objs.size=s.heap.objs.size+5→(∀c o,s.heap.get? c=some o→h'.get? c=some o)→l1 < s.heap.objs.size→l2 < s.heap.objs.size→Q (.ref (s.heap.objs.size+4)) { s with heap:=h' }):
  wpAny (model X.prog X.w) A (call (.type "zip") [.ref l1,.ref l2]) Q E s:=by
 obtain ⟨u,ru,_,lt1,_,t1,g1⟩:=I.sqB h1;obtain ⟨v,rv,_,lt2,_,t2,g2⟩:=I.sqB (b:=false) h2;cases c with
 | true=>exact Ov (t1 rfl) (g2 rfl) λh' a b d=>q u v h' ru rv a b d lt1 lt2
 | false=>exact Oz (g1 rfl) (g2 rfl) λh' a b d=>q u v h' ru rv a b d lt1 lt2
theorem pi_zip {c:Bool} {a b:Expr} {ta:TA} {p pos:Pos} {tg:Expr} (hg:Gl X "zip") (hm:X.mg "zip"=none) (ht:(∃x pos,tg=.Name x pos)∨∃es k pos,tg=.Tuple es k pos) (ha:PA X [a,b] ta) (hs:starEach [a,b] X.env=(false,eval a X.env)::starEach [b] X.env:=by rfl) (hpl:(backTo pos (starEach [b] X.env)).any (·.1)=false:=by rfl):PI X tg (.Call (.Name "zip" p) [a,b] [] pos) (iZip X.K c ta):=by
 intro pins s σ H R I h;refine Call_ (g9 I hg hm Jv (PyProof.Rows.callWith_type1 (thn (ha pos pins s σ H _ I h) λus s1 ⟨vs,H1,I1,r1,q1⟩=>?_) hs hpl));obtain ⟨l1,l2,xs,ys,rfl,e1,e2,q⟩:=q1;obtain ⟨u1,u2,rfl,ru1,ru2⟩:=vals2 r1;cases ru1
 cases ru2
 refine wg I1 e1 e2 λu v h' ru rv zs hz keep lt1 lt2=>?_;refine J7 zs ?_;obtain ⟨a1,a2,a3,a4,a5⟩:=zs;refine ⟨s1.heap.objs.size+4,[s1.heap.objs.size+4,s1.heap.objs.size+2,s1.heap.objs.size+3,s1.heap.objs.size,s1.heap.objs.size+1],_,_,H1,rfl,I1.kept (t':=s1.toks) keep,Ma _ _ _ _ _ l1 l2 (zipApart_new lt1 lt2) ht,⟨⟨a1,a2,a3⟩,As a4,As a5⟩,λb hb=>?_,q⟩;simp only[aan,aa9,or_false] at hb;rcases hb with rfl | rfl | rfl | rfl | rfl
 ·exact I1.xv (aay _ _) (I1.hok.fresh (aay _ _))
 ·exact I1.xv (aay _ _) (I1.hok.fresh (aay _ _))
 ·exact I1.xv (aay _ _) (I1.hok.fresh (aay _ _))
 ·exact I1.xv (aa3 _) (I1.hok.fresh (aa3 _))
 ·exact I1.xv (aay _ _) (I1.hok.fresh (aay _ _))
end
theorem M4 {K:PySem.W.Frag} {c:Bool} {l1 l2:Addr} {xs ys:List V} {g:TG} {tb:TS} {D:Ends} {σ:St} {H:Hp} (Pv:Nat→St→Hp→Prop) (h0:Pv 0 σ H) (hn:xs.length=ys.length) (hl:∀i σ H,i≤xs.length→Pv i σ H→SqB K c H l1 xs∧SqL K H l2 ys)
  (hs:∀i x y σ H p,xs[i]?=some x→ys[i]?=some y→Pv i σ H→H p=none→g (.ref p) σ (upd H p (.tup [x,y])) λσ2 H2=>tb { D with nx:=Pv (i+1),ct:=Pv (i+1),bk:=D.nx } σ2 H2) (hd:∀σ H,Pv xs.length σ H→D.nx σ H):Eh g tb D (Itz K c false l1 l2) σ H:=by
 refine ⟨λi m σ H=>m=xs.length - i∧i≤xs.length∧Pv i σ H,⟨xs.length,by simp,aa6 _,h0⟩,?_⟩;rintro i m σ H ⟨rfl,hi,p⟩;obtain ⟨q1,q2⟩:=hl i σ H hi p;by_cases hlt:i < xs.length
 ·refine .inr ⟨⟨xs,ys,_,_,q1,q2,aa1 hlt,aa1 (by omega)⟩,Pv (i+1),λσ' H' p'=>⟨xs.length - (i+1),by omega,rfl,hlt,p'⟩,λx H' y=>?_⟩;obtain ⟨t,u,v,hu,hv,hn,rfl,rfl⟩:=y;exact hs i u v σ H t (hu xs q1) (hv ys q2) p hn
 ·have e:i=xs.length:=by omega
  subst e;exact .inl ⟨⟨xs,ys,q1,q2,aa3 _⟩,hd σ H p⟩
noncomputable def ip (H:Hp) (N:Addr→Option HO):Hp:=λb=>match N b with | some o=>some o | none=>H b
theorem Inv.many {X:Cx} {pins:List (Addr×Obj)} {σ:St} {H:Hp} {s:Shared} {h':Heap} {t':Nat} {N:Addr→Option HO} (I:Inv X pins σ H s) (k:∀b u,s.heap.get? b=some u→h'.get? b=some u) (hp:∀a o,N a=some o→s.heap.objs.size≤a) (new:∀a o,N a=some o→cf X.prog X.w (ip H N) h' a o):
  Inv X pins σ (ip H N) { s with heap:=h',toks:=t' }:=by
 have old:∀b,b < s.heap.objs.size→ip H N b=H b:=λb hb=>by
  unfold ip;cases e:N b with
  | none=>rfl
  | some o=>exact absurd (aam hb (hp b o e)) (abe _)
 have tr:∀b u,H b=some u→ip H N b=some u:=λb u e=>by rw[old b (I.hok.lt e)];exact e
 refine I.step (g':=s.gens) (d':=s.drawn) (ch:=[]) (λb hb=>nomatch hb) (λb o _ _ _ e _=>k b o e) (λb o _ _ _ e _=>⟨o.slots,k b o e⟩) (λb o _ e n=>by rw[old b (Heap.lt_size e)];exact n)
  (λb o _ e=>⟨o,k b o e⟩) (λb xs e=>tr b _ e) (λb o u e=>tr b _ e) (λb ps e=>⟨#[],by rw[tr b _ e];simp⟩) (λm hm=>hm.at λo e=>k _ o e) (λb u e=>?_) I.bare
 cases en:N b with
 | some o=>
  have:ip H N b=some o:=by unfold ip;rw[en]
  rw[this] at e;cases e
  exact new b _ en
 | none=>
  have:ip H N b=H b:=by unfold ip;rw[en]
  rw[this] at e;exact (I.hok b u e).Cy (λc v _ q=>k c v q) (λc q=>tr c _ q) λc xs q=>tr c _ q
theorem vb {β:Type}:∀{as:List Addr} {ps:List β},as.Nodup→∀{j:Nat} {a:Addr} {p:β},as[j]?=some a→ps[j]?=some p→(as.zip ps).lookup a=some p
 | [],_,_,j,a,p,h,_=>by simp at h
 | _::_,[],_,j,a,p,_,h=>by simp at h
 | b::as,q::ps,nd,0,a,p,h1,h2=>by
  simp at h1 h2;subst h1 h2;simp[List.lookup]
 | b::as,q::ps,nd,j+1,a,p,h1,h2=>by
  simp only[ady] at h1 h2;have hn:=List.nodup_cons.mp nd;have ne:a≠b:=λe=>hn.1 (e ▸ aah h1);rw[adl,adv];simp only[show (a==b)=false from beq_eq_false_iff_ne.mpr ne];exact vb hn.2 h1 h2
theorem wk {β:Type}:∀{as:List Addr} {ps:List β} {a:Addr} {p:β},(as.zip ps).lookup a=some p→∃j:Nat,as[j]?=some a∧ps[j]?=some p
 | [],_,a,p,h=>by simp at h
 | _::_,[],a,p,h=>by simp at h
 | b::as,q::ps,a,p,h=>by
  rw[adl,adv] at h;by_cases e:a=b
  ·simp only[show (a==b)=true from beq_iff_eq.mpr e] at h;cases h
   exact ⟨0,by rw[e];rfl,rfl⟩
  ·simp only[show (a==b)=false from beq_eq_false_iff_ne.mpr e] at h;obtain ⟨j,h1,h2⟩:=wk h;exact ⟨j+1,h1,h2⟩
theorem x8:∀as:List Addr,Vals (as.map V.ref) (as.map Value.ref)
 | []=>.nil
 | _::as=>.cons rfl (x8 as)
def tLZ (K:PySem.W.Frag) (ta:TA):TE:=λσ H Q=>ta σ H λvs H1=>∃(l1 l2:Addr) (xs ys:List V),vs=[.ref l1,.ref l2]∧SqT K H1 l1 xs∧SqL K H1 l2 ys∧xs.length=ys.length∧
 ∀(l:Addr) (as:List Addr) (H2:Hp),ak H1 H2→H1 l=none→as.length=xs.length→H2 l=some (.lst (as.map V.ref))→(∀(j:Nat) (x y:V),xs[j]?=some x→ys[j]?=some y→∃a,as[j]?=some a∧H2 a=some (.tup [x,y]))→Q (.ref l) H2
section
variable {X:Cx}
theorem vc {a b:Expr} {ta:TA} {p p2 pos pos2:Pos} (hc:X.calm=true) (hg:Gl X "list") (hm:X.mg "list"=none) (hg2:Gl X "zip") (hm2:X.mg "zip"=none) (ha:PA X [a,b] ta)
  (hs:starEach [.Call (.Name "zip" p2) [a,b] [] pos2] X.env=[(false,eval (.Call (.Name "zip" p2) [a,b] [] pos2) X.env)]:=by rfl) (hs2:starEach [a,b] X.env=(false,eval a X.env)::starEach [b] X.env:=by rfl) (hpl:(backTo pos2 (starEach [b] X.env)).any (·.1)=false:=by rfl):
  PE X (.Call (.Name "list" p) [.Call (.Name "zip" p2) [a,b] [] pos2] [] pos) (tLZ X.K ta):=by
 intro pins s σ H Q I h;refine wpAny_Call_Name_kw (g9 I hg hm Ly ?_);refine PyProof.Rows.callWith_type1 ?_ hs rfl;rw[hs];show wpAny _ _ (spliced ((false,eval _ X.env)::backTo pos [])) _ _ s
 refine Calls.spliced_cons ?_;refine wpAny_Call_Name_kw (g9 I hg2 hm2 Jv ?_);refine PyProof.Rows.callWith_type1 (thn (ha pos2 pins s σ H _ I h) λus s1 ⟨vs,H1,I1,r1,q1⟩=>?_) hs2 hpl;obtain ⟨l1,l2,xs,ys,rfl,e1,e2,hl,q⟩:=q1;obtain ⟨u1,u2,rfl,ru1,ru2⟩:=vals2 r1;cases ru1
 cases ru2
 have zl:xs.length≤sizeLine:=by obtain ⟨_,_,_,z⟩:=I1.tuple e1;exact z
 refine wg (c:=true) I1 e1 e2 λu v h' ru rv zs hz keep lt1 lt2=>Calls.spliced_nil ?_;have n1:=ru.length;have n2:=rv.length;refine O8 (s:={ s1 with heap:=h' }) (I1.ok.hd hc) (zipApart_new lt1 lt2) zs (λb hb=>?_) (by rw[aa5,aa5];omega) (by rw[aa5];omega) λh2 tk acc c as kp hL hal hM hacc=>?_
 ·have hz':(Shared.heap { s1 with heap:=h' }).objs.size=s1.heap.objs.size+5:=hz;rw[hz'];simp only[aan,aa9,or_false] at hb;rcases hb with rfl | rfl | rfl | rfl | rfl | rfl | rfl
  ·exact acq (by decide) _
  ·exact acq (by decide) _
  ·exact acq (by decide) _
  ·exact Nat.lt_add_of_pos_right (by decide)
  ·exact acq (by decide) _
  ·exact aam lt1 (aay _ _)
  ·exact aam lt2 (aay _ _)
 have hM:Zg.Mk u.toArray v.toArray h'.objs.size h2 as:=hM;have kp:∀b o,b∉[s1.heap.objs.size+4,s1.heap.objs.size+3,s1.heap.objs.size,s1.heap.objs.size+1]→h'.get? b=some o→h2.get? b=some o:=kp;have hL:h2.get? h'.objs.size=some { cls:=.type "list",dict:=none,data:=.seq acc c,slots:=#[] }:=hL;rw[aa5] at hal;have le:s1.heap.objs.size≤h'.objs.size:=by rw[hz];exact aay _ _
 have k2:∀b o,s1.heap.get? b=some o→h2.get? b=some o:=λb o e=>kp b o (λz=>by
  have lt:=Heap.lt_size e;simp only[aan,aa9,or_false] at z;rcases z with rfl | rfl | rfl | rfl
  ·exact absurd lt (Nat.not_lt.mpr (aay _ _))
  ·exact absurd lt (Nat.not_lt.mpr (aay _ _))
  ·exact absurd lt (abe _)
  ·exact absurd lt (Nat.not_lt.mpr (aay _ _))) (keep b o e)
 let N:Addr→Option HO:=λb=>if b=h'.objs.size then some (.lst (as.map V.ref)) else ((as.zip (xs.zip ys)).lookup b).map λp=>.tup [p.1,p.2]
 have Nl:N h'.objs.size=some (.lst (as.map V.ref)):=if_pos rfl;have Na:∀(j:Nat) (a:Addr) (x y:V),as[j]?=some a→xs[j]?=some x→ys[j]?=some y→N a=some (.tup [x,y]):=λj a x y h1 h3 h4=>by
  show (if a=h'.objs.size then _ else _)=_
  rw[if_neg (ab9 (hM.up a (aah h1)))];have:(xs.zip ys)[j]?=some (x,y):=List.getElem?_zip_eq_some.mpr ⟨h3,h4⟩;rw[vb hM.nd h1 this];rfl
 have inv:∀a o,N a=some o→(a=h'.objs.size∧o=.lst (as.map V.ref))∨∃(j:Nat) (x y:V),as[j]?=some a∧xs[j]?=some x∧ys[j]?=some y∧o=.tup [x,y]:=λa o e=>by
  by_cases h:a=h'.objs.size
  ·subst h;rw[Nl] at e;exact .inl ⟨rfl,(aa4 e).symm⟩
  ·have e:(if a=h'.objs.size then _ else ((as.zip (xs.zip ys)).lookup a).map λp=>HO.tup [p.1,p.2])=some o:=e;rw[if_neg h] at e;obtain ⟨⟨x,y⟩,h1,h2⟩:=Option.map_eq_some_iff.mp e;obtain ⟨j,g1,g2⟩:=wk h1;obtain ⟨g3,g4⟩:=List.getElem?_zip_eq_some.mp g2;exact .inr ⟨j,x,y,g1,g3,g4,h2.symm⟩
 have lo:∀a o,N a=some o→s1.heap.objs.size≤a:=λa o e=>by
  rcases inv a o e with ⟨rfl,_⟩ | ⟨j,x,y,h1,_⟩
  ·exact le
  ·exact aau le (abq (hM.up a (aah h1)))
 have I2:Inv X pins σ (ip H1 N) { s1 with heap:=h2,toks:=tk }:=I1.many k2 lo λa o e=>by
  rcases inv a o e with ⟨rfl,rfl⟩ | ⟨j,x,y,h1,h3,h4,rfl⟩
  ·refine ⟨by rw[aa0];omega,acc.toList,c,?_,by rw[aeb];exact hL⟩;rw[hacc];exact x8 as
  ·obtain ⟨x',y',g1,g2,g3⟩:=hM.at' j a h1;obtain ⟨xu,hxu,rxu⟩:=ru.get h3;obtain ⟨yu,hyu,ryu⟩:=rv.get h4;rw[ad4] at g1 g2;rw[hxu] at g1;rw[hyu] at g2;cases g1
   cases g2
   exact ⟨by show (2:Nat)≤sizeLine;decide,[x',y'],.cons rxu (.cons ryu .nil),⟨_,g3,rfl,_,rfl,rfl⟩⟩
 have same:ak H1 (ip H1 N):=λb o e=>by
  have lt:=I1.hok.lt e;unfold ip;cases en:N b with
  | none=>exact e
  | some o'=>exact absurd (aam lt (lo b o' en)) (abe _)
 refine ⟨.ref h'.objs.size,_,I2,rfl,q _ as _ same (I1.hok.fresh le) (by omega) (by unfold ip;rw[Nl]) λj x y h3 h4=>?_⟩;have hj:j < as.length:=by rw[hal,←n1];exact (List.getElem?_eq_some_iff.mp h3).1
 refine ⟨as[j],aa1 hj,?_⟩;unfold ip;rw[Na j as[j] x y (aa1 hj) h3 h4]
end
end L2
namespace L2.Zd
open PySem
theorem xn:entryFor table "dict.update.loop"=some Builtin.«dict.update.loop»:=entryFor_of_tree (by kernel_rfl)
theorem j5:plainId "dict.update.loop"=true:=by decide+kernel
end L2.Zd
namespace L2.Zd
open PySem PyProof.Rows
theorem Aw:typeLookup (.type "list") "keys"=pure none:=by rw[typeLookup_type,builtinLookup_eq_fast];kernel_rfl
section
variable {prog:Program} {w:World} {A:Around} {E:Value→Shared→Prop} {s:Shared}
theorem By (a:Addr) (vs:Array Value) (n:Nat) (u:Tok):
  Meets (Builtin.«object.__getattribute__» ⟨[.ref a,.str "keys" u],[]⟩) (λA R s=>s.heap.get? a=some { cls:=.type "list",dict:=none,data:=.seq vs n,slots:=#[] }∧raisesAttr (.ref a) "keys" A R s):=
 meets_getattribute_miss_list a vs n #[] "keys" u Aw (by decide+kernel) (by decide+kernel)
theorem J0 {a:Addr} {vs:Array Value} {n:Nat} {Q:Option Value→Shared→Prop} (hx:s.heap.get? a=some { cls:=.type "list",dict:=none,data:=.seq vs n,slots:=#[] }) (hA:A.handled=none)
  (h:∀h' tk,(∀b o,s.heap.get? b=some o→h'.get? b=some o)→Q none { s with heap:=h',toks:=tk }):wpAny (model prog w) A (getAttr? (.ref a) "keys") Q E s:=by
 obtain ⟨hp,g,d,tk,os⟩:=s;have hT:∀tk',(⟨hp,g,d,tk',os⟩:Shared).TypeIs (.ref a) "list":=λ_=>⟨_,hx,rfl⟩;have f1:=sub_AttributeError;have f3:=F.slot_list_getattribute.lookup;have f4:=F.slot_list_getattribute.bind (.ref a);have f5:=am_list_getattr_none;unfold getAttr? getAttrBy? getAttrBy;repeat (any_goals (first | assumption | exact hT _ | ((with_reducible show wpAny _ _ (call (Value.builtin "list.__getattribute__") _ _) _ _ _);refine call_meets F.slot_list_getattribute (hT _) am_entry_list_getattribute (F.args_list_getattribute_2 _ _) (By a vs n _) ⟨hx,hA,λh' tk' e hx'=>?_⟩) | wp_step))
 obtain ⟨t',u',he⟩:=hx'.there;show wpAny _ _ (getattributeRaised _ _ _ _ _ _ _) _ _ _
 unfold getattributeRaised;repeat (any_goals (first | assumption | wp_step))
 exact h h' tk' hx'.keeps
end
end L2.Zd
namespace L2
open PySem PySem.Spec PyProof.Rows
theorem Jj {K:PySem.W.Frag} {a:Addr} {xs:List V} {fr:L2.St} {tc:TT} {te:TE} {D:Addr} {H1:Hp} {Q:Hp→Prop} (P:Nat→List V→Hp→Prop) (mono:∀i ys H H',TK H H'→P i ys H→P i ys H') (hS:SqL K H1 a xs) (hn:xs.length < sizeLine) (hD:H1 D=none) (h0:P 0 [] H1)
  (step:∀i x ys H (G:Hp→Prop) (K':V→Hp→Prop),xs[i]?=some x→P i ys H→ys.length≤i→ak H1 H→(∀H3,ak H H3→P (i+1) ys H3→G H3)→(∀y H4,ak H H4→P (i+1) (ys++[y]) H4→K' y H4)→tc ([some x]++fr) H λb H3=>if b=true then te ([some x]++fr) H3 K' else G H3)
  (done:∀ys H,P xs.length ys H→ys.length≤xs.length→ak H1 H→H D=some (.lst ys)→Q H):LC 1 fr (cu 0) tc te (Itl K a) D H1 Q:=by
 have at':∀i,i < xs.length→xs[i]?=some (xs.getD i .non):=λi hi=>by
  rw[aae,aa1 hi];rfl
 exact Pn xs.length (λi=>xs.getD i .non) P mono hn hD (λi H hi hs=>⟨xs,_,hs.seq hS,at' i hi⟩)
  (λi H x H' hi hs hy=>⟨hy.1,aa4 ((hy.2 xs (hs.seq hS)).symm.trans (at' i hi))⟩) (λH hs=>⟨xs,hs.seq hS,aa3 _⟩) h0
  (λi ys H G K' hi hP hl hs hG hK=>step i _ ys H G K' (at' i hi) hP hl hs hG hK) done
section
variable {X:Cx} {pos:Pos} {tg:Expr}
theorem G1 (K:PySem.W.Frag) (hK:X.K=K) {es:List Expr} {k:Nat} {t:TGs} {n:Nat} (hc:X.calm=true) (h:PGs X es t) (hn:(assignEach es X.env).length=n:=by rfl) (hst:(assignEach es X.env).findIdx? (·.1)=none:=by rfl):PG X (.Tuple es k pos) (zk K n t):=by
 subst hK;exact Ed hc h hn hst
theorem yr (n:Nat):Builtin.Range.rangeSize ((n:Int) - 1) (-1) (-1)=n:=by
 unfold Builtin.Range.rangeSize;cases n with
 | zero=>decide
 | succ n=>
  simp;omega
theorem K9 {n:Nat} (h:n < 2 ^ 62):Builtin.Range.small ((n:Int) - 1) (-1) (-1)=true:=by
 unfold Builtin.Range.small;rw[yr];have e1:Builtin.Range.rangeFitsLong ((n:Int) - 1)=true:=by
  unfold Builtin.Range.rangeFitsLong;rw[decide_eq_true (show -(2:Int) ^ 63≤(n:Int) - 1 by omega),decide_eq_true (show (n:Int) - 1 < (2:Int) ^ 63 by omega)];rfl
 have e2:Builtin.Range.rangeFitsLong (n:Int)=true:=by
  unfold Builtin.Range.rangeFitsLong;rw[decide_eq_true (show -(2:Int) ^ 63≤(n:Int) by omega),decide_eq_true (show (n:Int) < (2:Int) ^ 63 by omega)];rfl
 rw[e1,e2,show Builtin.Range.rangeFitsLong (-1)=true by decide,if_neg (by decide),show Builtin.Range.rangeFitsLong (-1+(-1+1))=true by decide];simp
def iDn (ta:TA):TI:=λσ H R=>ta σ H λvs H1=>∃n:Nat,vs=[.int ((n:Int) - 1),.int (-1),.int (-1)]∧n < 2 ^ 62∧R (Itd n) H1
theorem Hk {a b c:Expr} {ta:TA} {p pos:Pos} (hg:Gl X "range") (hm:X.mg "range"=none) (ha:PA X [a,b,c] ta) (hs:starEach [a,b,c] X.env=(false,eval a X.env)::starEach [b,c] X.env:=by rfl) (hpl:(backTo pos (starEach [b,c] X.env)).any (·.1)=false:=by rfl):
  PI X tg (.Call (.Name "range" p) [a,b,c] [] pos) (iDn ta):=by
 intro pins s σ H R I h;refine Call_ (g9 I hg hm boot_range (PyProof.Rows.callWith_type1 (thn (ha pos pins s σ H _ I h) λus s1 ⟨vs,H1,I1,r1,q1⟩=>?_) hs hpl));obtain ⟨n,rfl,hn,q⟩:=q1;cases r1 with
 | cons r rr=>
  cases rr with
  | cons r' rr=>
   cases rr with
   | cons r'' rr=>
    cases rr
    obtain ⟨t,rfl⟩:=r;obtain ⟨t',rfl⟩:=r';obtain ⟨t'',rfl⟩:=r'';refine call_range_3 (by decide) ?_ (.inl (PyProof.noPylong_small (by omega)));refine wpAny_pyIter_range (IsRange.new ..) (K9 hn) ?_;rw[yr];have I2:Inv X pins σ H1 { s1 with heap:=s1.heap.push { cls:=.type "range",data:=.fields #[.int ((n:Int) - 1) t,.int (-1) t',.int (-1) t''] },toks:=s1.toks }:=I1.kept λb o e=>Heap.get?_push_of_some _ e;refine ⟨(s1.heap.push { cls:=.type "range",data:=.fields #[.int ((n:Int) - 1) t,.int (-1) t',.int (-1) t''] }).objs.size,[(s1.heap.push { cls:=.type "range",data:=.fields #[.int ((n:Int) - 1) t,.int (-1) t',.int (-1) t''] }).objs.size],_,_,H1,rfl,I2.kept (t':=s1.toks) λb o e=>Heap.get?_push_of_some _ e,He _ n,?_,λb hb=>?_,q⟩
    ·have e1:(n:Int) - 1+((0:Nat):Int)*(-1)=(n:Int) - 1:=by omega
     have e2:(n:Int) - ((0:Nat):Int)=(n:Int):=by omega
     show IsRangeIter _ _ ((n:Int) - 1+((0:Nat):Int)*(-1)) ((n:Int) - ((0:Nat):Int)) (-1)
     rw[e1,e2];exact Heap.get?_push_size _ rfl
    ·have e:b=(s1.heap.push { cls:=.type "range",data:=.fields #[.int ((n:Int) - 1) t,.int (-1) t',.int (-1) t''] }).objs.size:=by simpa using hb
     subst e;exact I2.xv (aa3 _) (I2.hok.fresh (aa3 _))
end
theorem O2 {n:Nat} {g:TG} {tb:TS} {D:Ends} {σ:St} {H:Hp} (Pv:Nat→St→Hp→Prop) (h0:Pv n σ H)
  (hs:∀i σ H,i < n→Pv (i+1) σ H→g (.int (i:Int)) σ H λσ2 H2=>tb { D with nx:=Pv i,ct:=Pv i,bk:=D.nx } σ2 H2) (hd:∀σ H,Pv 0 σ H→D.nx σ H):Eh g tb D (Itd n) σ H:=by
 refine ⟨λi m σ H=>m=n - i∧i≤n∧Pv (n - i) σ H,⟨n,by simp,aa6 _,by simpa using h0⟩,?_⟩;rintro i m σ H ⟨rfl,hi,p⟩;by_cases hlt:i < n
 ·refine .inr ⟨hlt,Pv (n - (i+1)),λσ' H' p'=>⟨n - (i+1),by omega,rfl,hlt,p'⟩,λx H' y=>?_⟩;obtain ⟨rfl,rfl⟩:=y;have e:(n:Int) - 1 - (i:Int)=((n - (i+1):Nat):Int):=by omega
  rw[e];exact hs (n - (i+1)) σ _ (by omega) (by rw[show n - (i+1)+1=n - i by omega];exact p)
 ·have e:i=n:=by omega
  subst e;exact .inl ⟨aa3 _,hd σ H (by simpa using p)⟩
theorem Cs {K:PySem.W.Frag} {c:Nat} {a:Addr} {as:List Addr} {fr:St} {tc:TT} {te:TE} {D:Addr} {H1:Hp} {Q:Hp→Prop} (P:Nat→List V→Hp→Prop) (mono:∀i ys H H',TK H H'→P i ys H→P i ys H') (hc:c=4) (hS:SqL K H1 a (as.map V.ref)) (hq:∀(i:Nat) (t:Addr),as[i]?=some t→∃x0 x1 x2 x3,H1 t=some (.tup [x0,x1,x2,x3])) (hn:as.length < sizeLine) (hD:H1 D=none) (h0:P 0 [] H1)
  (step:∀i t x0 x1 x2 x3 ys H (G:Hp→Prop) (K':V→Hp→Prop),as[i]?=some t→H1 t=some (.tup [x0,x1,x2,x3])→P i ys H→ys.length≤i→ak H1 H→(∀H3,ak H H3→P (i+1) ys H3→G H3)→(∀y H4,ak H H4→P (i+1) (ys++[y]) H4→K' y H4)→tc ([some x0,some x1,some x2,some x3]++fr) H λb H3=>if b=true then te ([some x0,some x1,some x2,some x3]++fr) H3 K' else G H3)
  (done:∀ys H,P as.length ys H→ys.length≤as.length→ak H1 H→H D=some (.lst ys)→Q H):LC 4 fr (zk K c (fm (cu 0) (fm (cu 1) (fm (cu 2) (fm (cu 3) Dq))))) tc te (Itl K a) D H1 Q:=by
 refine ⟨λi m H=>m=as.length - i∧i≤as.length∧∃ys,H D=some (.lst ys)∧P i ys H∧ys.length≤i∧ak H1 H,⟨as.length,by simp,aa6 _,[],ae,mono _ _ _ _ (TK.of (aa hD _)) h0,aa3 _,aa hD _⟩,?_⟩;rintro i m H ⟨rfl,hi,ys,hys,hP,hl,hS'⟩;by_cases hlt:i < as.length
 ·have ht:as[i]?=some as[i]:=aa1 hlt;have hti:(as.map V.ref)[i]?=some (.ref as[i]):=by rw[aac,ht];rfl
  obtain ⟨x0,x1,x2,x3,hx⟩:=hq i _ ht;refine .inr ⟨⟨_,_,hS'.seq hS,hti⟩,λτ v H' hτ hy=>?_⟩;obtain ⟨rfl,hy⟩:=hy;have hv:v=.ref as[i]:=aa4 ((hy _ (hS'.seq hS)).symm.trans hti);subst hv;obtain ⟨a0,a1,a2,a3,rfl⟩:∃a b c d,τ=[a,b,c,d]:=us4 (P:=λτ=>∃a b c d,τ=[a,b,c,d]) hτ λa b c d=>⟨a,b,c,d,rfl⟩;refine ⟨as[i],_,rfl,SqT.of (hS' _ _ hx),by rw[hc];rfl,_,_,rfl,_,_,rfl,_,_,rfl,_,_,rfl,rfl,⟨[some x0,some x1,some x2,some x3],rfl,rfl⟩,step i as[i] x0 x1 x2 x3 ys _ _ _ ht hx hP hl hS' (λH3 q1 q2=>?_) (λy H4 q1 q2=>?_)⟩
  ·exact ⟨as.length - (i+1),by omega,rfl,hlt,ys,q1 _ _ hys,q2,acj hl,hS'.trans q1⟩
  ·refine ⟨ys,q1 _ _ hys,by omega,as.length - (i+1),by omega,rfl,hlt,ys++[y],ae,mono _ _ _ _ (TK.put (q1 _ _ hys) λxs e=>by cases e) q2,?_,(hS'.trans q1).upd hD _⟩;rw[aa2,aaa];omega
 ·have e:i=as.length:=by omega
  subst e;exact .inl ⟨⟨_,hS'.seq hS,by rw[aa0];exact aa3 _⟩,done ys H hP hl hS' hys⟩
namespace Zd
section
variable {prog:Program} {w:World} {A:Around} {E:Value→Shared→Prop} {s:Shared}
def PrT (prog:Program) (w:World) (ps:List (List Key×Addr×Value)) (items:Array Value) (no:List Addr) (h:Heap):Prop:=
 ∀(i:Nat) (k:List Key) (b:Addr) (y:Value),ps[i]?=some (k,b,y)→∃T o n,items[i]?=some (.ref T)∧T∉no∧b∉no∧(tupleKind (bg prog w)).is h k b∧h.get? T=some o∧o.cls=.type "tuple"∧o.data=.seq #[.ref b,y] n
theorem PrT.keep {ps:List (List Key×Addr×Value)} {items:Array Value} {no:List Addr} {h h':Heap} (x:PrT prog w ps items no h) (k:∀b o,b∉no→h.get? b=some o→h'.get? b=some o):PrT prog w ps items no h':=λi a b y e=>by
 obtain ⟨T,o,n,h1,h2,h3,h4,h5,h6⟩:=x i a b y e;obtain ⟨ob,its,m,g1,g2⟩:=h4;exact ⟨T,o,n,h1,h2,h3,⟨ob,its,m,k _ _ h3 g1,g2⟩,k _ _ h2 h5,h6⟩
noncomputable def Ey (ps:List (List Key×Addr×Value)) (acc:List (List Key×Addr×Value)):List (List Key×Addr×Value):=ps.foldl (λacc p=>storedH acc p.1 p.2.1 p.2.2) acc
theorem loopT {R:Result→Shared→Prop} {I l d:Addr} {items:Array Value} (hI:I≠l) (hu:A.units+1 < cLine) (hh:A.in1.handled=none) (hdI:d≠I) (hdl:d≠l) (ps:List (List Key×Addr×Value)) (hn:ps.length=items.size):
  ∀(m i:Nat) (j:Int) (s:Shared) (kvs:List (List Key×Addr×Value)),ps.length - i=m→i≤ps.length→s.heap.IsListIter I l i→s.heap.IsList l items→PrT prog w ps items [d,I] s.heap→s.heap.DictOfH (tupleKind (bg prog w)) d kvs→kvs.length+m≤sizeLine→
   (∀h' tk,h'.DictOfH (tupleKind (bg prog w)) d (Ey (ps.drop i) kvs)→(∀c o,c≠d→c≠I→s.heap.get? c=some o→h'.get? c=some o)→R (.ok (.ret .none)) { s with heap:=h',toks:=tk })→
   codeAny (model prog w) A (.builtin "dict.update.loop" ⟨[.ref d,.ref I,rawInt j,.none],[]⟩) R s:=by
 intro m;induction m with
 | zero=>
  intro i j s kvs hm hi h1 hl hp hd hsz hR;have e:i=items.size:=by omega
  refine codeAny_builtin xn ?_;rw[Around.under_plainId j5 _];show wpAny _ A.in1 (pyNext (.ref I) >>=_) _ _ s
  refine wpAny_bind (wpAny_pyNext_list_end hh h1 hl (by rw[e];exact ae3 (aa3 _)) λh' hk=>?_);show wpAny _ A.in1 (Builtin.Dict.addKeywords d [] >>=_) _ _ _
  refine wpAny_bind (wpAny_pure ?_);refine wpAny_pure (hR h' s.toks ?_ λc o c1 c2 x=>hk c o c2 x);rw[List.drop_eq_nil_of_le (by omega)];obtain ⟨o,es,ep,ho,r1,r2,r3,r4,r5⟩:=hd;refine ⟨o,es,ep,hk d o hdI ho,r1,r2,r3,λx hx=>?_,r5⟩;obtain ⟨ob,its,m,g1,g2⟩:=r4 x hx;by_cases eb:x.2.1=I
  ·obtain ⟨oi,hoi,ci,_⟩:=h1;rw[eb,hoi] at g1;cases g1
   have:=g2.1;rw[ci] at this;simp at this
  ·exact ⟨ob,its,m,hk _ _ eb g1,g2⟩
 | succ m ih=>
  intro i j s kvs hm hi h1 hl hp hd hsz hR;have hlt:i < ps.length:=by omega
  obtain ⟨T,o,n,hx,hT,hb,hk,ho,hc,hdat⟩:=hp i ps[i].1 ps[i].2.1 ps[i].2.2 (aa1 hlt);have hTd:T≠d:=λe=>hT (by rw[e];exact aa7);have hTI:T≠I:=λe=>hT (by rw[e];exact aab _ aa7);have hbI:ps[i].2.1≠I:=λe=>hb (by rw[e];exact aab _ aa7);refine codeAny_builtin xn ?_;rw[Around.under_plainId j5 _];show wpAny _ A.in1 (pyNext (.ref I) >>=_) _ _ s
  have h1':=h1;refine wpAny_bind (wpAny_pyNext_list_item h1 hl hx λh₁ h1₁ hs₁=>?_);have hs₁:Heap.SameBut I s.heap h₁:=hs₁;have hP:h₁.get? T=some o:=hs₁.extBut _ _ hTI ho;refine wpAny_bind (wpAny_holding (wpAny_bind (wpAny_tryCatch ?_)));unfold Builtin.Dict.pairItems;have hTy:Shared.TypeIs { s with heap:=h₁ } (.ref T) "tuple":=⟨_,hP,hc⟩;refine wpAny_bind (wpAny_typeOf hTy ?_);rw[if_pos (by decide)];refine wpAny_bind (wpAny_seqItems hP hdat (wpAny_pure ?_));show wpAny _ _ (holding [.ref ps[i].2.1,ps[i].2.2] (dictSet d (.ref ps[i].2.1) ps[i].2.2)) _ _ _
  refine wpAny_holding ?_;have hk₁:(tupleKind (bg prog w)).is h₁ ps[i].1 ps[i].2.1:=by
   obtain ⟨ob,its,m,g1,g2⟩:=hk;exact ⟨ob,its,m,hs₁.extBut _ _ hbI g1,g2⟩
  have hd₁:h₁.DictOfH (tupleKind (bg prog w)) d kvs:=by
   obtain ⟨o,es,ep,ho,r1,r2,r3,r4,r5⟩:=hd;refine ⟨o,es,ep,hs₁.extBut _ _ hdI ho,r1,r2,r3,λx hx=>?_,r5⟩;obtain ⟨ob,its,m,g1,g2⟩:=r4 x hx;by_cases eb:x.2.1=I
   ·obtain ⟨oi,hoi,ci,_⟩:=h1';rw[eb,hoi] at g1;cases g1
    have:=g2.1;rw[ci] at this;simp at this
   ·exact ⟨ob,its,m,hs₁.extBut _ _ eb g1,g2⟩
  refine wpAny_dictSet_heap (s:={ s with heap:=h₁ }) (knd:=tupleKind (bg prog w)) (tupleKind_room_in1 hu) hk₁ hd₁ (λh₂ hd₂ hs₂=>?_) (by omega);have hs₂:Heap.SameBut d h₁ h₂:=hs₂;have kp:∀c o,c≠d→c≠I→s.heap.get? c=some o→h₂.get? c=some o:=λc o c1 c2 e=>hs₂.extBut _ _ c1 (hs₁.extBut _ _ c2 e);refine wpAny_pure ⟨plainId_quiet j5 _,ih (i+1) (j+1) _ _ (by omega) hlt (h1₁.extBut hs₂.extBut hdI.symm) ((hl.extBut hs₁.extBut hI.symm).extBut hs₂.extBut hdl.symm) (hp.keep λb o hb e=>kp b o (λz=>hb (by rw[z];exact aa7)) (λz=>hb (by rw[z];exact aab _ aa7)) e) hd₂ ?_ λh' tk hd' k'=>?_⟩
  ·have:(storedH kvs ps[i].1 ps[i].2.1 ps[i].2.2).length≤kvs.length+1:=by
    unfold storedH;split
    ·rw[aa0];omega
    ·rw[aa2];exact aa3 _
   omega
  ·refine hR h' tk ?_ λc o c1 c2 x=>k' c o c1 c2 (kp c o c1 c2 x);rw[aat hlt];exact hd'
theorem ny {l:Addr} {items:Array Value} {n:Nat} {Q:Value→Shared→Prop} (hu:A.units+4 < cLine) (hh:A.handled=none) (ho:s.heap.get? l=some { cls:=.type "list",dict:=none,data:=.seq items n,slots:=#[] })
  (ps:List (List Key×Addr×Value)) (hn:ps.length=items.size) (hps:PrT prog w ps items [] s.heap) (hsz:ps.length≤sizeLine)
  (h:∀h' tk,h'.DictOfH (tupleKind (bg prog w)) s.heap.objs.size (Ey ps [])→(∀c o,s.heap.get? c=some o→h'.get? c=some o)→Q (.ref s.heap.objs.size) { s with heap:=h',toks:=tk }):
  wpAny (model prog w) A (call (.type "dict") [.ref l]) Q E s:=by
 refine callType_codes (Q₁:=λobj s₁=>obj=.ref s.heap.objs.size∧s₁={ s with heap:=s.heap.push { cls:=.type "dict",data:=.dict #[] } }) F.kt_called_dict (F.kt_typeCall_dict_1 _) F.entry_dict_init (kt_code_dict_new _ ⟨rfl,rfl⟩) ?_;rintro obj s₁ ⟨rfl,rfl⟩;have hnew:(s.heap.push { cls:=.type "dict",data:=.dict #[] }).DictOfH (tupleKind (bg prog w)) s.heap.objs.size []:=Heap.DictOfH.new s.heap;have gt:∀{c o},s.heap.get? c=some o→s.heap.objs.size≠c:=λe=>ab9 (Heap.lt_size e);have up:∀{c o},s.heap.get? c=some o→(s.heap.push { cls:=.type "dict",data:=.dict #[] }).get? c=some o:=λe=>Heap.get?_push_of_some _ e;have hty:Shared.TypeIs { s with heap:=s.heap.push { cls:=.type "dict",data:=.dict #[] } } (.ref s.heap.objs.size) "dict":=⟨_,Heap.get?_push_size _ rfl,rfl⟩;refine ⟨hty,F.args_dict_init_2 _ _,?_⟩;unfold Builtin.«dict.__init__»;refine wpAny_bind ?_;unfold Builtin.Dict.selfAndRest;refine wpAny_bind (wpAny_notOrdered_dict hty ?_);show wpAny _ _ (pure (s.heap.objs.size,[Value.ref l])) _ _ _
 refine wpAny_pure ?_;show wpAny _ _ (Builtin.Dict.updateFrom "dict.__init__" s.heap.objs.size (.ref l) [] .none) _ _ _
 unfold Builtin.Dict.updateFrom;have hT:Shared.TypeIs { s with heap:=s.heap.push { cls:=.type "dict",data:=.dict #[] } } (.ref l) "list":=⟨_,up ho,rfl⟩;refine wpAny_bind (wpAny_typeOf hT ?_);rw[if_pos (by decide)];refine wpAny_bind (J0 (up ho) (by simp[hh]) λh₁ tk₁ kp₁=>?_);rw[if_pos (show (none:Option Value).isNone=true from rfl)];have kp:∀{c o},s.heap.get? c=some o→h₁.get? c=some o:=λe=>kp₁ _ _ (up e);have hl₁:h₁.IsList l items:=⟨_,kp ho,rfl,n,rfl⟩;refine wpAny_bind (wpAny_rule (wpAny_bind (wpAny_pyIter_list hl₁ ?_)));have dl:s.heap.objs.size < h₁.objs.size:=Heap.lt_size (kp₁ _ _ (Heap.get?_push_size _ rfl));have hd₁:(h₁.push { cls:=.type "list_iterator",data:=.fields #[.ref l,.int 0 0] }).DictOfH (tupleKind (bg prog w)) s.heap.objs.size []:=by
  obtain ⟨o,es,ep,ho,r1,r2,r3,r4,r5⟩:=hnew;exact ⟨o,es,ep,Heap.get?_push_of_some _ (kp₁ _ _ ho),r1,r2,r3,(λx hx=>nomatch hx),r5⟩
 refine wpAny_pure ⟨plainId_quiet j5 _,loopT (items:=items) (ab9 (Heap.lt_size (kp ho))) (by simp only[units_in1];omega) (by simp[hh]) (aao dl) (gt ho) ps hn ps.length 0 0 _ [] rfl (aa6 _) ⟨_,Heap.get?_push_size _ rfl,rfl,rfl⟩ (hl₁.push _) (λi k b y e=>?_) hd₁ (by show 0+_≤_;omega) λh' tk hd' k'=>⟨rfl,?_⟩⟩
 ·obtain ⟨T,o,n,a1,a2,a3,a4,a5,a6⟩:=hps i k b y e;have nt:∀{c o},s.heap.get? c=some o→c∉[s.heap.objs.size,h₁.objs.size]:=λ{c o} q z=>by
   rcases List.mem_cons.mp z with z | z
   ·exact gt q z.symm
   ·rw[List.mem_singleton.mp z] at q;exact absurd (Heap.lt_size (kp q)) (abe _)
  obtain ⟨ob,its,m,g1,g2⟩:=a4;exact ⟨T,o,n,a1,nt a5,nt g1,⟨ob,its,m,Heap.get?_push_of_some _ (kp g1),g2⟩,Heap.get?_push_of_some _ (kp a5),a6⟩
 ·exact h h' tk hd' λc o e=>k' c o (gt e).symm (aao (Heap.lt_size (kp e))) (Heap.get?_push_of_some _ (kp e))
end
end Zd
noncomputable def jn (ps acc:List (List Key×V)):List (List Key×V):=ps.foldl (λacc p=>putK acc p.1 p.2) acc
theorem uq:∀(ps acc:List (List Key×V)),(jn ps acc).length≤acc.length+ps.length
 | [],acc=>aa3 _
 | p::ps,acc=>by
  have h1:=uq ps (putK acc p.1 p.2);have h2:=gf acc p.1 p.2;show (jn ps (putK acc p.1 p.2)).length≤_
  rw[aai];omega
theorem KT.merge {H:Hp}:∀{ps:List (List Key×V)} {qs:List (List Key×Addr×Value)},KT H ps qs→∀{acc:List (List Key×V)} {acc':List (List Key×Addr×Value)},KT H acc acc'→KT H (jn ps acc) (Zd.Ey qs acc')
 | _,_,.nil,_,_,r=>r
 | (k,v)::ps,(k',b,u)::qs,.cons h t,acc,acc',r=>by
  obtain ⟨h1,h2,h3⟩:=h;have h1:k=k':=h1;subst h1;exact KT.merge t (r.put k h2 h3)
section
variable {X:Cx}
theorem ny (hu:X.A.units+8 < cLine):jf X (.type "dict") (λxs H Q=>X.calm=true∧∃(a:Addr) (rs:List V) (ps:List (List Key×V)),xs=[.ref a]∧H a=some (.lst rs)∧rs.length=ps.length∧(∀(i:Nat) (p:List Key×V),ps[i]?=some p→∃t b,rs[i]?=some (.ref t)∧H t=some (.tup [.ref b,p.2])∧H b=some (.tup (p.1.map kV)))∧∀d,H d=none→Q (.ref d) (upd H d (.dT (jn ps [])))):=by
 intro pins s σ H xs us Q I r h;obtain ⟨hc,a,rs,ps,rfl,ha,hl,hp,q⟩:=h;obtain ⟨u,rfl,rx⟩:=vals1 r;cases rx
 obtain ⟨z,its,n,rv,e⟩:=I.hok a _ ha;have hl2:=rv.length;obtain ⟨qs,kt,hq⟩:∃qs:List (List Key×Addr×Value),KT H ps qs∧∀(i:Nat) (k:List Key) (b:Addr) (y:Value),qs[i]?=some (k,b,y)→∃(T:Addr) (o:Obj) (m:Nat),its[i]?=some (.ref T)∧H b=some (.tup (k.map kV))∧s.heap.get? T=some o∧o.cls=.type "tuple"∧o.data=.seq #[.ref b,y] m:=by
  have one:∀(i:Nat) (p:List Key×V),ps[i]?=some p→∃(b:Addr) (y:Value) (T:Addr) (o:Obj) (m:Nat),RelV p.2 y∧its[i]?=some (.ref T)∧H b=some (.tup (p.1.map kV))∧s.heap.get? T=some o∧o.cls=.type "tuple"∧o.data=.seq #[.ref b,y] m:=λi p hi=>by
   obtain ⟨t,b,h1,h2,h3⟩:=hp i p hi;obtain ⟨u,hu,ru⟩:=rv.get h1;cases (show u=Value.ref t from ru)
   obtain ⟨_,js,rj,o,g1,g2,m,g3⟩:=tup_rd I.hok h2;obtain ⟨x,y,rfl,rx,ry⟩:=vals2 rj;cases (show x=Value.ref b from rx)
   exact ⟨b,y,t,o,m,ry,hu,h3,g1,g2,g3⟩
  clear hp q hl ha rv hl2 e z;clear hc;suffices go:∀(ps:List (List Key×V)) (its:List Value),(∀(i:Nat) (p:List Key×V),ps[i]?=some p→∃(b:Addr) (y:Value) (T:Addr) (o:Obj) (m:Nat),RelV p.2 y∧its[i]?=some (.ref T)∧H b=some (.tup (p.1.map kV))∧s.heap.get? T=some o∧o.cls=.type "tuple"∧o.data=.seq #[.ref b,y] m)→∃qs:List (List Key×Addr×Value),KT H ps qs∧∀(i:Nat) (k:List Key) (b:Addr) (y:Value),qs[i]?=some (k,b,y)→∃(T:Addr) (o:Obj) (m:Nat),its[i]?=some (.ref T)∧H b=some (.tup (k.map kV))∧s.heap.get? T=some o∧o.cls=.type "tuple"∧o.data=.seq #[.ref b,y] m from go ps its one
  intro ps;induction ps with
  | nil=>exact λits _=>⟨[],.nil,λi k b y h=>by simp at h⟩
  | cons p ps ih=>
   intro its one;obtain ⟨qs,k1,k2⟩:=ih its.tail λi p' hi=>by
    obtain ⟨b,y,T,o,m,h1,h2,h3⟩:=one (i+1) p' hi;exact ⟨b,y,T,o,m,h1,by rw[aeg];exact h2,h3⟩
   obtain ⟨b,y,T,o,m,h1,h2,h3,h4⟩:=one 0 p rfl;refine ⟨(p.1,b,y)::qs,.cons ⟨rfl,h3,h1⟩ k1,λi k b' y' hi=>?_⟩;cases i with
   | zero=>
    cases hi
    exact ⟨T,o,m,h2,h3,h4⟩
   | succ i=>
    obtain ⟨T,o,m,g1,g2⟩:=k2 i k b' y' hi;exact ⟨T,o,m,by rw[aeg] at g1;exact g1,g2⟩
 have lq:=Paired.length kt;refine Zd.ny (by omega) (I.ok.hd hc) e qs (by rw[aa5];omega) (λi k b y hi=>?_) (by omega) λh' tk hd keep=>?_
 ·obtain ⟨T,o,m,g1,g2,g3,g4,g5⟩:=hq i k b y hi;exact ⟨T,o,m,by rw[ad4];exact g1,(λz=>nomatch z),(λz=>nomatch z),ng I.hok g2,g3,g4,g5⟩
 ·have zl:(jn ps []).length≤sizeLine:=by
   have:=uq ps [];rw[acd] at this;omega
  have fr:=I.hok.fresh (aa3 s.heap.objs.size);obtain ⟨o,es,ep,r1,r2,r3,r4,_,r6⟩:=hd;refine ⟨.ref s.heap.objs.size,_,I.laid (t':=tk) (λb u e=>keep b u e) (aa3 _) (show cf X.prog X.w _ _ _ (.dT (jn ps [])) from ⟨zl,?_,_,(KT.merge kt .nil).keeps λc ys ec=>?_,o,es,ep,r1,r2,r3,r4,r6⟩),rfl,q _ fr⟩
  ·exact beq_eq_false_iff_ne.mpr (Ne.symm (aao I.big))
  ·rw[ah (af ec fr)];exact ec
end
namespace Zd
end Zd
end L2
namespace Pc
open PySem PySem.Spec L2 PyProof.Rows Fm
abbrev Ky:=Nat×Str
noncomputable def kyK (k:Ky):List Key:=[Sum.inl (k.1:Int),Sum.inr k.2]
theorem qi {a b:Ky} (h:kyK a=kyK b):a=b:=by
 obtain ⟨a1,a2⟩:=a;obtain ⟨b1,b2⟩:=b;unfold kyK at h;simp only[ace,Sum.inl.injEq,Sum.inr.injEq,and_true] at h;rw[h.2,show a1=b1 by omega]
noncomputable def kyT (k:Ky):HO:=.tup [.int (k.1:Int),.str k.2]
def cz (H:Hp) (d:Addr) (g:Ky→Option Int) (n:Nat):Prop:=∃kvs:List (List Key×V),H d=some (.dT kvs)∧kvs.length≤n∧∀k,cy kvs (kyK k)=(g k).map V.int
theorem cz.get {H:Hp} {d b:Addr} {g:Ky→Option Int} {n:Nat} {k:Ky} (h:cz H d g n) (hb:H b=some (kyT k)):kb H d (.ref b) ((g k).map V.int):=by
 obtain ⟨kvs,h1,_,h3⟩:=h;rw[←h3 k];exact kb.t h1 hb
theorem cz.val {H:Hp} {d b:Addr} {g:Ky→Option Int} {n:Nat} {k:Ky} {v:Int} (h:cz H d g n) (hb:H b=some (kyT k)) (e:g k=some v):kb H d (.ref b) (some (.int v)):=by
 have:=h.get hb;rw[e] at this;exact this
theorem cz.mono {H:Hp} {d:Addr} {g:Ky→Option Int} {n m:Nat} (h:cz H d g n) (e:n≤m):cz H d g m:=by
 obtain ⟨kvs,h1,h2,h3⟩:=h;exact ⟨kvs,h1,by omega,h3⟩
theorem cz.at {H H':Hp} {d:Addr} {g:Ky→Option Int} {n:Nat} (h:cz H d g n) (e:∀o,H d=some o→H' d=some o):cz H' d g n:=by
 obtain ⟨kvs,h1,h2⟩:=h;exact ⟨kvs,e _ h1,h2⟩
theorem cz.same {H H':Hp} {d:Addr} {g:Ky→Option Int} {n:Nat} (h:cz H d g n) (s:ak H H'):cz H' d g n:=h.at λo e=>s _ _ e
theorem cz.nil {H:Hp} {d:Addr}:cz (upd H d (.dT [])) d (λ_=>none) 0:=⟨[],ae,aa3 _,λ_=>rfl⟩
theorem cz.put {H:Hp} {d b:Addr} {g:Ky→Option Int} {n:Nat} {k:Ky} {v:Int} (h:cz H d g n) (hb:H b=some (kyT k)) (hn:n≤1000000):
  ∃o,Bn H d (.ref b) (.int v) (upd H d o)∧cz (upd H d o) d (iz g k v) (if (g k).isSome then n else n+1):=by
 obtain ⟨kvs,h1,h2,h3⟩:=h;have sz:=sizeLine_eq;refine ⟨.dT (putK kvs (kyK k) (.int v)),Bn.t h1 hb (by omega),_,ae,?_,λj=>?_⟩
 ·have hk:=h3 k;cases e:g k with
  | none=>
   have:=gf kvs (kyK k) (.int v);simp only[adj,abb,if_false];omega
  | some w=>
   rw[e] at hk;have ha:(kvs.any λkv=>decide (kv.1=kyK k))=true:=by rw[g7,hk];rfl
   simp only[acv,if_true];unfold putK;rw[if_pos ha,aa0];exact h2
 ·rw[L8];by_cases e:j=k
  ·subst e;rw[if_pos rfl,d4];rfl
  ·rw[if_neg (λz=>e (qi z)),gc e];exact h3 j
theorem cz.bound {H:Hp} {d:Addr} {g:Ky→Option Int} {n:Nat} (h:cz H d g n):∃D:Nat,∀k v,g k=some v→v≤(D:Int):=by
 obtain ⟨kvs,h1,_,h3⟩:=h;obtain ⟨B,hB⟩:=qh (λp:List Key×V=>match p.2 with | .int i=>i.toNat | _=>0) kvs;refine ⟨B,λk v e=>?_⟩;have hk:=h3 k;rw[e] at hk;unfold cy at hk;obtain ⟨p,hp,e2⟩:=Option.map_eq_some_iff.mp hk;have:=hB p (acr hp);rw[show p.2=V.int v from e2] at this;have:v.toNat≤B:=this;omega
structure Kx (no:Addr→Prop) (H H':Hp):Prop where
 t:∀{a:Addr} {xs:List V},H a=some (.tup xs)→H' a=some (.tup xs)
 l:∀{a:Addr} {xs:List V},¬no a→H a=some (.lst xs)→H' a=some (.lst xs)
theorem Kx.same {no:Addr→Prop} {H H':Hp} (s:ak H H'):Kx no H H':=⟨λh=>s _ _ h,λ_ h=>s _ _ h⟩
theorem Kx.trans {no:Addr→Prop} {H H1 H2:Hp} (a:Kx no H H1) (b:Kx no H1 H2):Kx no H H2:=⟨λh=>b.t (a.t h),λn h=>b.l n (a.l n h)⟩
theorem Kx.weak {no no':Addr→Prop} {H H':Hp} (a:Kx no H H') (h:∀x,no x→no' x):Kx no' H H':=⟨a.t,λn e=>a.l (λz=>n (h _ z)) e⟩
theorem Kx.upd {x:Addr} {H:Hp} {ys:List V} {o:HO} (h:H x=some (.lst ys)):Kx (·=x) H (L2.upd H x o):=⟨λe=>by rw[ah (gq e h (by intro z;cases z))];exact e,λn e=>by rw[ah n];exact e⟩
theorem Kx.dict {no:Addr→Prop} {d:Addr} {H H':Hp} {kvs:List (List Key×V)} (h:H d=some (.dT kvs)) (s:ao d H H'):Kx no H H':=⟨λe=>s _ _ (gq e h (by intro z;cases z)) e,λ_ e=>s _ _ (gq e h (by intro z;cases z)) e⟩
theorem Kx.tb {no:Addr→Prop} {d:Addr} {H H':Hp} {g:Ky→Option Int} {n:Nat} (h:cz H d g n) (s:ao d H H'):Kx no H H':=by
 obtain ⟨kvs,h1,_⟩:=h;exact Kx.dict h1 s
def tq (H:Hp) (l:Addr) (hs:List Ky):Prop:=∃as:List Addr,H l=some (.lst (as.map V.ref))∧as.length=hs.length∧∀(j:Nat) (k:Ky),hs[j]?=some k→∃a,as[j]?=some a∧H a=some (kyT k)
theorem tq.kx {no:Addr→Prop} {H H':Hp} {l:Addr} {hs:List Ky} (h:tq H l hs) (x:Kx no H H') (n:¬no l):tq H' l hs:=by
 obtain ⟨as,h1,h2,h3⟩:=h;exact ⟨as,x.l n h1,h2,λj k e=>by
  obtain ⟨a,g1,g2⟩:=h3 j k e;exact ⟨a,g1,x.t g2⟩⟩
theorem tq.same {H H':Hp} {l:Addr} {hs:List Ky} (h:tq H l hs) (s:ak H H'):tq H' l hs:=h.kx (no:=λ_=>False) (Kx.same s) id
structure Fr where
 name:Str
 kind:Str
 own:Int
 hs:List Ky
def FrAt (H:Hp) (no:Addr→Prop) (a:Addr) (f:Fr):Prop:=∃hl,¬no hl∧H a=some (.tup [.str f.name,.str f.kind,.int f.own,.ref hl])∧tq H hl f.hs
def dj (H:Hp) (no:Addr→Prop) (as:List Addr) (fs:List Fr):Prop:=as.length=fs.length∧∀(j:Nat) (f:Fr),fs[j]?=some f→∃a,as[j]?=some a∧FrAt H no a f
theorem dj.kx {no:Addr→Prop} {H H':Hp} {as:List Addr} {fs:List Fr} (h:dj H no as fs) (x:Kx no H H'):dj H' no as fs:=⟨h.1,λj f e=>by
 obtain ⟨a,g1,hl,g2,g3,g4⟩:=h.2 j f e;exact ⟨a,g1,hl,g2,x.t g3,g4.kx x g2⟩⟩
theorem dj.weak {no no':Addr→Prop} {H:Hp} {as:List Addr} {fs:List Fr} (h:dj H no as fs) (w:∀x,no' x→no x):dj H no' as fs:=⟨h.1,λj f e=>by
 obtain ⟨a,g1,hl,g2,g3⟩:=h.2 j f e;exact ⟨a,g1,hl,λz=>g2 (w _ z),g3⟩⟩
theorem dj.snoc {no:Addr→Prop} {H:Hp} {as:List Addr} {fs:List Fr} {a:Addr} {f:Fr} (h:dj H no as fs) (hf:FrAt H no a f):dj H no (as++[a]) (fs++[f]):=by
 refine ⟨by rw[aa2,aa2,h.1];rfl,λi f' hi=>?_⟩;by_cases c:i < fs.length
 ·rw[aaf c] at hi;obtain ⟨a',g1,g2⟩:=h.2 i f' hi;exact ⟨a',by rw[aaf (by rw[h.1];exact c)];exact g1,g2⟩
 ·rw[aad (by omega)] at hi;have hz:i - fs.length=0:=by
   rcases abl (i - fs.length) with g | g
   ·exact g
   ·rw[abd (by rw[aaa];omega)] at hi;cases hi
  rw[hz] at hi;cases hi
  exact ⟨a,by rw[aad (by rw[h.1];omega),h.1,hz];rfl,hf⟩
theorem dj.nil (H:Hp) (no:Addr→Prop):dj H no [] []:=⟨rfl,λj f h=>by simp at h⟩
noncomputable def aq (kinds:List Str) (sh:List V):List Str:=sh.filterMap λv=>match v with
 | .str z=>if z∈kinds then some z else none
 | _=>none
noncomputable def fo (p:Nat) (f:Fr):Ft Ky:=⟨(p,f.kind),f.own,f.hs⟩
noncomputable def mj (kinds:List Str) (ws:List V) (p:Nat) (r:Rl):Option Fr:=(bu kinds ws r.shape p ⟨[],[],[]⟩).map λu=>⟨r.name,r.kind,r.price,u.hs.zip (aq kinds r.shape)⟩
noncomputable def bq (kinds:List Str) (rs:List Rl) (ws:List V) (p:Nat):List Fr:=rs.filterMap (mj kinds ws p)
structure Rw where
 place:Nat
 kind:Str
 price:Int
 names:List Str
def RwAt (H:Hp) (no:Addr→Prop) (a:Addr) (r:Rw):Prop:=∃nl,¬no nl∧H a=some (.tup [.int (r.place:Int),.str r.kind,.int r.price,.ref nl])∧H nl=some (.lst (r.names.map V.str))
def cv (H:Hp) (no:Addr→Prop) (as:List Addr) (rs:List Rw):Prop:=as.length=rs.length∧∀(j:Nat) (r:Rw),rs[j]?=some r→∃a,as[j]?=some a∧RwAt H no a r
theorem cv.kx {no:Addr→Prop} {H H':Hp} {as:List Addr} {rs:List Rw} (h:cv H no as rs) (x:Kx no H H'):cv H' no as rs:=⟨h.1,λj f e=>by
 obtain ⟨a,g1,hl,g2,g3,g4⟩:=h.2 j f e;exact ⟨a,g1,hl,g2,x.t g3,x.l g2 g4⟩⟩
theorem cv.weak {no no':Addr→Prop} {H:Hp} {as:List Addr} {rs:List Rw} (h:cv H no as rs) (w:∀x,no' x→no x):cv H no' as rs:=⟨h.1,λj f e=>by
 obtain ⟨a,g1,hl,g2,g3⟩:=h.2 j f e;exact ⟨a,g1,hl,λz=>g2 (w _ z),g3⟩⟩
theorem cv.nil (H:Hp) (no:Addr→Prop):cv H no [] []:=⟨rfl,λj f h=>by simp at h⟩
theorem cv.append {no:Addr→Prop} {H:Hp} {as bs:List Addr} {rs qs:List Rw} (h:cv H no as rs) (h':cv H no bs qs):cv H no (as++bs) (rs++qs):=by
 refine ⟨by rw[aa2,aa2,h.1,h'.1],λi r hi=>?_⟩;by_cases c:i < rs.length
 ·rw[aaf c] at hi;obtain ⟨a',g1,g2⟩:=h.2 i r hi;exact ⟨a',by rw[aaf (by rw[h.1];exact c)];exact g1,g2⟩
 ·rw[aad (by omega)] at hi;obtain ⟨a',g1,g2⟩:=h'.2 _ r hi;exact ⟨a',by rw[aad (by rw[h.1];omega),h.1];exact g1,g2⟩
theorem cv.one {no:Addr→Prop} {H:Hp} {a:Addr} {r:Rw} (h:RwAt H no a r):cv H no [a] [r]:=⟨rfl,λj r' e=>by
 cases j with
 | zero=>cases e;exact ⟨a,rfl,h⟩
 | succ j=>simp at e⟩
noncomputable def namesW (fs:List Fr) (g:Ky→Option Int) (k:Str) (v:Int):List Str:=(fs.filter λf=>decide (f.kind=k∧cost g f.own f.hs=some v)).map (·.name)
noncomputable def dv (ks:List Str) (fs:List Fr) (p:Nat) (g:Ky→Option Int):List Rw:=ks.filterMap λk=>(g (p,k)).map λv=>⟨p,k,v,namesW fs g k v⟩
noncomputable def rowsOf (kinds:List Str) (rs:List Rl) (ws:List V) (g:Ky→Option Int):List Rw:=(aax ws.length).flatMap λp=>dv (df kinds) (bq kinds rs ws p) p g
noncomputable def fb (kinds:List Str) (rs:List Rl) (ws:List V):List (Ft Ky):=(aax ws.length).flatMap λp=>(bq kinds rs ws p).map (fo p)
def km (K:PySem.W.Frag):Sp:=λvs H Q _=>∃(st kt ut:Addr) (sh:List V) (kinds:List Str) (u:Und),vs=[.ref st,.ref kt,.ref ut]∧SqT K H st sh∧SqT K H kt (kinds.map V.str)∧vg H ut u∧Kinds kinds∧(∀v∈sh,isW v)∧sh.length≤1000∧u.hs.length=(aq kinds sh).length∧∀(l:Addr) (H':Hp),ak H H'→H l=none→tq H' l (u.hs.zip (aq kinds sh))→Q (.ref l) H'
def mf:Sp:=λvs H Q _=>∃(b wt:Addr) (kinds:List Str) (rs:List Rl) (ws:List V) (p:Nat),vs=[.ref b,.ref wt,.int (p:Int)]∧bh H b kinds rs∧H wt=some (.tup ws)∧Bk kinds rs∧Tw ws∧p < ws.length∧∀(l:Addr) (as:List Addr) (H':Hp),ak H H'→H l=none→H' l=some (.lst (as.map V.ref))→dj H' (λx=>H x≠none) as (bq kinds rs ws p)→Q (.ref l) H'
def ji:Sp:=λvs H Q _=>∃(own:Int) (hl d:Addr) (hs:List Ky) (g:Ky→Option Int) (n:Nat),vs=[.int own,.ref hl,.ref d]∧tq H hl hs∧cz H d g n∧Q (match cost g own hs with | none=>.non | some c=>.int c) H
def oz:Sp:=λvs H Q _=>∃(p:Nat) (fl d:Addr) (as:List Addr) (fs:List Fr) (g:Ky→Option Int) (n:Nat),vs=[.int (p:Int),.ref fl,.ref d]∧H fl=some (.lst (as.map V.ref))∧dj H (λ_=>False) as fs∧cz H d g n∧n+fs.length≤1000000∧(∀f∈fs,1≤f.own)∧(∀k v,g k=some v→1≤v)∧(∀k,k.1=p→g k=none)∧
 ∀(H':Hp) (g':Ky→Option Int),ao d H H'→cz H' d g' (n+fs.length)→mz (fs.map (fo p)) g'→(∀k,k.1≠p→g' k=g k)→(∀k v,k.1=p→g' k=some v→∃f∈fs.map (fo p),f.key=k∧∃c,cost g' f.own f.hs=some c∧c≤v)→(∀k v,g' k=some v→1≤v)→Q .non H'
def zv:Sp:=λvs H Q _=>∃(k:Str) (v:Int) (fl d:Addr) (as:List Addr) (fs:List Fr) (g:Ky→Option Int) (n:Nat),vs=[.str k,.int v,.ref fl,.ref d]∧H fl=some (.lst (as.map V.ref))∧dj H (λ_=>False) as fs∧fs.length≤1000∧cz H d g n∧∀(l:Addr) (H':Hp),ak H H'→H l=none→H' l=some (.lst ((namesW fs g k v).map V.str))→Q (.ref l) H'
def t5:Sp:=λvs H Q _=>∃(b fl d:Addr) (p:Nat) (kinds:List Str) (rs:List Rl) (as:List Addr) (fs:List Fr) (g:Ky→Option Int) (n:Nat),vs=[.ref b,.int (p:Int),.ref fl,.ref d]∧bh H b kinds rs∧kinds.length≤60∧H fl=some (.lst (as.map V.ref))∧dj H (λ_=>False) as fs∧fs.length≤1000∧cz H d g n∧∀(l:Addr) (bs:List Addr) (H':Hp),ak H H'→H l=none→H' l=some (.lst (bs.map V.ref))→cv H' (λx=>H x≠none) bs (dv (df kinds) fs p g)→Q (.ref l) H'
def zh:Sp:=λvs H Q _=>∃(b wt:Addr) (kinds:List Str) (rs:List Rl) (ws:List V),vs=[.ref b,.ref wt]∧bh H b kinds rs∧H wt=some (.tup ws)∧Bk kinds rs∧Tw ws∧∀(l:Addr) (bs:List Addr) (H':Hp) (g:Ky→Option Int),ak H H'→H l=none→H' l=some (.lst (bs.map V.ref))→Tbl (fb kinds rs ws) g→cv H' (λx=>H x≠none) bs (rowsOf kinds rs ws g)→Q (.ref l) H'
noncomputable def isH (kinds:List Str):V→Bool
 | .str z=>decide (z∈kinds)
 | _=>false
theorem zz {kinds:List Str} {v:V} (hv:isW v):inV v (kinds.map V.str)=isH kinds v:=by
 obtain ⟨k,rfl⟩:=hv;cases k with
 | inl i=>
  show inV (.int i) (kinds.map V.str)=false
  induction kinds with
  | nil=>rfl
  | cons z r ih=>exact ih
 | inr z=>
  show inV (.str z) (kinds.map V.str)=decide (z∈kinds)
  by_cases h:z∈kinds
  ·rw[decide_eq_true h];exact t4 (List.mem_map.mpr ⟨z,h,rfl⟩)
  ·rw[decide_eq_false h];cases e:inV (.str z) (kinds.map V.str) with
   | false=>rfl
   | true=>
    obtain ⟨y,hy,e'⟩:=List.mem_map.mp (me e);cases e'
    exact absurd hy h
theorem qa {kinds:List Str} (hk:Kinds kinds) {v:V} (hv:isW v):br kinds v=lH↔isH kinds v=true:=by
 obtain ⟨b1,b2,b3,_,_,_⟩:=lets;rcases dw (kinds:=kinds) hv with ⟨rfl,h⟩ | ⟨rfl,h⟩ | ⟨⟨z,hz,rfl⟩,h⟩ | ⟨h,hno⟩
 ·rw[h];refine ⟨λe=>absurd e b1,λe=>?_⟩;exact absurd rfl (hk _ (of_decide_eq_true (show decide (Str.ofString "any"∈kinds)=true from e))).2.1
 ·rw[h];refine ⟨λe=>absurd e b2,λe=>?_⟩;exact absurd rfl (hk _ (of_decide_eq_true (show decide (Str.ofString "var"∈kinds)=true from e))).2.2
 ·exact ⟨λ_=>decide_eq_true hz,λ_=>h⟩
 ·rw[h];refine ⟨λe=>absurd e b3,λe=>?_⟩;rw[zz hv,e] at hno;cases hno
theorem Dy (kinds:List Str) (v:V) (r:List V):aq kinds (v::r)=(match v with | .str z=>if z∈kinds then [z] else [] | _=>[])++aq kinds r:=by
 unfold aq;rw[abw];cases v with
 | str z=>
  by_cases h:z∈kinds
  ·simp[h]
  ·simp[h]
 | _=>rfl
theorem jc (kinds:List Str):∀(sh:List V),(aq kinds sh).map V.str=sh.filter (isH kinds)
 | []=>rfl
 | v::r=>by
  rw[Dy,aa8,jc kinds r,aar];cases v with
  | str z=>
   by_cases h:z∈kinds
   ·simp[h,isH]
   ·simp[h,isH]
  | _=>simp[isH]
theorem Hh (kinds:List Str) (v:V) (r:List V):(aq kinds (v::r)).length=(if isH kinds v=true then 1 else 0)+(aq kinds r).length:=by
 have e:=congrArg ad0 (jc kinds (v::r));have e':=congrArg ad0 (jc kinds r);rw[aa0] at e e';rw[e,e',aar];by_cases h:isH kinds v=true
 ·rw[if_pos h,if_pos h,aai];omega
 ·rw[if_neg h,if_neg h];omega
theorem ju {kinds:List Str} {ws:List V} (hk:Kinds kinds):∀(sh:List V) (p:Nat) (u u':Und),(∀v∈sh,isW v)→bu kinds ws sh p u=some u'→u'.hs.length=u.hs.length+(aq kinds sh).length∧∀h∈u'.hs,h∈u.hs∨p≤h
 | [],p,u,u',_,h=>by
  have h:some u=some u':=h;cases h
  exact ⟨rfl,λ_ m=>.inl m⟩
 | v::r,p,u,u',hw,h=>by
  rw[gb] at h;by_cases c:lies (br kinds v) v (ws.getD p .non)=true
  ·rw[if_pos c] at h;obtain ⟨i1,i2⟩:=ju hk r _ _ u' (λx m=>hw x (aab _ m)) h;have hv:=hw v aa7;rw[Hh];by_cases e:isH kinds v=true
   ·have e':=(qa hk hv).mpr e;have ep:u.put (br kinds v) p (ws.getD p .non)=⟨u.hs++[p],u.ns,u.vs⟩:=by
     unfold Und.put;rw[if_pos e']
    rw[ep] at i1 i2;rw[if_pos e'] at i2;rw[if_pos e];have i1:u'.hs.length=(u.hs++[p]).length+(aq kinds r).length:=i1;rw[aa2,aaa] at i1;refine ⟨by omega,λh m=>?_⟩;have le:p≤endAt ws p:=aay _ _;rcases i2 h m with g | g
    ·rcases List.mem_append.mp (show h∈u.hs++[p] from g) with g | g
     ·exact .inl g
     ·rw[List.mem_singleton.mp g];exact .inr (aa3 _)
    ·exact .inr (by omega)
   ·have e':¬br kinds v=lH:=λz=>e ((qa hk hv).mp z);have ep:(u.put (br kinds v) p (ws.getD p .non)).hs=u.hs:=by
     unfold Und.put;rw[if_neg e'];split
     ·rfl
     split
     ·rfl
     ·rfl
    rw[ep] at i1 i2;rw[if_neg e'] at i2;rw[if_neg e];refine ⟨by omega,λh m=>?_⟩;rcases i2 h m with g | g
    ·exact .inl g
    ·exact .inr (by omega)
  ·rw[if_neg c] at h;cases h
theorem i9 {kinds:List Str} {rs:List Rl} {ws:List V} (bk:Bk kinds rs) {p:Nat} {f:Fr} (h:f∈bq kinds rs ws p):1≤f.own∧f.kind∈kinds∧(∀k∈f.hs,p≤k.1)∧∃r∈rs,r.name=f.name∧r.kind=f.kind∧r.price=f.own∧∃u,bu kinds ws r.shape p ⟨[],[],[]⟩=some u∧f.hs=u.hs.zip (aq kinds r.shape):=by
 obtain ⟨r,hr,e⟩:=List.mem_filterMap.mp h;obtain ⟨u,hu,rfl⟩:=Option.map_eq_some_iff.mp e;refine ⟨bk.pr r hr,bk.rk r hr,λk hk=>?_,r,hr,rfl,rfl,rfl,u,hu,rfl⟩;have:=(ju bk.kd r.shape p _ u (bk.sh r hr).1 hu).2 k.1 (ac2 (show (k.1,k.2)∈u.hs.zip (aq kinds r.shape) from hk)).1;rcases this with g | g
 ·cases g
 ·exact g
theorem Md (kinds:List Str) (rs:List Rl) (ws:List V) (p:Nat):(bq kinds rs ws p).length≤rs.length:=abu _ _
noncomputable def gOf (H:Hp) (d:Addr):Ky→Option Int:=λk=>match H d with
 | some (.dT kvs)=>match cy kvs (kyK k) with
  | some (.int i)=>some i
  | _=>none
 | _=>none
theorem Lw {H:Hp} {d:Addr} {g:Ky→Option Int} {n:Nat} (h:cz H d g n):gOf H d=g:=by
 obtain ⟨kvs,h1,_,h3⟩:=h;funext k
 unfold gOf;rw[h1];show (match cy kvs (kyK k) with | some (.int i)=>some i | _=>none)=g k
 rw[h3 k];cases g k <;> rfl
structure SetI (p:Nat) (fs:List Fr) (g0:Ky→Option Int) (Ok:(Ky→Option Int)→Prop) (g:Ky→Option Int):Prop where
 ok:Ok g
 far:∀k,k.1≠p→g k=g0 k
 due:∀k v,k.1=p→g k=some v→∃f∈fs.map (fo p),f.key=k∧∃c,cost g f.own f.hs=some c∧c≤v
theorem SetI.put {p:Nat} {fs:List Fr} {g0:Ky→Option Int} {Ok:(Ky→Option Int)→Prop} {g:Ky→Option Int} (h:SetI p fs g0 Ok g) {f:Fr} (hf:f∈fs) {c:Int} (hc:cost g f.own f.hs=some c) (im:Imp g (p,f.kind) c) (ok':Ok (iz g (p,f.kind) c)):SetI p fs g0 Ok (iz g (p,f.kind) c):=by
 refine ⟨ok',λk hk=>?_,λk v hk hv=>?_⟩
 ·rw[gc λe=>hk (by rw[e])];exact h.far k hk
 ·have up:∀{f':Ft Ky} {c':Int},cost g f'.own f'.hs=some c'→∃x,cost (iz g (p,f.kind) c) f'.own f'.hs=some x∧x≤c':=λh=>Al (λk _ v hv=>im.le hv) (abg _) h;by_cases e:k=(p,f.kind)
  ·subst e;rw[d4] at hv;cases hv
   obtain ⟨x,hx,le⟩:=up (f':=fo p f) hc;exact ⟨fo p f,List.mem_map.mpr ⟨f,hf,rfl⟩,rfl,x,hx,le⟩
  ·rw[gc e] at hv;obtain ⟨f',hf',e',c',hc',le⟩:=h.due k v hk hv;obtain ⟨x,hx,le'⟩:=up hc';exact ⟨f',hf',e',x,hx,by omega⟩
def M1 (p:Nat) (g:Ky→Option Int) (f:Fr):Prop:=∀c,cost g f.own f.hs=some c→∃v,g (p,f.kind)=some v∧v≤c
theorem Hn {p:Nat} {fs:List Fr} {g:Ky→Option Int} (h:∀(j:Nat) (f:Fr),fs[j]?=some f→M1 p g f):mz (fs.map (fo p)) g:=λf' hf' c hc=>by
 obtain ⟨f,hf,rfl⟩:=List.mem_map.mp hf';obtain ⟨j,hj⟩:=List.mem_iff_getElem?.mp hf;exact h j f hj c hc
theorem cnt_up {p:Nat} {fs:List Fr} {g:Ky→Option Int} {f:Fr} (hf:f∈fs) {c:Int} {n:Nat}:(if (g (p,f.kind)).isSome then n+cnt (fs.map (fo p)) g else n+cnt (fs.map (fo p)) g+1)≤n+cnt (fs.map (fo p)) (iz g (p,f.kind) c):=by
 cases e:g (p,f.kind) with
 | none=>
  have:=Ab (c:=c) e (fs.map (fo p)) ⟨fo p f,List.mem_map.mpr ⟨f,hf,rfl⟩,rfl⟩;simp only[adj,abb,if_false];omega
 | some v=>
  have:=qb (g:=g) (g':=iz g (p,f.kind) c) (fs.map (fo p)) λf' _ e=>by
   by_cases q:f'.key=(p,f.kind)
   ·rw[q,d4];rfl
   ·rw[gc q];exact e
  simp only[acv,if_true];omega
theorem ao.tb {d:Addr} {H:Hp} (o:HO):ao d H (L2.upd H d o):=λb u n h=>by rw[ah n];exact h
noncomputable def blAt (σ:List (Option V)):Nat:=match σ[3]? with
 | some (some (V.bl false))=>1
 | _=>0
structure xt (kinds:List Str) (rs:List Rl) (ws:List V) (p:Nat) (g:Ky→Option Int):Prop where
 at':∀k v,g k=some v→p≤k.1∧k.1 < ws.length
 st:∀q,p≤q→q < ws.length→mz ((bq kinds rs ws q).map (fo q)) g
 due:∀k v,g k=some v→∃f∈(bq kinds rs ws k.1).map (fo k.1),f.key=k∧∃c,cost g f.own f.hs=some c∧c≤v
 pos:∀k v,g k=some v→1≤v
theorem xt.start (kinds:List Str) (rs:List Rl) (ws:List V):xt kinds rs ws ws.length (λ_=>none):=⟨(λk v h=>nomatch h),(λq h1 h2=>by omega),(λk v h=>nomatch h),(λk v h=>nomatch h)⟩
theorem xj {kinds:List Str} {rs:List Rl} {ws:List V} (bk:Bk kinds rs) {p q:Nat} {g g':Ky→Option Int} (hq:p < q) (far:∀k,k.1≠p→g' k=g k) {f:Fr} (hf:f∈bq kinds rs ws q) (c:Int):cost g' c f.hs=cost g c f.hs:=uw λk hk=>far k (by have:=(i9 bk hf).2.2.1 k hk;omega)
theorem xt.step {kinds:List Str} {rs:List Rl} {ws:List V} (bk:Bk kinds rs) {p:Nat} {g g':Ky→Option Int} (h:xt kinds rs ws (p+1) g) (hp:p < ws.length) (st:mz ((bq kinds rs ws p).map (fo p)) g') (far:∀k,k.1≠p→g' k=g k)
  (due:∀k v,k.1=p→g' k=some v→∃f∈(bq kinds rs ws p).map (fo p),f.key=k∧∃c,cost g' f.own f.hs=some c∧c≤v) (pos:∀k v,g' k=some v→1≤v):xt kinds rs ws p g':=by
 refine ⟨λk v hv=>?_,λq h1 h2=>?_,λk v hv=>?_,pos⟩
 ·by_cases e:k.1=p
  ·omega
  ·rw[far k e] at hv;have:=h.at' k v hv;omega
 ·by_cases e:q=p
  ·subst e;exact st
  ·intro f hf c hc;obtain ⟨f',hf',rfl⟩:=List.mem_map.mp hf;have hc:cost g' f'.own f'.hs=some c:=hc;rw[xj bk (show p < q by omega) far hf'] at hc;obtain ⟨v,hv,le⟩:=h.st q (by omega) h2 (fo q f') hf c hc;exact ⟨v,by rw[far _ (show q≠p from e)];exact hv,le⟩
 ·by_cases e:k.1=p
  ·obtain ⟨f,hf,e1,r⟩:=due k v e hv;rw[e];exact ⟨f,hf,e1,r⟩
  ·rw[far k e] at hv;obtain ⟨f,hf,e1,c,hc,le⟩:=h.due k v hv;obtain ⟨f',hf',rfl⟩:=List.mem_map.mp hf;have:=(h.at' k v hv).1;refine ⟨_,hf,e1,c,?_,le⟩;show cost g' f'.own f'.hs=some c
   rw[xj bk (show p < k.1 by omega) far hf'];exact hc
theorem K0 {kinds:List Str} {rs:List Rl} {ws:List V} (bk:Bk kinds rs) {p q:Nat} {g g':Ky→Option Int} (hq:p < q) (far:∀k,k.1≠p→g' k=g k) (ks:List Str):dv ks (bq kinds rs ws q) q g'=dv ks (bq kinds rs ws q) q g:=by
 unfold dv;have e:(λk=>(g' (q,k)).map λv=>(⟨q,k,v,namesW (bq kinds rs ws q) g' k v⟩:Rw))=λk=>(g (q,k)).map λv=>⟨q,k,v,namesW (bq kinds rs ws q) g k v⟩:=by
  funext k
  rw[far (q,k) (show q≠p by omega)];congr 1
  funext v
  congr 1
  unfold namesW;congr 1
  apply List.filter_congr
  intro f hf;rw[xj bk hq far hf]
 rw[e]
theorem xt.tbl {kinds:List Str} {rs:List Rl} {ws:List V} {g:Ky→Option Int} (h:xt kinds rs ws 0 g):Tbl (fb kinds rs ws) g:=by
 refine ⟨λf hf c hc=>?_,λk v hv=>?_,h.pos⟩
 ·obtain ⟨q,hq,hf⟩:=List.mem_flatMap.mp hf;exact h.st q (aa6 _) (List.mem_range.mp hq) f hf c hc
 ·obtain ⟨f,hf,e,r⟩:=h.due k v hv;exact ⟨f,List.mem_flatMap.mpr ⟨k.1,List.mem_range.mpr (h.at' k v hv).2,hf⟩,e,r⟩
def gr (H0 H:Hp) (pl:Addr) (pa:List Addr) (kinds:List Str) (rs:List Rl) (ws:List V) (p:Nat) (g:Ky→Option Int):Prop:=pa.length=ws.length - p∧∀q,p≤q→q < ws.length→∃a bs,pa[ws.length - 1 - q]?=some a∧¬(H0 a≠none∨a=pl)∧H a=some (.lst (bs.map V.ref))∧cv H (λx=>H0 x≠none∨x=pl) bs (dv (df kinds) (bq kinds rs ws q) q g)
theorem gr.kx {H0 H H':Hp} {pl:Addr} {pa:List Addr} {kinds:List Str} {rs:List Rl} {ws:List V} {p:Nat} {g:Ky→Option Int} (h:gr H0 H pl pa kinds rs ws p g) (x:Kx (λx=>H0 x≠none∨x=pl) H H'):gr H0 H' pl pa kinds rs ws p g:=⟨h.1,λq h1 h2=>by
 obtain ⟨a,bs,g1,g2,g3,g4⟩:=h.2 q h1 h2;exact ⟨a,bs,g1,g2,x.l g2 g3,g4.kx x⟩⟩
theorem gr.snoc {H0 H:Hp} {pl:Addr} {pa:List Addr} {kinds:List Str} {rs:List Rl} {ws:List V} {p:Nat} {g g':Ky→Option Int} (bk:Bk kinds rs) (h:gr H0 H pl pa kinds rs ws (p+1) g) (hp:p < ws.length) (far:∀k,k.1≠p→g' k=g k) {a:Addr} {bs:List Addr} (ha:¬(H0 a≠none∨a=pl)) (h1:H a=some (.lst (bs.map V.ref))) (h2:cv H (λx=>H0 x≠none∨x=pl) bs (dv (df kinds) (bq kinds rs ws p) p g')):gr H0 H pl (pa++[a]) kinds rs ws p g':=by
 have hl:=h.1;refine ⟨by rw[aa2,aaa,hl];omega,λq h3 h4=>?_⟩;by_cases e:q=p
 ·subst e;exact ⟨a,bs,by rw[aad (by omega),hl,show ws.length - 1 - q - (ws.length - (q+1))=0 by omega];rfl,ha,h1,h2⟩
 ·obtain ⟨a',bs',g1,g2,g3,g4⟩:=h.2 q (by omega) h4;refine ⟨a',bs',by rw[aaf (by omega)];exact g1,g2,g3,?_⟩;rw[K0 bk (show p < q by omega) far];exact g4
theorem vn (ks:List Str) (fs:List Fr) (p:Nat) (g:Ky→Option Int):(dv ks fs p g).length≤ks.length:=abu _ _
noncomputable def m6 (kinds:List Str) (rs:List Rl) (ws:List V) (g:Ky→Option Int) (i:Nat):List Rw:=(aax i).flatMap λp=>dv (df kinds) (bq kinds rs ws p) p g
theorem kq (kinds:List Str) (rs:List Rl) (ws:List V) (g:Ky→Option Int) (i:Nat):m6 kinds rs ws g (i+1)=m6 kinds rs ws g i++dv (df kinds) (bq kinds rs ws i) i g:=by
 unfold m6;rw[aex,List.flatMap_append];simp
theorem m4 (kinds:List Str) (rs:List Rl) (ws:List V) (g:Ky→Option Int) (hk:kinds.length≤60):∀i,(m6 kinds rs ws g i).length≤60*i
 | 0=>aa3 _
 | i+1=>by
  rw[kq,aa2];have h1:=m4 kinds rs ws g hk i;have h2:=vn (df kinds) (bq kinds rs ws i) i g;rw[qx] at h2;omega
theorem m7 {kinds:List Str} {rs:List Rl} {ws:List V} {g:Ky→Option Int} (T:Tbl (fb kinds rs ws) g) {r:Rw} (h:r∈rowsOf kinds rs ws g):∃nm,r.names.head?=some nm:=by
 obtain ⟨p,hp,h⟩:=List.mem_flatMap.mp h;obtain ⟨k,hk,e⟩:=List.mem_filterMap.mp h;obtain ⟨v,hv,rfl⟩:=Option.map_eq_some_iff.mp e;obtain ⟨f,hf,e1,hc⟩:=T.exact hv;obtain ⟨p',_,hf⟩:=List.mem_flatMap.mp hf;obtain ⟨f',hf',rfl⟩:=List.mem_map.mp hf;have e1:(p',f'.kind)=(p,k):=e1;obtain ⟨rfl,rfl⟩:=Prod.mk.inj e1;have hm:f'.name∈namesW (bq kinds rs ws p') g f'.kind v:=List.mem_map.mpr ⟨f',List.mem_filter.mpr ⟨hf',decide_eq_true ⟨rfl,hc⟩⟩,rfl⟩;show ∃nm,(namesW (bq kinds rs ws p') g f'.kind v).head?=some nm
 cases e:namesW (bq kinds rs ws p') g f'.kind v with
 | nil=>rw[e] at hm;cases hm
 | cons x xs=>exact ⟨x,rfl⟩
def tm (H:Hp) (bs:List Addr) (rows:List Rw):Prop:=bs.length=rows.length∧∀(j:Nat) (r:Rw),rows[j]?=some r→∃a nm,bs[j]?=some a∧r.names.head?=some nm∧H a=some (.tup [.int (r.place:Int),.str r.kind,.int r.price,.str nm])
theorem tm.same {H H':Hp} {bs:List Addr} {rows:List Rw} (h:tm H bs rows) (s:ak H H'):tm H' bs rows:=⟨h.1,λj r e=>by
 obtain ⟨a,nm,h1,h2,h3⟩:=h.2 j r e;exact ⟨a,nm,h1,h2,s _ _ h3⟩⟩
def ko:Sp:=λvs H Q _=>∃(b wt:Addr) (kinds:List Str) (rs:List Rl) (ws:List V),vs=[.ref b,.ref wt]∧bh H b kinds rs∧H wt=some (.tup ws)∧Bk kinds rs∧Tw ws∧∀(l:Addr) (bs:List Addr) (H':Hp) (g:Ky→Option Int),ak H H'→H l=none→H' l=some (.lst (bs.map V.ref))→Tbl (fb kinds rs ws) g→tm H' bs (rowsOf kinds rs ws g)→Q (.ref l) H'
theorem tm.tk {H H':Hp} {bs:List Addr} {rows:List Rw} (h:tm H bs rows) (s:TK H H'):tm H' bs rows:=⟨h.1,λj r e=>by
 obtain ⟨a,nm,h1,h2,h3⟩:=h.2 j r e;exact ⟨a,nm,h1,h2,s _ _ h3⟩⟩
theorem tm.snoc {H:Hp} {bs:List Addr} {rows:List Rw} (h:tm H bs rows) {a:Addr} {r:Rw} {nm:Str} (hn:r.names.head?=some nm) (ha:H a=some (.tup [.int (r.place:Int),.str r.kind,.int r.price,.str nm])):tm H (bs++[a]) (rows++[r]):=by
 refine ⟨by rw[aa2,aa2,h.1];rfl,λi r' hi=>?_⟩;by_cases c:i < rows.length
 ·rw[aaf c] at hi;obtain ⟨a',nm',g1,g2⟩:=h.2 i r' hi;exact ⟨a',nm',by rw[aaf (by rw[h.1];exact c)];exact g1,g2⟩
 ·rw[aad (by omega)] at hi;have hz:i - rows.length=0:=by
   rcases abl (i - rows.length) with g | g
   ·exact g
   ·rw[abd (by rw[aaa];omega)] at hi;cases hi
  rw[hz] at hi;cases hi
  exact ⟨a,nm,by rw[aad (by rw[h.1];omega),h.1,hz];rfl,hn,ha⟩
theorem cv.get {no:Addr→Prop} {H:Hp} {as:List Addr} {rows:List Rw} (h:cv H no as rows) {i:Nat} {t:Addr} (ht:as[i]?=some t):∃r nl,rows[i]?=some r∧H t=some (.tup [.int (r.place:Int),.str r.kind,.int r.price,.ref nl])∧H nl=some (.lst (r.names.map V.str)):=by
 have hi:i < rows.length:=by rw[←h.1];exact (List.getElem?_eq_some_iff.mp ht).1
 obtain ⟨a,h1,nl,_,h3,h4⟩:=h.2 i _ (aa1 hi);obtain rfl:a=t:=aa4 (h1.symm.trans ht);exact ⟨_,nl,aa1 hi,h3,h4⟩
theorem nk {kinds:List Str} {rs:List Rl} {ws:List V} {g:Ky→Option Int} (bk:Bk kinds rs) (tw:Tw ws):(rowsOf kinds rs ws g).length≤60000:=by
 have h1:=m4 kinds rs ws g bk.kl ws.length;have h2:=tw.len;have h1:(rowsOf kinds rs ws g).length≤60*ws.length:=h1;omega
theorem cut2 (a b c d:V):jh [a,b,c,d] none (some 2)=[a,b]:=pf [a,b,c,d] 2 (by show (2:Nat)≤4;decide)
noncomputable def gi (r:Rw):Ky:=(r.place,r.kind)
theorem sy (fs:List Fr) (p:Nat) (g:Ky→Option Int):∀ks:List Str,(dv ks fs p g).map gi=(ks.filter λk=>(g (p,k)).isSome).map λk=>(p,k)
 | []=>rfl
 | k::ks=>by
  have ih:=sy fs p g ks;unfold dv at ih ⊢;rw[abw,aar];cases e:g (p,k) with
  | none=>simpa using ih
  | some v=>
   show gi ⟨p,k,v,_⟩::_=_
   rw[if_pos (by rfl),aaw];congr 1
theorem Eb {kinds:List Str} (h:kinds.Nodup):(df kinds).Nodup:=(ic kinds).nodup_iff.mpr h
theorem lr {α β:Type} {f:α→β} (hf:∀a b,f a=f b→a=b):∀{l:List α},l.Nodup→(l.map f).Nodup
 | [],_=>adf
 | a::l,h=>by
  obtain ⟨h1,h2⟩:=List.nodup_cons.mp h;rw[aaw];refine List.nodup_cons.mpr ⟨λm=>?_,lr hf h2⟩;obtain ⟨b,hb,e⟩:=List.mem_map.mp m;exact h1 (hf _ _ e ▸ hb)
theorem jk {kinds:List Str} (hk:kinds.Nodup) (rs:List Rl) (ws:List V) (g:Ky→Option Int):∀i,((m6 kinds rs ws g i).map gi).Nodup∧∀k∈(m6 kinds rs ws g i).map gi,k.1 < i
 | 0=>⟨adf,λk h=>nomatch h⟩
 | i+1=>by
  obtain ⟨h1,h2⟩:=jk hk rs ws g i;rw[kq,aa8,sy];have one:∀k∈((df kinds).filter λk=>(g (i,k)).isSome).map (λk=>(i,k)),k.1=i:=λk hk=>by
   obtain ⟨z,_,rfl⟩:=List.mem_map.mp hk;rfl
  refine ⟨List.nodup_append.mpr ⟨h1,lr (λa b e=>(Prod.mk.inj e).2) ((Eb hk).sublist List.filter_sublist),λa ha b hb e=>?_⟩,λk hk=>?_⟩
  ·have:=h2 a ha;have:=one b hb;rw[e] at*;omega
  ·rcases List.mem_append.mp hk with m | m
   ·have:=h2 k m;omega
   ·have:=one k m;omega
theorem i8 {kinds:List Str} {rs:List Rl} {ws:List V} {g:Ky→Option Int} {r:Rw} (h:r∈rowsOf kinds rs ws g):r.place < ws.length∧g (r.place,r.kind)=some r.price∧r.names=namesW (bq kinds rs ws r.place) g r.kind r.price:=by
 obtain ⟨p,hp,h⟩:=List.mem_flatMap.mp h;obtain ⟨k,hk,e⟩:=List.mem_filterMap.mp h;obtain ⟨v,hv,rfl⟩:=Option.map_eq_some_iff.mp e;exact ⟨List.mem_range.mp hp,hv,rfl⟩
theorem ou {kinds:List Str} {rs:List Rl} {ws:List V} {g:Ky→Option Int} (bk:Bk kinds rs) (T:Tbl (fb kinds rs ws) g) {k:Ky} {v:Int} (h:g k=some v):∃r∈rowsOf kinds rs ws g,r.place=k.1∧r.kind=k.2∧r.price=v:=by
 obtain ⟨f,hf,e,_⟩:=T.exact h;obtain ⟨p,hp,hf⟩:=List.mem_flatMap.mp hf;obtain ⟨f',hf',rfl⟩:=List.mem_map.mp hf;have e:(p,f'.kind)=k:=e;subst e;refine ⟨⟨p,f'.kind,v,namesW (bq kinds rs ws p) g f'.kind v⟩,List.mem_flatMap.mpr ⟨p,hp,List.mem_filterMap.mpr ⟨f'.kind,Hg.mpr (i9 bk hf').2.1,?_⟩⟩,rfl,rfl,rfl⟩;rw[h];rfl
noncomputable def gp (r:Rw):List Key×V:=(kyK (gi r),.int r.price)
theorem yq:∀(ps acc:List (List Key×V)),((acc++ps).map (·.1)).Nodup→jn ps acc=acc++ps
 | [],acc,_=>(ab7 _).symm
 | p::ps,acc,h=>by
  have hn:cy acc p.1=none:=by
   cases e:cy acc p.1 with
   | none=>rfl
   | some v=>
    have hm:=ui e;rw[aa8] at h;exact absurd rfl ((List.nodup_append.mp h).2.2 _ hm _ (List.mem_map.mpr ⟨p,aa7,rfl⟩))
  show jn ps (putK acc p.1 p.2)=_
  rw[Dh p.2 hn,yq ps _ (by rw[abn];exact h),abn];rfl
theorem zy {κ:Type} [DecidableEq κ]:∀{ps:List (κ×V)} {k:κ} {v:V},(ps.map (·.1)).Nodup→(k,v)∈ps→cy ps k=some v
 | [],_,_,_,h=>nomatch h
 | p::ps,k,v,nd,h=>by
  have nd:(p.1::ps.map (·.1)).Nodup:=nd;obtain ⟨n1,n2⟩:=List.nodup_cons.mp nd;rcases List.mem_cons.mp h with e | h
  ·rw[b9 (by rw[←e]),←e]
  ·have ne:¬p.1=k:=λe=>n1 (e ▸ List.mem_map.mpr ⟨_,h,rfl⟩);rw[b8 ne];exact zy n2 h
theorem P7 {kinds:List Str} {rs:List Rl} {ws:List V} {g:Ky→Option Int} (bk:Bk kinds rs) (T:Tbl (fb kinds rs ws) g):jn ((rowsOf kinds rs ws g).map gp) []=(rowsOf kinds rs ws g).map gp∧∀k,cy ((rowsOf kinds rs ws g).map gp) (kyK k)=(g k).map V.int:=by
 have nd0:=(jk bk.kn rs ws g ws.length).1;have nd:(((rowsOf kinds rs ws g).map gp).map (·.1)).Nodup:=by
  rw[ac0];have e:((λp:List Key×V=>p.1) ∘ gp)=kyK ∘ gi:=rfl;rw[e,←ac0];exact lr (λa b e=>qi e) nd0
 refine ⟨by rw[yq _ [] (by rw[adz];exact nd)];rfl,λk=>?_⟩;cases e:g k with
 | some v=>
  obtain ⟨r,hr,h1,h2,h3⟩:=ou bk T e;refine zy nd (List.mem_map.mpr ⟨r,hr,?_⟩);unfold gp gi;rw[h1,h2,h3]
 | none=>
  cases e2:cy ((rowsOf kinds rs ws g).map gp) (kyK k) with
  | none=>rfl
  | some v=>
   obtain ⟨p,hp,ep⟩:=List.mem_map.mp (ui e2);obtain ⟨r,hr,rfl⟩:=List.mem_map.mp hp;have hk:gi r=k:=qi ep;have:=(i8 hr).2.1;rw[show (r.place,r.kind)=k from hk,e] at this;cases this
theorem Bh {kinds:List Str} {rs:List Rl} {ws:List V} {g:Ky→Option Int} (bk:Bk kinds rs) {r:Rw} (h:r∈rowsOf kinds rs ws g) {nm:Str} (hn:nm∈r.names):∃(i:Nat) (rl:Rl) (u:Und),rs[i]?=some rl∧rl.name=nm∧rl.kind=r.kind∧bu kinds ws rl.shape r.place ⟨[],[],[]⟩=some u∧cost g rl.price (u.hs.zip (aq kinds rl.shape))=some r.price:=by
 rw[(i8 h).2.2] at hn;obtain ⟨f,hf,e⟩:=List.mem_map.mp hn;obtain ⟨hf,c⟩:=List.mem_filter.mp hf;obtain ⟨c1,c2⟩:=of_decide_eq_true c;obtain ⟨_,_,_,rl,hr,n1,n2,n3,u,hu,hh⟩:=i9 bk hf;obtain ⟨i,hi⟩:=List.mem_iff_getElem?.mp hr;exact ⟨i,rl,u,hi,by rw[n1,e],by rw[n2,c1],hu,by rw[n3,←hh];exact c2⟩
theorem Bp {kinds:List Str} {rs:List Rl} {ws:List V} (bk:Bk kinds rs):∀f∈fb kinds rs ws,1≤f.own:=λf hf=>by
 obtain ⟨p,_,hf⟩:=List.mem_flatMap.mp hf;obtain ⟨f',hf',rfl⟩:=List.mem_map.mp hf;exact (i9 bk hf').1
def ku (K:PySem.W.Frag):Sp:=λvs H Q _=>∃(kt st:Addr) (kinds:List Str) (sh:List V),vs=[.ref kt,.ref st]∧SqT K H kt (kinds.map V.str)∧SqT K H st sh∧(∀v∈sh,isW v)∧sh.length≤1000∧∀(l:Addr) (H':Hp),ak H H'→H l=none→H' l=some (.lst ((aq kinds sh).map V.str))→Q (.ref l) H'
def uu (H:Hp) (cs:List Addr) (rows:List Rw):Prop:=cs.length=rows.length∧∀(j:Nat) (r:Rw),rows[j]?=some r→∃c k,cs[j]?=some c∧H c=some (.tup [.ref k,.int r.price])∧H k=some (kyT (gi r))
theorem uu.tk {H H':Hp} {cs:List Addr} {rows:List Rw} (h:uu H cs rows) (s:TK H H'):uu H' cs rows:=⟨h.1,λj r e=>by
 obtain ⟨c,k,h1,h2,h3⟩:=h.2 j r e;exact ⟨c,k,h1,s _ _ h2,s _ _ h3⟩⟩
theorem uu.snoc {H:Hp} {cs:List Addr} {rows:List Rw} (h:uu H cs rows) {c k:Addr} {r:Rw} (hc:H c=some (.tup [.ref k,.int r.price])) (hk:H k=some (kyT (gi r))):uu H (cs++[c]) (rows++[r]):=by
 refine ⟨by rw[aa2,aa2,h.1];rfl,λi r' hi=>?_⟩;by_cases c':i < rows.length
 ·rw[aaf c'] at hi;obtain ⟨a',nm',g1,g2⟩:=h.2 i r' hi;exact ⟨a',nm',by rw[aaf (by rw[h.1];exact c')];exact g1,g2⟩
 ·rw[aad (by omega)] at hi;have hz:i - rows.length=0:=by
   rcases abl (i - rows.length) with g | g
   ·exact g
   ·rw[abd (by rw[aaa];omega)] at hi;cases hi
  rw[hz] at hi;cases hi
  exact ⟨c,k,by rw[aad (by rw[h.1];omega),h.1,hz];rfl,hc,hk⟩
end Pc
namespace L2
theorem ob3 {α0 α1 α2:Type} {p:α0→α1→α2→Prop} {g:Prop} (h:∃a0 a1 a2,p a0 a1 a2) (k:∀a0 a1 a2,p a0 a1 a2→g):g:=by
 obtain ⟨a0,a1,a2,h⟩:=h;exact k a0 a1 a2 h
theorem ob4 {α0 α1 α2 α3:Type} {p:α0→α1→α2→α3→Prop} {g:Prop} (h:∃a0 a1 a2 a3,p a0 a1 a2 a3) (k:∀a0 a1 a2 a3,p a0 a1 a2 a3→g):g:=by
 obtain ⟨a0,a1,a2,a3,h⟩:=h;exact k a0 a1 a2 a3 h
theorem ob5 {α0 α1 α2 α3 α4:Type} {p:α0→α1→α2→α3→α4→Prop} {g:Prop} (h:∃a0 a1 a2 a3 a4,p a0 a1 a2 a3 a4) (k:∀a0 a1 a2 a3 a4,p a0 a1 a2 a3 a4→g):g:=by
 obtain ⟨a0,a1,a2,a3,a4,h⟩:=h;exact k a0 a1 a2 a3 a4 h
theorem ob6 {α0 α1 α2 α3 α4 α5:Type} {p:α0→α1→α2→α3→α4→α5→Prop} {g:Prop} (h:∃a0 a1 a2 a3 a4 a5,p a0 a1 a2 a3 a4 a5) (k:∀a0 a1 a2 a3 a4 a5,p a0 a1 a2 a3 a4 a5→g):g:=by
 obtain ⟨a0,a1,a2,a3,a4,a5,h⟩:=h;exact k a0 a1 a2 a3 a4 a5 h
theorem ob7 {α0 α1 α2 α3 α4 α5 α6:Type} {p:α0→α1→α2→α3→α4→α5→α6→Prop} {g:Prop} (h:∃a0 a1 a2 a3 a4 a5 a6,p a0 a1 a2 a3 a4 a5 a6) (k:∀a0 a1 a2 a3 a4 a5 a6,p a0 a1 a2 a3 a4 a5 a6→g):g:=by
 obtain ⟨a0,a1,a2,a3,a4,a5,a6,h⟩:=h;exact k a0 a1 a2 a3 a4 a5 a6 h
theorem ob8 {α0 α1 α2 α3 α4 α5 α6 α7:Type} {p:α0→α1→α2→α3→α4→α5→α6→α7→Prop} {g:Prop} (h:∃a0 a1 a2 a3 a4 a5 a6 a7,p a0 a1 a2 a3 a4 a5 a6 a7) (k:∀a0 a1 a2 a3 a4 a5 a6 a7,p a0 a1 a2 a3 a4 a5 a6 a7→g):g:=by
 obtain ⟨a0,a1,a2,a3,a4,a5,a6,a7,h⟩:=h;exact k a0 a1 a2 a3 a4 a5 a6 a7 h
theorem ob10 {α0 α1 α2 α3 α4 α5 α6 α7 α8 α9:Type} {p:α0→α1→α2→α3→α4→α5→α6→α7→α8→α9→Prop} {g:Prop} (h:∃a0 a1 a2 a3 a4 a5 a6 a7 a8 a9,p a0 a1 a2 a3 a4 a5 a6 a7 a8 a9) (k:∀a0 a1 a2 a3 a4 a5 a6 a7 a8 a9,p a0 a1 a2 a3 a4 a5 a6 a7 a8 a9→g):g:=by
 obtain ⟨a0,a1,a2,a3,a4,a5,a6,a7,a8,a9,h⟩:=h;exact k a0 a1 a2 a3 a4 a5 a6 a7 a8 a9 h
open PySem PySem.Spec PyProof.Rows
theorem xl {K:PySem.W.Frag} {n:Nat} {a:Addr} {x0 x1:V} {i0 i1:Nat} {σ:L2.St} {H:Hp} {Q:L2.St→Hp→Prop} (h:H a=some (.tup [x0,x1])) (hn:2=n) (q:Q ((σ.set i0 (some x0)).set i1 (some x1)) H):zk K n (fm (cu i0) (fm (cu i1) Dq)) (.ref a) σ H Q:=⟨a,_,rfl,SqT.of h,hn,_,_,rfl,_,_,rfl,rfl,q⟩
theorem Ci {K:PySem.W.Frag} {n:Nat} {a:Addr} {x0 x1 x2 x3:V} {i0 i1 i2 i3:Nat} {σ:L2.St} {H:Hp} {Q:L2.St→Hp→Prop} (h:H a=some (.tup [x0,x1,x2,x3])) (hn:4=n) (q:Q ((((σ.set i0 (some x0)).set i1 (some x1)).set i2 (some x2)).set i3 (some x3)) H):zk K n (fm (cu i0) (fm (cu i1) (fm (cu i2) (fm (cu i3) Dq)))) (.ref a) σ H Q:=⟨a,_,rfl,SqT.of h,hn,_,_,rfl,_,_,rfl,_,_,rfl,_,_,rfl,rfl,q⟩
theorem Le {K:PySem.W.Frag} {n:Nat} {a:Addr} {x0 x1 x2 x3 x4:V} {i0 i1 i2 i3 i4:Nat} {σ:L2.St} {H:Hp} {Q:L2.St→Hp→Prop} (h:H a=some (.tup [x0,x1,x2,x3,x4])) (hn:5=n) (q:Q (((((σ.set i0 (some x0)).set i1 (some x1)).set i2 (some x2)).set i3 (some x3)).set i4 (some x4)) H):zk K n (fm (cu i0) (fm (cu i1) (fm (cu i2) (fm (cu i3) (fm (cu i4) Dq))))) (.ref a) σ H Q:=⟨a,_,rfl,SqT.of h,hn,_,_,rfl,_,_,rfl,_,_,rfl,_,_,rfl,_,_,rfl,rfl,q⟩
end L2
namespace Pc
open PySem PySem.Spec L2 PyProof.Rows Fm
theorem Pu {K:PySem.W.Frag} {v:V} {kt:Addr} {kinds:List Str} {H:Hp} {Q:VK} {E:XK} (p0:isW v) (p1:SqT K H kt (kinds.map V.str)) (p2:Q (.str (br kinds v)) H):(jv K) [v,.ref kt] H Q E:=⟨v,kt,kinds,rfl,p0,p1,p2⟩
theorem mkLies {l:Str} {v x:V} {H:Hp} {Q:VK} {E:XK} (p0:isW v) (p1:isW x) (p2:Q (.bl (lies l v x)) H):Ar [.str l,v,x] H Q E:=⟨l,v,x,rfl,p0,p1,p2⟩
theorem Je {K:PySem.W.Frag} {st kt wt:Addr} {sh:List V} {kinds:List Str} {ws:List V} {p n:Nat} {H:Hp} {Q:VK} {E:XK} (p0:SqT K H st sh) (p1:SqT K H kt (kinds.map V.str)) (p2:SqT K H wt ws) (p3:Kinds kinds) (p4:(∀v∈sh,isW v)) (p5:(∀v∈ws,isW v)) (p6:isTerm sh) (p7:eat 1 ((ws.drop p).map arV)=some n) (p8:sh.length≤1000) (p9:ws.length≤1000) (p10:∀H',ak H H'→told (bu kinds ws sh p ⟨[],[],[]⟩) H' Q):(xh K) [.ref st,.ref kt,.ref wt,.int (p:Int)] H Q E:=⟨st,kt,wt,sh,kinds,ws,p,n,rfl,p0,p1,p2,p3,p4,p5,p6,p7,p8,p9,p10⟩
theorem Jy {K:PySem.W.Frag} {t:Addr} {ws:List V} {H:Hp} {Q:VK} {E:XK} (p0:SqT K H t ws) (p1:(∀v∈ws,isW v)) (p2:isTerm ws) (p3:ws.length≤1000) (p4:∀(l:Addr) (H':Hp),ak H H'→H l=none→H' l=some (.lst ((aax ws.length).map λq=>plV (endAt ws q)))→Q (.ref l) H'):(vy K) [.ref t] H Q E:=⟨t,ws,rfl,p0,p1,p2,p3,p4⟩
theorem Gz {K:PySem.W.Frag} {st kt wt et:Addr} {sh:List V} {kinds:List Str} {ws:List V} {p:Nat} {H:Hp} {Q:VK} {E:XK} (p0:SqT K H st sh) (p1:SqT K H kt (kinds.map V.str)) (p2:SqT K H wt ws) (p3:H et=some (.lst ((aax ws.length).map λq=>plV (endAt ws q)))) (p4:Kinds kinds) (p5:(∀v∈sh,isW v)) (p6:isTerm sh) (p7:sh.length≤1000) (p8:Tw ws) (p9:p < ws.length) (p10:∀H',ak H H'→told (bu kinds ws sh p ⟨[],[],[]⟩) H' Q):(qc K) [.ref kt,.ref st,.ref wt,.ref et,.int (p:Int)] H Q E:=⟨st,kt,wt,et,sh,kinds,ws,p,rfl,p0,p1,p2,p3,p4,p5,p6,p7,p8,p9,p10⟩
theorem Ow {d nl b:Addr} {ns:List Int} {zs:List Str} {m n:Nat} {H:Hp} {Q:VK} {E:XK} (p0:dq H d b ns n) (p1:dc H nl zs) (p2:1≤m) (p3:m≤120) (p4:n≤50000) (p5:∀(t:Addr) (n':Nat) (H':Hp) (ws:List V),ao d H H'→H' d=some (.lst [.ref b,.int (n':Int)])→n'≤n+m→H t=none→H' t=some (.tup ws)→Tw ws→ws.length≤m→Q (.ref t) H'):uj [.ref d,.ref nl,.int (m:Int)] H Q E:=⟨d,nl,b,ns,zs,m,n,rfl,p0,p1,p2,p3,p4,p5⟩
theorem O0 {d kt b:Addr} {ns:List Int} {kinds:List Str} {n:Nat} {H:Hp} {Q:VK} {E:XK} (p0:dq H d b ns n) (p1:H kt=some (.tup (kinds.map V.str))) (p2:Kinds kinds) (p3:1≤kinds.length) (p4:kinds.length≤20) (p5:n≤50000) (p6:∀(t:Addr) (n':Nat) (H':Hp) (sh:List V),ao d H H'→H' d=some (.lst [.ref b,.int (n':Int)])→n'≤n+12→H t=none→H' t=some (.tup sh)→j8 kinds sh→Q (.ref t) H'):ud [.ref d,.ref kt] H Q E:=⟨d,kt,b,ns,kinds,n,rfl,p0,p1,p2,p3,p4,p5,p6⟩
theorem Np {K:PySem.W.Frag} {kt st:Addr} {kinds:List Str} {sh:List V} {H:Hp} {Q:VK} {E:XK} (p0:H kt=some (.tup (kinds.map V.str))) (p1:H st=some (.tup sh)) (p2:Kinds kinds) (p3:j8 kinds sh) (p4:∀(t:Addr) (ds:List V) (H':Hp),ak H H'→H' t=some (.tup ds)→Q (.ref t) H'):(ub K) [.ref kt,.ref st] H Q E:=⟨kt,st,kinds,sh,rfl,p0,p1,p2,p3,p4⟩
theorem mkBook {d nl b:Addr} {ns:List Int} {zs:List Str} {n:Nat} {H:Hp} {Q:VK} {E:XK} (p0:dq H d b ns n) (p1:dc H nl zs) (p2:n≤1000) (p3:∀(bt:Addr) (n':Nat) (H':Hp) (kinds:List Str) (rs:List Rl),ao d H H'→H' d=some (.lst [.ref b,.int (n':Int)])→n'≤n+1000→bh H' bt kinds rs→Bk kinds rs→1≤rs.length→(∀r∈rs,r.name∈zs)→(∀z∈kinds,z∈zs)→Q (.ref bt) H'):Ah [.ref d,.ref nl] H Q E:=⟨d,nl,b,ns,zs,n,rfl,p0,p1,p2,p3⟩
theorem Jw {d b:Addr} {ns:List Int} {n:Nat} {H:Hp} {Q:VK} {E:XK} (p0:dq H d b ns n) (p1:n≤1000) (p2:∀(l:Addr) (H':Hp) (zs:List Str),ao d H H'→H' d=some (.lst [.ref b,.int ((n+1:Nat):Int)])→dc H' l zs→(∀z∈zs,cx z)→Q (.ref l) H'):ql [.ref d] H Q E:=⟨d,b,ns,n,rfl,p0,p1,p2⟩
theorem Cq {K:PySem.W.Frag} {st kt ut:Addr} {sh:List V} {kinds:List Str} {u:Und} {H:Hp} {Q:VK} {E:XK} (p0:SqT K H st sh) (p1:SqT K H kt (kinds.map V.str)) (p2:vg H ut u) (p3:Kinds kinds) (p4:(∀v∈sh,isW v)) (p5:sh.length≤1000) (p6:u.hs.length=(aq kinds sh).length) (p7:∀(l:Addr) (H':Hp),ak H H'→H l=none→tq H' l (u.hs.zip (aq kinds sh))→Q (.ref l) H'):(km K) [.ref st,.ref kt,.ref ut] H Q E:=⟨st,kt,ut,sh,kinds,u,rfl,p0,p1,p2,p3,p4,p5,p6,p7⟩
theorem Ih {b wt:Addr} {kinds:List Str} {rs:List Rl} {ws:List V} {p:Nat} {H:Hp} {Q:VK} {E:XK} (p0:bh H b kinds rs) (p1:H wt=some (.tup ws)) (p2:Bk kinds rs) (p3:Tw ws) (p4:p < ws.length) (p5:∀(l:Addr) (as:List Addr) (H':Hp),ak H H'→H l=none→H' l=some (.lst (as.map V.ref))→dj H' (λx=>H x≠none) as (bq kinds rs ws p)→Q (.ref l) H'):mf [.ref b,.ref wt,.int (p:Int)] H Q E:=⟨b,wt,kinds,rs,ws,p,rfl,p0,p1,p2,p3,p4,p5⟩
theorem Nf {own:Int} {hl d:Addr} {hs:List Ky} {g:Ky→Option Int} {n:Nat} {H:Hp} {Q:VK} {E:XK} (p0:tq H hl hs) (p1:cz H d g n) (p2:Q (match cost g own hs with | none=>.non | some c=>.int c) H):ji [.int own,.ref hl,.ref d] H Q E:=⟨own,hl,d,hs,g,n,rfl,p0,p1,p2⟩
theorem Kf {p:Nat} {fl d:Addr} {as:List Addr} {fs:List Fr} {g:Ky→Option Int} {n:Nat} {H:Hp} {Q:VK} {E:XK} (p0:H fl=some (.lst (as.map V.ref))) (p1:dj H (λ_=>False) as fs) (p2:cz H d g n) (p3:n+fs.length≤1000000) (p4:(∀f∈fs,1≤f.own)) (p5:(∀k v,g k=some v→1≤v)) (p6:(∀k,k.1=p→g k=none)) (p7:∀(H':Hp) (g':Ky→Option Int),ao d H H'→cz H' d g' (n+fs.length)→mz (fs.map (fo p)) g'→(∀k,k.1≠p→g' k=g k)→(∀k v,k.1=p→g' k=some v→∃f∈fs.map (fo p),f.key=k∧∃c,cost g' f.own f.hs=some c∧c≤v)→(∀k v,g' k=some v→1≤v)→Q .non H'):oz [.int (p:Int),.ref fl,.ref d] H Q E:=⟨p,fl,d,as,fs,g,n,rfl,p0,p1,p2,p3,p4,p5,p6,p7⟩
theorem mkWith {k:Str} {v:Int} {fl d:Addr} {as:List Addr} {fs:List Fr} {g:Ky→Option Int} {n:Nat} {H:Hp} {Q:VK} {E:XK} (p0:H fl=some (.lst (as.map V.ref))) (p1:dj H (λ_=>False) as fs) (p2:fs.length≤1000) (p3:cz H d g n) (p4:∀(l:Addr) (H':Hp),ak H H'→H l=none→H' l=some (.lst ((namesW fs g k v).map V.str))→Q (.ref l) H'):zv [.str k,.int v,.ref fl,.ref d] H Q E:=⟨k,v,fl,d,as,fs,g,n,rfl,p0,p1,p2,p3,p4⟩
theorem P0 {b fl d:Addr} {p:Nat} {kinds:List Str} {rs:List Rl} {as:List Addr} {fs:List Fr} {g:Ky→Option Int} {n:Nat} {H:Hp} {Q:VK} {E:XK} (p0:bh H b kinds rs) (p1:kinds.length≤60) (p2:H fl=some (.lst (as.map V.ref))) (p3:dj H (λ_=>False) as fs) (p4:fs.length≤1000) (p5:cz H d g n) (p6:∀(l:Addr) (bs:List Addr) (H':Hp),ak H H'→H l=none→H' l=some (.lst (bs.map V.ref))→cv H' (λx=>H x≠none) bs (dv (df kinds) fs p g)→Q (.ref l) H'):t5 [.ref b,.int (p:Int),.ref fl,.ref d] H Q E:=⟨b,fl,d,p,kinds,rs,as,fs,g,n,rfl,p0,p1,p2,p3,p4,p5,p6⟩
theorem Ck {b wt:Addr} {kinds:List Str} {rs:List Rl} {ws:List V} {H:Hp} {Q:VK} {E:XK} (p0:bh H b kinds rs) (p1:H wt=some (.tup ws)) (p2:Bk kinds rs) (p3:Tw ws) (p4:∀(l:Addr) (bs:List Addr) (H':Hp) (g:Ky→Option Int),ak H H'→H l=none→H' l=some (.lst (bs.map V.ref))→Tbl (fb kinds rs ws) g→tm H' bs (rowsOf kinds rs ws g)→Q (.ref l) H'):ko [.ref b,.ref wt] H Q E:=⟨b,wt,kinds,rs,ws,rfl,p0,p1,p2,p3,p4⟩
theorem Cn {K:PySem.W.Frag} {kt st:Addr} {kinds:List Str} {sh:List V} {H:Hp} {Q:VK} {E:XK} (p0:SqT K H kt (kinds.map V.str)) (p1:SqT K H st sh) (p2:(∀v∈sh,isW v)) (p3:sh.length≤1000) (p4:∀(l:Addr) (H':Hp),ak H H'→H l=none→H' l=some (.lst ((aq kinds sh).map V.str))→Q (.ref l) H'):(ku K) [.ref kt,.ref st] H Q E:=⟨kt,st,kinds,sh,rfl,p0,p1,p2,p3,p4⟩
theorem kr {d b:Addr} {ns:List Int} {n:Nat} {H:Hp} {Q:VK} {E:XK} (p0:dq H d b ns n) (p1:n≤100000) (p2:∀(c:Int) (H':Hp),ao d H H'→H' d=some (.lst [.ref b,.int ((n+1:Nat):Int)])→Q (.int c) H'):iw [.ref d] H Q E:=⟨d,b,ns,n,rfl,p0,p1,p2⟩
end Pc
namespace L2
open PySem PySem.Spec PyProof.Rows
structure fj (fs ch:List Addr) (h h':Heap):Prop where
 keep:∀b o,h.get? b=some o→b∉fs→b∉ch→h'.get? b=some o
 slot:∀b o,h.get? b=some o→b∉ch→∃sl,h'.get? b=some { o with slots:=sl }
theorem fj.refl {fs ch:List Addr} {h:Heap}:fj fs ch h h:=⟨λ_ _ e _ _=>e,λ_ o e _=>⟨o.slots,e⟩⟩
theorem fj.un {fs ch:List Addr} {H:Hp} {h h':Heap} (t:fj fs ch h h') (hc:∀b∈ch,∃o,h'.get? b=some o):Un fs ch H H h h' where
 keep:=λb o e _ hb hx=>t.keep b o e hb hx
 slot:=λb o e _ _ hx=>t.slot b o e hx
 free:=λ_ _ _ n _=>n
 there:=λb o e hx=>let ⟨_,q⟩:=t.slot b o e hx;⟨_,q⟩
 tups:=λ_ _ e=>e
 frzs:=λ_ _ _ e=>e
 tbls:=λ_ _ e=>⟨#[],by rw[e];simp⟩
theorem fj.hok {P:Program} {w:World} {fs ch:List Addr} {H:Hp} {h h':Heap} (t:fj fs ch h h') (ok:HOk P w H h) (hf:∀b∈fs,H b=none) (hc:∀b∈ch,H b=none):HOk P w H h':=λb u e=>
 (ok b u e).Cy (λc v hcb q=>by
  have key:∀{z},H c=some z→h'.get? c=some v:=λ{z} hz=>t.keep c v q (λx=>by rw[hf c x] at hz;cases hz) λx=>by rw[hc c x] at hz;cases hz
  rcases hcb with rfl | hcb
  ·exact key e
  ·exact key hcb) (λ_ q=>q) λ_ _ q=>q
structure Fly (n:Nat) (H:Hp) (h:Heap) (a:Addr) (cls:Value) (dx:Option Addr):Prop where
 lo:n≤a
 un:H a=none
 ob:∃oe vs,h.get? a=some oe∧oe.cls=cls∧oe.dict=dx∧oe.data=.fields vs∧1 < vs.size∧
  (vs[1]?=some .none∨∃T oT ts,vs[1]?=some (.ref T)∧n≤T∧H T=none∧T≠a∧h.get? T=some oT∧oT.data=.fields ts∧3 < ts.size)
structure wm (n:Nat) (H:Hp) (h:Heap) (a:Addr) (cls:Value) (dx:Option Addr):Prop where
 lo:n≤a
 un:H a=none
 ob:∃oe vs,h.get? a=some oe∧oe.cls=cls∧oe.dict=dx∧oe.data=.fields vs∧1 < vs.size∧
  ∃T oT ts,vs[1]?=some (.ref T)∧n≤T∧H T=none∧T≠a∧h.get? T=some oT∧oT.data=.fields ts∧3 < ts.size
section
variable {n m:Nat} {H:Hp} {h:Heap} {a:Addr} {cls:Value} {dx:Option Addr}
theorem wm.fly (x:wm n H h a cls dx):Fly n H h a cls dx:=let ⟨oe,vs,h1,h2,h3,h4,h5,h6⟩:=x.ob;⟨x.lo,x.un,oe,vs,h1,h2,h3,h4,h5,.inr h6⟩
theorem Fly.le (x:Fly n H h a cls dx) (hm:m≤n):Fly m H h a cls dx:=by
 obtain ⟨oe,vs,h1,h2,h3,h4,h5,h6⟩:=x.ob;refine ⟨aau hm x.lo,x.un,oe,vs,h1,h2,h3,h4,h5,?_⟩;rcases h6 with h6 | ⟨T,oT,ts,k1,k2,k3,k4,k5,k6,k7⟩
 ·exact .inl h6
 ·exact .inr ⟨T,oT,ts,k1,aau hm k2,k3,k4,k5,k6,k7⟩
end
section
variable {M:Model} {A:Around} {E:Value→Shared→Prop} {s:Shared} {n:Nat} {H:Hp} {a:Addr} {cls:Value} {dx:Option Addr}
theorem ve (o:Obj) (f:Array Value→Array Value):(o.mapFields f).dict=o.dict:=by
 obtain ⟨c,d,dt,sl⟩:=o;cases dt <;> rfl
theorem xr {fr:Option Addr} {Q:Unit→Shared→Prop} {fs:List Addr} (F:wm n H s.heap a cls dx)
  (q:∀h' ch,(∀b∈ch,n≤b∧H b=none∧∃o,h'.get? b=some o)→fj fs ch s.heap h'→wm n H h' a cls dx→Q () { s with heap:=h' }):wpAny M A (setFlight (.ref a) fr) Q E s:=by
 obtain ⟨oe,vs,h1,h2,h3,h4,h5,T,oT,ts,k1,k2,k3,k4,k5,k6,k7⟩:=F.ob;unfold setFlight;refine wpAny_bind (wpAny_field h1 h4 k1 ?_);rw[if_pos (show (Value.ref T !=Value.none)=true from by simp)];refine wpAny_setField k5 k6 k7 ?_;have self:=Heap.get?_update_self (Obj.mapFields (·.setIfInBounds 3 (fr.elim Value.none λf=>rawInt f))) k5 (Obj.isFreed_of_fields (Obj.data_mapFields k6 _));have other:∀b o,b≠T→s.heap.get? b=some o→(s.heap.update T (Obj.mapFields (·.setIfInBounds 3 (fr.elim Value.none λf=>rawInt f)))).get? b=some o:=λb o hb e=>(Heap.get?_update_other _ _ (Ne.symm hb)).trans e;refine q _ [T] (λb hb=>?_) ⟨λb o e _ hb=>other b o (λz=>hb (by simp[z])) e,λb o e hb=>⟨o.slots,other b o (λz=>hb (by simp[z])) e⟩⟩ ⟨F.lo,F.un,oe,vs,other a oe (Ne.symm k4) h1,h2,h3,h4,h5,T,_,_,k1,k2,k3,k4,self,Obj.data_mapFields k6 _,by simpa using k7⟩;obtain rfl:b=T:=by simpa using hb
 exact ⟨k2,k3,_,self⟩
theorem yx {base:Heap} {jg env:Env} {outer:List Env} {L:Addr} {hadNext:Bool} {head:Value} {oe:Obj} {vs:Array Value} {Q:Unit→Shared→Prop}
  (hfr:A.frames=some (jg::outer)) (hl:s.heap.FunFrames base (jg::outer)) (hf0:jg.frame=some L) (hf:env.frame=some L) (lo:n≤a) (un:H a=none) (fresh:∀b,s.heap.objs.size≤b→H b=none)
  (h1:s.heap.get? a=some oe) (h2:oe.cls=cls) (h3:oe.dict=dx) (h4:oe.data=.fields vs) (h5:1 < vs.size)
  (q:∀h' ch,(∀b∈ch,n≤b∧H b=none∧∃o,h'.get? b=some o)→fj (frs (jg::outer)) ch s.heap h'→wm n H h' a cls dx→Q () { s with heap:=h' }):
  wpAny M A (do let f ←PySem.frameOf env;let pl ←entryPlaceOf L hadNext;let t ←EntryCells.newEntry head f .none (rawInt L) .none pl;setField (.ref a) 1 t) Q E s:=by
 have na:a∉frs (jg::outer):=λhm=>by
  obtain ⟨_,o,ho,hnf⟩:=hl.mem hm;rw[h1] at ho;cases ho
  exact hnf vs h4
 have e0:PySem.frameOf env=PySem.frameOf jg:=by unfold PySem.frameOf;rw[hf,hf0]
 rw[e0];refine wpAny_bind (wpAny_frameOf_fun hfr hl hf0 λg sl=>?_);refine wpAny_bind (wpAny_entryPlaceOf λpl hpl=>?_);unfold EntryCells.newEntry newFields;refine wpAny_bind (wpAny_newObj_type ?_ (hpl.sizeOk5 _ _ _ _ _));generalize ht:([head,Value.ref L,.none,rawInt L,.none]++(if pl.isEmpty then aal 6 Value.none else pl)).toArray=ts;have hts:3 < ts.size:=by rw[←ht];simp only[aa5,aa2,aai,acd] <;> omega
 have g1:g.get? a=some oe:=(sl.2.1 a na).trans h1;have sz:g.objs.size=s.heap.objs.size:=sl.1;have p1:(g.push { cls:=.type "traceback",dict:=none,data:=.fields ts }).get? a=some oe:=Heap.get?_push_of_some _ g1;refine wpAny_setField p1 h4 h5 ?_;have na2:g.objs.size≠a:=ab9 (Heap.lt_size g1);have d1:=Obj.data_mapFields h4 (·.setIfInBounds 1 (Value.ref g.objs.size));have u1:=Heap.get?_update_self (Obj.mapFields (·.setIfInBounds 1 (Value.ref g.objs.size))) p1 (Obj.isFreed_of_fields d1);have u2:((g.push { cls:=.type "traceback",dict:=none,data:=.fields ts }).update a (Obj.mapFields (·.setIfInBounds 1 (Value.ref g.objs.size)))).get? g.objs.size=some { cls:=.type "traceback",dict:=none,data:=.fields ts }:=
  (Heap.get?_update_other _ _ (Ne.symm na2)).trans (Heap.get?_push_size g rfl)
 have other:∀b o,b≠a→g.get? b=some o→((g.push { cls:=.type "traceback",dict:=none,data:=.fields ts }).update a (Obj.mapFields (·.setIfInBounds 1 (Value.ref g.objs.size)))).get? b=some o:=λb o hb e=>
  (Heap.get?_update_other _ _ (Ne.symm hb)).trans (Heap.get?_push_of_some _ e)
 refine q _ [a] (λb hb=>?_) ⟨λb o e hb hc=>other b o (λz=>hc (by simp[z])) ((sl.2.1 b hb).trans e),λb o e hc=>?_⟩ ⟨lo,un,_,_,u1,(Obj.cls_mapFields _ _).trans h2,(ve _ _).trans h3,d1,by simpa using h5,g.objs.size,_,_,by simp[h5],?_,?_,na2,u2,rfl,hts⟩
 ·obtain rfl:b=a:=by simpa using hb
  exact ⟨lo,un,_,u1⟩
 ·obtain ⟨sl',e'⟩:=sl.2.2 b o e;exact ⟨sl',other b _ (λz=>hc (by simp[z])) e'⟩
 ·exact aau lo (abq (Heap.lt_size g1))
 ·exact fresh _ (by rw[sz];exact aa3 _)
theorem fj.trans {fs c1 c2:List Addr} {h h1 h2:Heap} (x:fj fs c1 h h1) (y:fj fs c2 h1 h2):fj fs (c1++c2) h h2:=by
 refine ⟨λb o e hb hc=>y.keep b o (x.keep b o e hb λz=>hc (abr _ z)) hb λz=>hc (aav _ z),λb o e hc=>?_⟩;obtain ⟨s1,e1⟩:=x.slot b o e λz=>hc (abr _ z);obtain ⟨s2,e2⟩:=y.slot b _ e1 λz=>hc (aav _ z);exact ⟨s2,e2⟩
theorem Lv {base:Heap} {jg env:Env} {outer:List Env} {L:Addr} {Q:Unit→Shared→Prop}
  (hfr:A.frames=some (jg::outer)) (hl:s.heap.FunFrames base (jg::outer)) (hf0:jg.frame=some L) (hf:env.frame=some L) (fresh:∀b,s.heap.objs.size≤b→H b=none) (F:Fly n H s.heap a cls dx)
  (q:∀h' ch,(∀b∈ch,n≤b∧H b=none∧∃o,h'.get? b=some o)→fj (frs (jg::outer)) ch s.heap h'→wm n H h' a cls dx→Q () { s with heap:=h' }):wpAny M A (noteFrame (.ref a) env) Q E s:=by
 obtain ⟨oe,vs,h1,h2,h3,h4,h5,h6⟩:=F.ob;unfold noteFrame;simp only[hf];rcases h6 with h6 | ⟨T,oT,ts,k1,k2,k3,k4,k5,k6,k7⟩
 ·refine wpAny_bind (wpAny_field h1 h4 h6 ?_);rw[if_neg (by decide)];exact yx hfr hl hf0 hf F.lo F.un fresh h1 h2 h3 h4 h5 q
 ·refine wpAny_bind (wpAny_field h1 h4 k1 ?_);rw[if_pos (show (Value.ref T !=Value.none)=true from by simp)];refine wpAny_bind (wpAny_field k5 k6 (x:=ts[3]) (by simp[k7]) ?_);by_cases hm:(ts[3]==rawInt L)=true
  ·rw[if_pos hm];exact wpAny_pure (q s.heap [] (λb hb=>by cases hb) .refl ⟨F.lo,F.un,oe,vs,h1,h2,h3,h4,h5,T,oT,ts,k1,k2,k3,k4,k5,k6,k7⟩)
  ·rw[if_neg hm];refine wpAny_bind (wpAny_setField k5 k6 k7 ?_);have self:=Heap.get?_update_self (Obj.mapFields (·.setIfInBounds 3 Value.none)) k5 (Obj.isFreed_of_fields (Obj.data_mapFields k6 _));have other:∀b o,b≠T→s.heap.get? b=some o→(s.heap.update T (Obj.mapFields (·.setIfInBounds 3 Value.none))).get? b=some o:=λb o hb e=>(Heap.get?_update_other _ _ (Ne.symm hb)).trans e;have nT:∀b o,s.heap.get? b=some o→(∀vs,o.data≠.fields vs)→b≠T:=λb o e d z=>by
    rw[z,k5] at e;cases e
    exact d ts k6
   have tu:fj (frs (jg::outer)) [T] s.heap (s.heap.update T (Obj.mapFields (·.setIfInBounds 3 Value.none))):=⟨λb o e _ hb=>other b o (λz=>hb (by simp[z])) e,λb o e hb=>⟨o.slots,other b o (λz=>hb (by simp[z])) e⟩⟩;refine yx hfr (hl.of_keeps λb o e d=>⟨o,other b o (nT b o e d) e,rfl⟩) hf0 hf F.lo F.un (λb hb=>fresh b (by rw[show (s.heap.update T (Obj.mapFields (·.setIfInBounds 3 Value.none))).objs.size=s.heap.objs.size from Heap.size_after_update ..] at hb;exact hb)) (other a oe (Ne.symm k4) h1) h2 h3 h4 h5 λh' ch hc tn fl=>?_;refine q h' ([T]++ch) (λb hb=>?_) (tu.trans tn) fl;rcases List.mem_append.mp hb with hb | hb
   ·obtain rfl:b=T:=by simpa using hb
    refine ⟨k2,k3,?_⟩;by_cases hc2:b∈ch
    ·exact (hc b hc2).2.2
    ·obtain ⟨sl,e⟩:=tn.slot b _ self hc2;exact ⟨_,e⟩
   ·exact hc b hb
end
def Bnd (X:Cx) (pins:List (Addr×Obj)) (n:Nat):Prop:=X.s₀.heap.objs.size≤n∧X.env.locals < n∧(∀x c,X.env.cells.lookup x=some c→c < n)∧∀p∈X.pn++pins,p.1 < n
def XE (X:Cx) (E:XK):Value→Shared→Prop:=λe s'=>∃pins σ H n a cls dx,e=.ref a∧Inv X pins σ H s'∧Bnd X pins n∧Fly n H s'.heap a cls dx∧E cls dx H
noncomputable abbrev Cx.xp (X:Cx) (E:XK):Cx:=X.pj (XE X E)
def Br (X:Cx):Prop:=∃jg outer0 L,X.stack=jg::outer0∧jg.frame=some L∧X.env.frame=some L
noncomputable def CXE (P:Program) (w:World):CXT:=λouter H s E e s'=>∃H' a cls dx,e=.ref a∧s'.os=s.os∧AllBare s'.gens∧Un (frs outer) [] H H' s.heap s'.heap∧HOk P w H' s'.heap∧Fly s.heap.objs.size H' s'.heap a cls dx∧E cls dx H'
section
variable {X:Cx} {pins:List (Addr×Obj)} {σ:St} {H:Hp} {s:Shared} {n:Nat} {a:Addr} {cls:Value} {dx:Option Addr} {M:Model} {A:Around} {E':Value→Shared→Prop} {env:Env} {E:XK}
theorem Inv.bnd (I:Inv X pins σ H s):Bnd X pins s.heap.objs.size:=
 ⟨I.sz,I.lt,λx c e=>let ⟨_,z⟩:=I.cell x c e;z.lt,λp hp=>Heap.lt_size (I.pin p hp).1⟩
theorem Inv.turn {ch:List Addr} {h':Heap} (I:Inv X pins σ H s) (B:Bnd X pins n) (hc:∀b∈ch,n≤b∧H b=none∧∃o,h'.get? b=some o) (t:fj (frs X.stack) ch s.heap h'):Inv X pins σ H { s with heap:=h' }:=by
 refine I.call (g':=s.gens) (d':=s.drawn) (t':=s.toks) (t.un λb hb=>(hc b hb).2.2) (t.hok I.hok I.Af λb hb=>(hc b hb).2.1) I.bare λb hb=>?_;have lo:=(hc b hb).1;exact ⟨.inr (aau B.1 lo),ab9 (aam B.2.1 lo),λx c e=>aao (aam (B.2.2.1 x c e) lo),λp hp=>aao (aam (B.2.2.2 p hp) lo)⟩
theorem Dz {Q:Unit→Shared→Prop} (I:Inv X pins σ H s) (B:Bnd X pins n) (F:Fly n H s.heap a cls dx) (S:Br X) (hA:A.frames=X.A.frames) (hE:env.frame=X.env.frame)
  (q:∀h',Inv X pins σ H { s with heap:=h' }→wm n H h' a cls dx→Q () { s with heap:=h' }):wpAny M A (noteFrame (.ref a) env) Q E' s:=by
 obtain ⟨jg,outer0,L,hs,h0,h1⟩:=S;have fr:A.frames=some (jg::outer0):=by rw[hA,I.ok.frames,hs]
 have st:=I.stack;rw[hs] at st;refine Lv fr st h0 (hE.trans h1) (λb hb=>I.hok.fresh hb) F λh' ch hc t fl=>q h' (I.turn B hc ?_) fl;rw[hs];exact t
theorem iq {fr:Option Addr} {Q:Unit→Shared→Prop} (I:Inv X pins σ H s) (B:Bnd X pins n) (F:wm n H s.heap a cls dx)
  (q:∀h',Inv X pins σ H { s with heap:=h' }→wm n H h' a cls dx→Q () { s with heap:=h' }):wpAny M A (setFlight (.ref a) fr) Q E' s:=
 xr (fs:=frs X.stack) F λh' ch hc t fl=>q h' (I.turn B hc t) fl
theorem wm.head {h:Heap} (F:wm n H h a cls dx):∃oe vs T,h.get? a=some oe∧oe.data=.fields vs∧vs[1]?=some (.ref T):=
 let ⟨oe,vs,h1,_,_,h4,_,T,_,_,k1,_⟩:=F.ob;⟨oe,vs,T,h1,h4,k1⟩
theorem vo (S:Br X):PassesOwn (model X.prog X.w) X.A X.env (XE X E):=by
 rintro e s' ⟨pins,σ,H,n,a,cls,dx,rfl,I,B,F,q⟩;refine Dz I B F S rfl rfl λh' I' F'=>?_;obtain ⟨oe,vs,T,h1,h2,h3⟩:=F'.head;show wpAny _ _ _ _ _ _
 refine wpAny_bind (wpAny_field (s:={ s' with heap:=h' }) h1 h2 h3 ?_);rw[if_neg (show ¬((Value.ref T==Value.none)=true) from by simp)];exact iq I' B F' λh'' I'' F''=>⟨pins,σ,H,n,a,cls,dx,rfl,I'',B,F''.fly,q⟩
theorem Po {e:Value} {R:Value→Shared→Prop} (S:Br X) (hx:X.ex=[]) (z:XE X E e s) (q:∀s',CXE X.prog X.w X.outer X.H₀ X.s₀ E e s'→R e s'):wpAny M X.A (leaving X.env e) (λ_ s'=>R e s') E' s:=by
 obtain ⟨pins,σ,H,n,a,cls,dx,rfl,I,B,F,qE⟩:=z;unfold leaving;refine wpAny_bind (Dz I B F S rfl rfl λh' I' F'=>?_);refine iq (s:={ s with heap:=h' }) I' B F' λh'' I'' F''=>q _ ?_;have u:=I''.base;rw[hx] at u;exact ⟨H,a,cls,dx,rfl,I''.os,I''.bare,u,I''.hok,F''.fly.le B.1,qE⟩
theorem passX:Passes (CXE X.prog X.w) (X.xp E) E:=by
 rintro pins σ H s e s' I ⟨H',a,cls,dx,rfl,os,bare,un,hok,F,q⟩;have I0:=I.dy;exact ⟨pins,σ,H',_,a,cls,dx,rfl,I0.Mw (ch:=[]) os un hok bare (λb z=>absurd z (by simp)),I0.bnd,F,q⟩
end
section
variable {P:Program} {w:World} {K:PySem.W.Frag} {mg:Str→Option Value} {base:Heap}
theorem Aa {CX:CXT} {N:List Str} {qual:Str} {scope:Scope} {f:Addr} {cd:Value} {A:Around} {outer:List Env} {s:Shared} {H:Hp} {E:XK}:Br (nc CX P w K mg base N qual scope f cd A outer s H E):=⟨_,_,_,rfl,rfl,rfl⟩
theorem Fun.okX {x qual:Str} {st:Stmt} {f:Addr} {fd:FuncData} {N ps:List Str} {k:Nat} {sp:Sp} (F:Fun K x qual st f fd) (S:ax N ps (ag st)) (len:∀vs H Q E,sp vs H Q E→vs.length=ps.length)
  (hbody:∀(cdv:Value) (A:Around) (outer:List Env) (s:Shared) (H:Hp) (vs:List V) (Q:VK) (E:XK),fz k (A.deeper (envOfC qual (ag st) s.heap.objs.size f cdv))→sp vs H Q E→
   ∃t,PSs ((nc (CXE P w) P w K mg base N qual (ag st) f cdv A outer s H E).xp E) (av st) t∧t { nx:=λ_ H'=>Q .non H',rt:=Q } (start N vs) H):mi P w K mg base (CXE P w) (k+1) f fd ps sp:=by
 obtain ⟨oc,od,kV,doc,pm,an,cdv,ct,osl,rfl,lk,hcd⟩:=F.ex;refine fn_of lk hcd S len λA outer s H vs Q E hr hsp=>?_;obtain ⟨t,h,q⟩:=hbody cdv A outer s H vs Q E hr hsp;refine ⟨t,λpins s' σ H' D I hw=>wpAny_mono (h pins s' σ H' D (I.pj _) hw) (λ_ _ q=>q.dy) λe s'' z=>?_,q⟩;exact Po Aa rfl z λ_ y=>y
def jd (P:Program) (w:World) (K:PySem.W.Frag) (mg:Str→Option Value) (base:Heap) (k:Nat) (x:Str) (ps:List Str) (sp:Sp):Prop:=
 ∃(f:Addr) (fd:FuncData),mi P w K mg base (CXE P w) k f fd ps sp∧Binds K fd ps []∧PySem.W.keepIn K (.ref f)=true∧mg x=some (.ref f)
theorem jd.up {j k:Nat} {x:Str} {ps:List Str} {sp:Sp} (h:jd P w K mg base j x ps sp) (l:j≤k):jd P w K mg base k x ps sp:=by
 obtain ⟨f,fd,F,r⟩:=h;exact ⟨f,fd,F.mono l,r⟩
theorem Def.hasX {k:Nat} {x:Str} {st:Stmt} {N ps:List Str} {sp:Sp} (D:Def K mg x st ps) (S:ax N ps (ag st)) (len:∀vs H Q E,sp vs H Q E→vs.length=ps.length)
  (hbody:∀(f:Addr) (cdv:Value) (A:Around) (outer:List Env) (s:Shared) (H:Hp) (vs:List V) (Q:VK) (E:XK),fz k (A.deeper (envOfC x (ag st) s.heap.objs.size f cdv))→sp vs H Q E→
   ∃t,PSs ((nc (CXE P w) P w K mg base N x (ag st) f cdv A outer s H E).xp E) (av st) t∧t { nx:=λ_ H'=>Q .non H',rt:=Q } (start N vs) H):jd P w K mg base (k+1) x ps sp:=by
 obtain ⟨f,fd,F,b,m⟩:=D;exact ⟨f,fd,F.okX S len λcdv A outer s H vs Q E hr h=>hbody f cdv A outer s H vs Q E hr h,b,F.kp,m⟩
end
section
variable {X:Cx} {E:XK} {k:Nat} {ps:List Str} {sp:Sp} {x:Str} {p pos:Pos} {e:Expr} {es:List Expr} {t:TA}
theorem Py (h:jd X.prog X.w X.K X.mg X.base k x ps sp) (hr:fz k X.A) (ha:PA (X.xp E) (e::es) t) (hg:Gl X x:=by rfl) (hdb:(x==("__debug__":Str))=false:=by decide+kernel)
  (he:starEach (e::es) X.env=(false,eval e X.env)::starEach es X.env:=by rfl) (hpl:(backTo pos (starEach es X.env)).any (·.1)=false:=by rfl):
  PE (X.xp E) (.Call (.Name x p) (e::es) [] pos) (Gq sp [] E t):=by
 obtain ⟨f,fd,F,b,kp,m⟩:=h;exact Gi (X:=X.xp E) F hr hg m kp b .nil passX ha hdb he hpl
end
end L2
namespace PySem
open Sem (wp)
structure Xc (K:W.Frag) (C:Addr) (bm:List Value):Prop where
 lk:∃nm q N bs sn sub ab col dd k0 k1 k2 k3 k5,K.lookup C=some (excClassObj nm q C N bs bm true sn sub ab col dd k0 k1 k2 k3 k5 "ValueError.__new__")
 hv:bm.contains (.type "ValueError")=true
 hb:bm.contains (.type "BaseException")=true
 ha:bm.contains (.type "AttributeError")=false
 hn:bm.contains (.type "NameError")=false
 ho:bm.contains (.type "object")=true
 kp:W.keepIn K (.ref C)=true
 sa:∀self:Value,refuseLoop self "__setattr__" bm=pure ()
 fs:W.findIn K (.ref C) "__setattr__"=some (some (.builtin "object.__setattr__"))
 fg:W.findIn K (.ref C) "__getattribute__"=some (some (.builtin "BaseException.__getattribute__"))
 fh:W.findIn K (.ref C) "__getattr__"=some none
 fc:W.findIn K (.ref C) "__class__"=some (some (.builtin "object.__class__"))
section
variable {prog:Program} {w:World} {A:Around} {E:Value→Shared→Prop} {K:W.Frag} {C:Addr} {bm rest:List Value} {init:Value}
theorem Kq {h:Heap} {g:Array GenState} {d:Drawn} {t:Nat} {os:OsState} {R:Result→Shared→Prop} (X:K.In h) (c:Xc K C bm) (hl:rest.length≤sizeLine)
  (q:R (.ok (.ret (.ref (h.objs.size+1)))) ⟨(h.push { cls:=.type "tuple",data:=.seq rest.toArray }).push { cls:=.ref C,data:=.fields #[.ref h.objs.size,.none,.none,.none,.bool false,.none] },g,d,t,os⟩):
  codeAny (model prog w) A (.builtin "ValueError.__new__" ⟨.ref C::rest,[]⟩) R ⟨h,g,d,t,os⟩:=by
 obtain ⟨nm,qn,N,bs,sn,sub,ab,col,dd,k0,k1,k2,k3,k5,lk⟩:=c.lk;have hC:=X _ _ lk;have Fv:=PySem.F.excBase_ValueError;have hends:=Fv.ends;have z1:(Value.ref C::bm).contains (.type "ValueError")=true:=by rw[abm,c.hv,adw]
 have z2:(Value.ref C::bm).contains (.type "AttributeError")=false:=by rw[abm,c.ha];rfl
 have z3:(Value.ref C::bm).contains (.type "NameError")=false:=by rw[abm,c.hn];rfl
 refine codeAny_builtinAt Fv.entry ?_;unfold Builtin.«BaseException.__new__»;refine wpAt_bind ?_;show wpAt _ _ _ (stack >>=_) _ _ _
 refine wpAt_bind (wpAt_stack λp below=>wpAt_of_wpAny ?_);wp_walk
 refine wpAt_of_wpAny ?_;rw[Fv.owner];repeat (first | with_reducible refine wpAny_madeHere_exc Fv.canon hC ?_ | with_reducible refine wpAny_loadPart_at hC ?_ | (with_reducible refine wpAny_isSubtype_exc hC ?_;first | rw[z1] | rw[z2] | rw[z3]) | wp_step)
 show R _ _
 rw[Heap.size_push];exact q
theorem Ei {h:Heap} {g:Array GenState} {d:Drawn} {t:Nat} {os:OsState} {Q:Fin→Shared→Prop} (X:K.In h) (c:Xc K C bm) (hi:W.findIn K (.ref C) "__init__"=some (some init))
  (hb:∀self,W.Looks (model prog w) h (bindSpecial init self) (init,[self])) (hl:rest.length≤sizeLine)
  (q:wpAny (model prog w) A (call init (.ref (h.objs.size+1)::rest)) (λr s'=>r=.none∧Q (.done (.ret (.ref (h.objs.size+1)))) s') E
   ⟨(h.push { cls:=.type "tuple",data:=.seq rest.toArray }).push { cls:=.ref C,data:=.fields #[.ref h.objs.size,.none,.none,.none,.bool false,.none] },g,d,t,os⟩):
  wpAny (model prog w) A (Builtin.«type.__call__» ⟨.ref C::rest,[]⟩) Q E ⟨h,g,d,t,os⟩:=by
 obtain ⟨nm,qn,N,bs,sn,sub,ab,col,dd,k0,k1,k2,k3,k5,lk⟩:=c.lk;have hC:=X _ _ lk;have Fv:=PySem.F.excBase_ValueError;repeat (first | with_reducible refine wpAny_loadPart_at hC ?_ | with_reducible refine wpAny_madeBy_exc hC ?_ | wp_step)
 refine codeAny_call_builtin_code (Code.quiet_builtin _ Fv.quiet) (wpAny_check_new_subU Fv c.hv .base hC ?_);refine Kq X c hl ?_;show wpAny _ _ _ _ _ _
 have kk:∀b o,h.get? b=some o→((h.push { cls:=.type "tuple",data:=.seq rest.toArray }).push { cls:=.ref C,data:=.fields #[.ref h.objs.size,.none,.none,.none,.bool false,.none] }).get? b=some o:=
  λb o e=>Heap.get?_push_of_some _ (Heap.get?_push_of_some _ e)
 have hC2:=kk _ _ hC;have he:((h.push { cls:=.type "tuple",data:=.seq rest.toArray }).push { cls:=.ref C,data:=.fields #[.ref h.objs.size,.none,.none,.none,.bool false,.none] }).get? (h.objs.size+1)=some
   { cls:=.ref C,data:=.fields #[.ref h.objs.size,.none,.none,.none,.bool false,.none] }:=by heap_get
 have z4:(Value.ref C::bm).contains (.ref C)=true:=by simp
 unfold isInstance;repeat (first | with_reducible refine wpAny_loadPart_at he ?_ | (with_reducible refine wpAny_isSubtype_exc hC2 ?_;rw[z4]) | wp_step)
 show wpAny _ _ (typeLookup (.ref C) _) _ _ _
 refine ((W.looks_findIn X hi).keeps kk).here ?_;refine wpAny_holding (wpAny_bind (((hb _).keeps kk).here ?_));refine wpAny_bind (wpAny_mono q (λr s' hr=>?_) λ_ _ z=>z);obtain ⟨rfl,hQ⟩:=hr;wp_walk
 exact hQ
theorem M8 {s:Shared} {Q:Value→Shared→Prop} (X:K.In s.heap) (c:Xc K C bm) (hi:W.findIn K (.ref C) "__init__"=some (some init)) (hb:∀self,W.Looks (model prog w) s.heap (bindSpecial init self) (init,[self]))
  (hl:rest.length≤sizeLine)
  (q:wpAny (model prog w) (A.under (.builtin "type.__call__" ⟨.ref C::rest,[]⟩)) (call init (.ref (s.heap.objs.size+1)::rest)) (λr s'=>r=.none∧Q (.ref (s.heap.objs.size+1)) s') E
   { s with heap:=(s.heap.push { cls:=.type "tuple",data:=.seq rest.toArray }).push { cls:=.ref C,data:=.fields #[.ref s.heap.objs.size,.none,.none,.none,.bool false,.none] } }):
  wpAny (model prog w) A (call (.ref C) rest) Q E s:=by
 obtain ⟨h,g,d,t,os⟩:=s;obtain ⟨nm,qn,N,bs,sn,sub,ab,col,dd,k0,k1,k2,k3,k5,lk⟩:=c.lk;have hC:=X _ _ lk;dsimp only at hC q;have g1:=tc_lookup;have g2:=tc_bind (.ref C);have g3:(⟨h,g,d,t,os⟩:Shared).TypeIs (.ref C) "type":=⟨_,hC,rfl⟩;refine wpAny_call (codeAny_of_tree ?_);show wpAny _ _ (callAny (.ref C) _) _ _ _
 repeat (any_goals (first | assumption | with_reducible refine wpAny_loadPart_at hC ?_ | wp_step))
 refine ⟨rfl,?_⟩;refine codeAny_call_builtin_at (Code.quiet_builtin _ (by decide+kernel)) entry_typeCall (wpAny_check_type_call_sub hC (Ei X c hi hb hl ?_));exact q
end
end PySem
namespace PySem
open Sem (wp)
open Builtin Builtin.ObjectAttr
section
variable {prog:Program} {w:World} {A:Around} {E:Value→Shared→Prop} {K:W.Frag} {C x:Addr} {bm rest:List Value} {h:Heap} {g:Array GenState} {d:Drawn} {t:Nat} {os:OsState} {o:Obj} {vs:Array Value}
theorem Iu {R:Result→Shared→Prop} (X:K.In h) (c:Xc K C bm) (hx:h.get? x=some o) (hc:o.cls=.ref C) {t0:Addr} (hd:o.data=.fields #[.ref t0,.none,.none,.none,.bool false,.none]) (hl:rest.length≤sizeLine)
  (q:R (.ok (.ret .none)) ⟨(h.push { cls:=.type "tuple",data:=.seq rest.toArray }).update x (Obj.mapFields (·.setIfInBounds 0 (.ref h.objs.size))),g,d,t,os⟩):
  codeAny (model prog w) A (.call (.builtin "ValueError.__init__") ⟨.ref x::rest,[]⟩) R ⟨h,g,d,t,os⟩:=by
 obtain ⟨nm,qn,N,bs,sn,sub,ab,col,dd,k0,k1,k2,k3,k5,lk⟩:=c.lk;have hC:=X _ _ lk;have Fv:=PySem.F.excBase_ValueError;have z1:(Value.ref C::bm).contains (.type "ValueError")=true:=by rw[abm,c.hv,adw]
 have short:=Fv.noStar;refine codeAny_call_builtin Fv.init.plain Fv.initEntry ?_;simp only[checkBuiltinCall,Fv.initKind,Fv.initSplit,Fv.initRow];repeat (first | (with_reducible refine wpAny_loadPart_at hx ?_;rw[hc]) | with_reducible refine wpAny_loadPart_at hC ?_ | (with_reducible refine wpAny_isSubtype_exc hC ?_;rw[z1]) | wp_step)
 refine wpAny_onRaise ?_;rw[show ∀(a b:String) (n:Nat),Bind.check ⟨.positional,"*","ValueError",.self,[⟨"args",.varPos,false⟩]⟩ a b n (ae7 (λy=>y.fst) ({ pos:=Value.ref x::rest }:Args).kw)=pure () from λa b n=>check_star_args _ _ _ _ _ _];refine wpAny_pure ?_;unfold Builtin.«BaseException.__init__»;have hx2:(h.push { cls:=.type "tuple",data:=.seq rest.toArray }).get? x=some o:=Heap.get?_push_of_some _ hx;have hz:0 < (#[.ref t0,.none,.none,.none,.bool false,.none]:Array Value).size:=by show 0 < 6;decide
 have hz1:(#[.ref t0,.none,.none,.none,.bool false,.none]:Array Value)[0]?=some (.ref t0):=rfl;repeat (first | with_reducible refine wpAny_field hx2 hd hz1 ?_ | with_reducible refine wpAny_setField hx2 hd hz ?_ | wp_step)
 all_goals first | exact q | skip
theorem xtype {M:Model} (hx:h.get? x=some o) (hc:o.cls=.ref C):W.Looks M h (typeOf (.ref x)) (.ref C):=hc ▸ (W.Looks.ld hx).andThen .now
theorem xsub {M:Model} (X:K.In h) (c:Xc K C bm) (b:Value):W.Looks M h (isSubtype (.ref C) b) ((Value.ref C::bm).contains b):=by
 obtain ⟨nm,qn,N,bs,sn,sub,ab,col,dd,k0,k1,k2,k3,k5,lk⟩:=c.lk;intro A' Q' E' s' k' q';obtain ⟨h2,g2,d2,t2,o2⟩:=s';exact wpAny_isSubtype_exc (k' _ _ (X _ _ lk)) q'
theorem xraise {env:Env} {s:Shared} {m:Sem Value} {Q:Flow→Shared→Prop} (hh:A.handled=none)
  (q:wpAny (model prog w) A m (λv s₁=>∃e o vs C bm,v=.ref e∧K.In s₁.heap∧Xc K C bm∧s₁.heap.get? e=some o∧o.cls=.ref C∧o.data=.fields vs∧vs[1]?=some .none∧E (.ref e) s₁) E s):
  wpAny (model prog w) A (raiseStmt env (some m) none) Q E s:=by
 unfold raiseStmt;refine wpAny_bind (wpAny_mono q (λv s₁ h₁=>?_) λ_ _ x=>x);obtain ⟨e,o,vs,C,bm,rfl,X,c,he,hc,hd,h1,hE⟩:=h₁;obtain ⟨nm,qn,N,bs,sn,sub,ab,col,dd,k0,k1,k2,k3,k5,lk⟩:=c.lk;have hC:=X _ _ lk;have z1:(Value.ref C::bm).contains (.type "BaseException")=true:=by rw[abm,c.hb,adw]
 obtain ⟨hp,g,d,tk,os⟩:=s₁;obtain ⟨oc,od,odt,osl⟩:=o;obtain rfl:oc=.ref C:=hc;obtain rfl:odt=.fields vs:=hd;dsimp only at X he hC hE;repeat (first | with_reducible refine wpAny_loadPart_at he ?_ | with_reducible refine wpAny_loadPart_at hC ?_ | (with_reducible refine wpAny_isSubtype_exc hC ?_;rw[z1]) | wp_step)
 rw[h1];refine wpAny_pure ?_;rw[if_neg (by decide)];exact wpAny_pure (wpAny_raiseNew_none hh hE)
theorem xmatch {s:Shared} {bC:List Value} {D:Addr} {Q:Bool→Shared→Prop} (X:K.In s.heap) (c:Xc K C bm) (cD:Xc K D bC) (hx:s.heap.get? x=some o) (hc:o.cls=.ref C) (q:Q ((Value.ref C::bm).contains (.ref D)) s):
  wpAny (model prog w) A (excMatches (.ref x) (.ref D)) Q E s:=by
 obtain ⟨nm,qn,N,bs,sn,sub,ab,col,dd,k0,k1,k2,k3,k5,lk⟩:=cD.lk;have hD:=X _ _ lk;have z1:(Value.ref D::bC).contains (.type "BaseException")=true:=by rw[abm,cD.hb,adw]
 have f:=tc_notTuple;obtain ⟨hp,g,d,tk,os⟩:=s;dsimp only at X hx hD q;have lx:=xtype (M:=model prog w) hx hc;have ls:=xsub (M:=model prog w) X c (.ref D);unfold excMatches;repeat (first | with_reducible refine wpAny_loadPart_at hD ?_ | (with_reducible refine wpAny_isSubtype_exc hD ?_;rw[z1]) | (with_reducible refine wpAny_loadPart_at hx ?_;rw[hc]) | wp_step)
 refine ls.here ?_;cases hb:(Value.ref C::bm).contains (.ref D) with
 | true=>
  rw[hb] at q;exact wpAny_pure (wpAny_pure (wpAny_pure q))
 | false=>
  rw[hb] at q;exact wpAny_pure (wpAny_pure (wpAny_pure q))
end
end PySem
namespace L2
open PySem PySem.Spec PyProof.Rows
def ow (C:Addr) (E:XK) (t:TA):TS:=λ_ σ H=>t σ H λvs H1=>vs.length≤100∧E (.ref C) none H1
section
variable {X:Cx} {E:XK} {k:Nat} {f C:Addr} {bm:List Value} {fd:FuncData} {ps:List Str} {sp:Sp} {x:Str} {p cpos pos:Pos} {e:Expr} {es:List Expr} {t:TA}
theorem Ht (c:Xc X.K C bm) (hi:PySem.W.findIn X.K (.ref C) "__init__"=some (some (.builtin "ValueError.__init__"))) (hr:fz k X.A) (hm:X.mg x=some (.ref C)) (ha:PA (X.xp E) (e::es) t) (hg:Gl X x:=by rfl) (hdb:(x==("__debug__":Str))=false:=by decide+kernel)
  (he:starEach (e::es) X.env=(false,eval e X.env)::starEach es X.env:=by rfl) (hpl:(backTo cpos (starEach es X.env)).any (·.1)=false:=by rfl):
  PS (X.xp E) (.Raise (some (.Call (.Name x p) (e::es) [] cpos)) none pos) (ow C E t):=by
 intro pins s σ H D I h;rw[arm_exec_Raise];refine wpAny_bind (wpAny_standAt (xraise (K:=X.K) hr.hd (wpAny_bind (wpAny_mono (wpAny_Call_Name_kw (pw I hg hm ?_ hdb)) (λv s₃ h₃=>wpAny_bind (wpAny_standAt (wpAny_pure h₃))) λ_ _ x=>x))));refine PySem.W.callWith_K (h₀:=X.base) I.ok.mod.kin c.kp (thn (ha cpos pins s σ H _ I h) λus s1 ⟨vs,H1,I1,r,hl,q⟩=>⟨I1.kIn,?_⟩) he hpl;have hl2:us.length≤sizeLine:=by
  rw[sizeLine_eq,←r.length];omega
 refine M8 I1.kIn c hi (λself=>PySem.W.Looks.of_pure (PySem.F.excBase_ValueError.init.bind self)) hl2 ?_;obtain ⟨h1,g,d,tk,os⟩:=s1;have kk:∀b o,h1.get? b=some o→((h1.push { cls:=.type "tuple",data:=.seq us.toArray }).push { cls:=.ref C,data:=.fields #[.ref h1.objs.size,.none,.none,.none,.bool false,.none] }).get? b=some o:=
  λb o e=>Heap.get?_push_of_some _ (Heap.get?_push_of_some _ e)
 have sz:(h1.push { cls:=.type "tuple",data:=.seq us.toArray }).objs.size=h1.objs.size+1:=Heap.size_push ..;have g1:=Heap.get?_push_size (h1.push { cls:=.type "tuple",data:=.seq us.toArray }) (o:={ cls:=.ref C,data:=.fields #[.ref h1.objs.size,.none,.none,.none,.bool false,.none] }) rfl;rw[sz] at g1;refine wpAny_call (Iu (λb o e=>kk b o (I1.kIn b o e)) c g1 rfl rfl hl2 ⟨rfl,?_⟩);have g2:=Heap.get?_update_self (Obj.mapFields (·.setIfInBounds 0 (Value.ref ((h1.push { cls:=.type "tuple",data:=.seq us.toArray }).push { cls:=.ref C,data:=.fields #[.ref h1.objs.size,.none,.none,.none,.bool false,.none] }).objs.size)))
  (Heap.get?_push_of_some { cls:=.type "tuple",data:=.seq us.toArray } g1) rfl
 have k3:∀b o,h1.get? b=some o→((((h1.push { cls:=.type "tuple",data:=.seq us.toArray }).push { cls:=.ref C,data:=.fields #[.ref h1.objs.size,.none,.none,.none,.bool false,.none] }).push { cls:=.type "tuple",data:=.seq us.toArray }).update (h1.objs.size+1)
   (Obj.mapFields (·.setIfInBounds 0 (Value.ref ((h1.push { cls:=.type "tuple",data:=.seq us.toArray }).push { cls:=.ref C,data:=.fields #[.ref h1.objs.size,.none,.none,.none,.bool false,.none] }).objs.size)))).get? b=some o:=λb o e=>
  (Heap.get?_update_other _ _ (ab9 (aci (Heap.lt_size e)))).trans (Heap.get?_push_of_some _ (kk b o e))
 have I3:=I1.kept (t':=tk) k3;exact ⟨_,_,_,C,bm,rfl,I3.kIn,c,g2,rfl,rfl,rfl,pins,σ,H1,h1.objs.size,_,.ref C,none,rfl,I3.dy,I1.dy.bnd,⟨ad1 _,I1.hok.fresh (ad1 _),_,_,g2,rfl,rfl,rfl,(by show 1 < 6;decide),.inl rfl⟩,q⟩
end
def XF (X:Cx) (pins:List (Addr×Obj)) (σ:St) (E:XK):Value→Shared→Prop:=λe s'=>∃H' n a cls dx,e=.ref a∧Inv X pins σ H' s'∧Bnd X pins n∧Fly n H' s'.heap a cls dx∧E cls dx H'
abbrev TX:=Ends→XK→St→Hp→Prop
def PXS (X:Cx) (st:List Stmt) (t:TX):Prop:=
 ∀(pins:List (Addr×Obj)) (s:Shared) (σ:St) (H:Hp) (D:Ends) (E:XK),Inv X pins σ H s→t D E σ H→wpAny (model X.prog X.w) X.A (execs st X.env) (SP X pins D) (XF X pins σ E) s
noncomputable def Li (i:Nat) (sp:Sp) (t:TA):TX:=λD E σ H=>t σ H λvs H1=>sp vs H1 (λv H2=>D.nx (σ.set i (some v)) H2) E
section
variable {X:Cx} {k:Nat} {ps:List Str} {sp:Sp} {x:Str} {p pos epos:Pos} {e:Expr} {es:List Expr} {t:TA}
theorem Qf (h:jd X.prog X.w X.K X.mg X.base k x ps sp) (hr:fz k X.A) (ha:PA X.nox (e::es) t) (hg:Gl X x) (hdb:(x==("__debug__":Str))=false)
  (he:starEach (e::es) X.env=(false,eval e X.env)::starEach es X.env) (hpl:(backTo pos (starEach es X.env)).any (·.1)=false)
  {pins:List (Addr×Obj)} {s:Shared} {σ:St} {H:Hp} {Q:VK} {E:XK} (I:Inv X pins σ H s) (w:t σ H λvs H1=>sp vs H1 Q E):
  wpAny (model X.prog X.w) X.A (eval (.Call (.Name x p) (e::es) [] pos) X.env) (EP X pins σ Q) (XF X pins σ E) s:=by
 obtain ⟨f,fd,F,b,kp,m⟩:=h;refine wpAny_Call_Name_kw (pw I hg m ?_ hdb);refine PySem.W.callWith_K (h₀:=X.base) I.ok.mod.kin kp (wpAny_mono (ha pos pins s σ H _ (I.pj _) w) (λus s1 ⟨vs,H1,I1',r,q⟩=>?_) λ_ _ z=>False.elim z) he hpl;have I1:=I1'.dy;refine ⟨I1.kIn,?_⟩;have hl:us.length=ps.length:=by rw[←r.length];exact F.len _ _ _ _ q
 refine wpAny_call (codeAny_mono (F.run X.A X.stack s1 H1 ⟨us,[]⟩ us vs Q E hr I1.jg (by have z:=b s1 us I1.kIn (by rw[ab7];exact hl);rw[ab7] at z;exact z) r q) λr s' hq=>?_);cases r with
 | error e=>
  obtain ⟨H',a,cls,dx,rfl,os,bare,un,hok,F',qE⟩:=hq;exact ⟨H',_,a,cls,dx,rfl,I1.Mw (ch:=[]) os un hok bare (λb z=>absurd z (by simp)),I1.bnd,F',qE⟩
 | ok fl=>
  cases fl with
  | ret u=>exact I1.after hq
  | next=>exact False.elim hq
  | brk=>exact False.elim hq
  | cont=>exact False.elim hq
theorem Ga {i:Nat} {z:Str} {zp:Pos} (hN:X.N.Nodup) (hi:X.N[i]?=some z) (hz:Loc X.env.scope z) (h:jd X.prog X.w X.K X.mg X.base k x ps sp) (hr:fz k X.A) (ha:PA X.nox (e::es) t) (hg:Gl X x:=by rfl) (hdb:(x==("__debug__":Str))=false:=by decide+kernel)
  (he:starEach (e::es) X.env=(false,eval e X.env)::starEach es X.env:=by rfl) (hpl:(backTo pos (starEach es X.env)).any (·.1)=false:=by rfl) (hs:swapsWith (.Call (.Name x p) (e::es) [] pos) (some (.Name z zp)) epos.line X.env=pure false:=by rfl)
  (hf:X.fn z=true∨X.env.scope.names.lookup z=some .local:=by first | exact .inl rfl | exact .inr rfl | assumption):
  PXS X [.Assign [.Name z zp] (.Call (.Name x p) (e::es) [] pos) epos] (Li i sp t):=by
 intro pins s σ H D E I w;refine wpAny_execs_cons (wpAny_Assign_Name (thn (Qf h hr ha hg hdb he hpl I w) λv s1 ⟨y,H1,I1,r1,q1⟩=>?_) hs);exact vf I1 hN hi hz r1 (λs2 I2=>wpAny_execs_nil ⟨_,H1,I2,q1⟩) hf
end
section
variable {X:Cx} {pins:List (Addr×Obj)} {σ:St} {H:Hp} {s:Shared}
noncomputable abbrev Cx.inX (X:Cx) (a:Addr):Cx:={ X with A:=X.A.mark (some (.ref a)),calm:=false }
theorem Cx.Ok.inX {a:Addr} (ok:X.Ok):(X.inX a).Ok:=
 ⟨ok.mod,ok.kind,ok.glob,ok.blt,ok.above,ok.inj,ok.has,ok.cab,λz=>aen z,ok.frames,ok.stk,ok.exf,ok.bs,ok.bsz,ok.noex,ok.exfs,ok.qr,ok.frf⟩
theorem Inv.inX {a:Addr} (I:Inv X pins σ H s):Inv (X.inX a) pins σ H s:=⟨I.ok.inX,I.os,I.bare,I.base,I.loc,I.cell,I.free,I.freeC,I.pin,I.hok,I.len⟩
theorem Inv.outX {a:Addr} (ok:X.Ok) (I:Inv (X.inX a) pins σ H s):Inv X pins σ H s:=⟨ok,I.os,I.bare,I.base,I.loc,I.cell,I.free,I.freeC,I.pin,I.hok,I.len⟩
end
end L2
namespace Pc
open PySem PySem.Spec L2 PyProof.Rows
structure Cl where
 cov:Addr
 noTerm:Addr
 noBox:Addr
 badCover:Addr
 noCover:Addr
 badRow:Addr
 noValue:Addr
 twice:Addr
 noName:Addr
 badShape:Addr
 badDeed:Addr
 unsound:Addr
noncomputable abbrev vbm:List Value:=[.type "ValueError",.type "Exception",.type "BaseException",.type "object"]
noncomputable abbrev cbm (c:Cl):List Value:=.ref c.cov::vbm
theorem Xc.mk' {K:PySem.W.Frag} {C:Addr} {bm:List Value} {nm q:Str} {N:Addr} {bs:List Value} {sn:List Str} {sub:List Value} {ab:Bool} {col:Option Bool} {dd:Option Addr} {k0 k1 k2 k3 k5:Option Value}
  (lk:K.lookup C=some (excClassObj nm q C N bs bm true sn sub ab col dd k0 k1 k2 k3 k5 "ValueError.__new__")) (kp:PySem.W.keepIn K (.ref C)=true) (fs:PySem.W.findIn K (.ref C) "__setattr__"=some (some (.builtin "object.__setattr__")))
  (fg:PySem.W.findIn K (.ref C) "__getattribute__"=some (some (.builtin "BaseException.__getattribute__"))) (fh:PySem.W.findIn K (.ref C) "__getattr__"=some none) (fc:PySem.W.findIn K (.ref C) "__class__"=some (some (.builtin "object.__class__")))
  (hb:bm=vbm∨∃D,bm=.ref D::vbm):Xc K C bm where
 lk:=⟨_,_,_,_,_,_,_,_,_,_,_,_,_,_,lk⟩
 hv:=by rcases hb with rfl | ⟨D,rfl⟩ <;> rfl
 hb:=by rcases hb with rfl | ⟨D,rfl⟩ <;> rfl
 ha:=by rcases hb with rfl | ⟨D,rfl⟩ <;> rfl
 hn:=by rcases hb with rfl | ⟨D,rfl⟩ <;> rfl
 ho:=by rcases hb with rfl | ⟨D,rfl⟩ <;> rfl
 kp:=kp
 sa:=λself=>by
  rcases hb with rfl | ⟨D,rfl⟩
  ·exact PySem.F.store_ValueError.passes self
  ·rw[refuseLoop_ref];exact PySem.F.store_ValueError.passes self
 fs:=fs
 fg:=fg
 fh:=fh
 fc:=fc
theorem isC {c:Cl} {C D:Addr}:(Value.ref C::cbm c).contains (.ref D)=(decide (D=C)||decide (D=c.cov)):=by
 rw[abm,abm];have e1:(Value.ref D==Value.ref C)=decide (D=C):=by
  by_cases h:D=C
  ·rw[h,decide_eq_true rfl];simp
  ·rw[decide_eq_false h];exact Bool.eq_false_iff.mpr λz=>h (Value.ref.inj (beq_iff_eq.mp z))
 have e2:(Value.ref D==Value.ref c.cov)=decide (D=c.cov):=by
  by_cases h:D=c.cov
  ·rw[h,decide_eq_true rfl];simp
  ·rw[decide_eq_false h];exact Bool.eq_false_iff.mpr λz=>h (Value.ref.inj (beq_iff_eq.mp z))
 have e3:(vbm.contains (Value.ref D))=false:=rfl;rw[e1,e2,e3,adm]
end Pc
namespace Pc
open PySem PySem.Spec L2 PyProof.Rows Fm
noncomputable def prc (g:Ky→Option Int) (k:Ky):Nat:=((g k).getD 0).toNat
noncomputable def prs (g:Ky→Option Int) (ks:List Ky):Nat:=(ks.map (prc g)).sum
theorem gh (g:Ky→Option Int) (k:Ky) (ks:List Ky):prs g (k::ks)=prc g k+prs g ks:=by
 unfold prs;rw[aaw,aca]
theorem mw (g:Ky→Option Int) (a b:List Ky):prs g (a++b)=prs g a+prs g b:=by
 unfold prs;rw[aa8,ae1]
def Prd (g:Ky→Option Int) (ks:List Ky):Prop:=∀k∈ks,∃v,g k=some v∧1≤v
theorem Dd {g:Ky→Option Int} (hpos:∀k v,g k=some v→1≤v):∀{hs:List Ky} {c v:Int},cost g c hs=some v→Prd g hs∧v=c+(prs g hs:Int)
 | [],c,v,h=>by
  have h:some c=some v:=h;have:=aa4 h;exact ⟨λk hk=>(aa9 hk).elim,by show v=c+((0:Nat):Int);omega⟩
 | k::hs,c,v,h=>by
  cases e:g k with
  | none=>rw[gx e] at h;cases h
  | some x=>
   rw[fk e] at h;obtain ⟨h1,h2⟩:=Dd hpos h;have hx:=hpos k x e;refine ⟨λk' hk'=>?_,?_⟩
   ·rcases List.mem_cons.mp hk' with rfl | hk'
    ·exact ⟨x,e,hx⟩
    ·exact h1 k' hk'
   ·rw[gh,h2];have:prc g k=x.toNat:=by unfold prc;rw[e];rfl
    rw[this];omega
noncomputable def pick (kinds:List Str) (rs:List Rl) (ws:List V) (g:Ky→Option Int) (k:Ky):Str:=(namesW (bq kinds rs ws k.1) g k.2 ((g k).getD 0)).headD ""
noncomputable def zq (kinds:List Str) (rs:List Rl) (ws:List V) (nm:Str) (p:Nat):List Ky:=match rs.find? (λr=>decide (r.name=nm)) with
 | some r=>match bu kinds ws r.shape p ⟨[],[],[]⟩ with
  | some u=>u.hs.zip (aq kinds r.shape)
  | none=>[]
 | none=>[]
theorem find_name {rs:List Rl} (nd:(rs.map (·.name)).Nodup):∀{i:Nat} {r:Rl},rs[i]?=some r→rs.find? (λx=>decide (x.name=r.name))=some r:=by
 induction rs with
 | nil=>intro i r h;simp at h
 | cons x rs ih=>
  intro i r h;have nd:(x.name::rs.map (·.name)).Nodup:=nd;obtain ⟨n1,n2⟩:=List.nodup_cons.mp nd;cases i with
  | zero=>
   cases h
   rw[List.find?_cons_of_pos (by simp)]
  | succ i=>
   have h:rs[i]?=some r:=h;have ne:¬x.name=r.name:=λe=>n1 (e ▸ List.mem_map.mpr ⟨r,aah h,rfl⟩);rw[List.find?_cons_of_neg (by simpa using ne)];exact ih n2 h
theorem t7 {kinds:List Str} {rs:List Rl} {ws:List V} {g:Ky→Option Int} (bk:Bk kinds rs) (T:Tbl (fb kinds rs ws) g) {k:Ky} {v:Int} (h:g k=some v):
  ∃(i:Nat) (r:Rl) (u:Und),rs[i]?=some r∧r.name=pick kinds rs ws g k∧r.kind=k.2∧bu kinds ws r.shape k.1 ⟨[],[],[]⟩=some u∧zq kinds rs ws (pick kinds rs ws g k) k.1=u.hs.zip (aq kinds r.shape)∧Prd g (u.hs.zip (aq kinds r.shape))∧prs g (u.hs.zip (aq kinds r.shape))+1≤prc g k∧k.1 < ws.length:=by
 obtain ⟨ro,hro,h1,h2,h3⟩:=ou bk T h;obtain ⟨nm,hn⟩:=m7 T hro;obtain ⟨m1,m2,m3⟩:=i8 hro;have ek:k=(ro.place,ro.kind):=by rw[h1,h2]
 have ep:pick kinds rs ws g k=nm:=by
  unfold pick;rw[acy,ek];dsimp only;rw[m2];show (namesW (bq kinds rs ws ro.place) g ro.kind ro.price).head?.getD ""=nm
  rw[←m3,hn];rfl
 obtain ⟨i,r,u,r1,r2,r3,r4,r5⟩:=Bh bk hro (aek hn);obtain ⟨c1,c2⟩:=Dd T.pos r5;have pr:=bk.pr r (aah r1);have r4':bu kinds ws r.shape k.1 ⟨[],[],[]⟩=some u:=by rw[←h1];exact r4
 refine ⟨i,r,u,r1,by rw[ep];exact r2,by rw[r3,h2],r4',?_,c1,?_,by rw[←h1];exact m1⟩
 ·rw[ep,←r2];unfold zq;rw[find_name bk.nd r1];dsimp only;rw[r4']
 ·have:prc g k=ro.price.toNat:=by unfold prc;rw[h,h3];rfl
  rw[this];omega
noncomputable def lj (kinds:List Str) (rs:List Rl) (ws:List V) (g:Ky→Option Int):Nat→List Ky→List Str
 | 0,_=>[]
 | _+1,[]=>[]
 | n+1,k::w=>pick kinds rs ws g k::lj kinds rs ws g n (zq kinds rs ws (pick kinds rs ws g k) k.1++w)
noncomputable def cov (kinds:List Str) (rs:List Rl) (ws:List V) (g:Ky→Option Int) (st:List Ky):List Str:=lj kinds rs ws g (prs g st) st
section
variable {kinds:List Str} {rs:List Rl} {ws:List V} {g:Ky→Option Int}
theorem Prd.step (bk:Bk kinds rs) (T:Tbl (fb kinds rs ws) g) {k:Ky} {w:List Ky} (h:Prd g (k::w)):Prd g (zq kinds rs ws (pick kinds rs ws g k) k.1++w)∧prs g (zq kinds rs ws (pick kinds rs ws g k) k.1++w)+1≤prs g (k::w):=by
 obtain ⟨v,hv,_⟩:=h k aa7;obtain ⟨i,r,u,_,_,_,_,e,c1,c2,_⟩:=t7 bk T hv;rw[e];refine ⟨λk' hk'=>?_,?_⟩
 ·rcases List.mem_append.mp hk' with m | m
  ·exact c1 k' m
  ·exact h k' (aab _ m)
 ·rw[mw,gh];omega
theorem sd (bk:Bk kinds rs) (T:Tbl (fb kinds rs ws) g):∀(n m:Nat) (st:List Ky),Prd g st→prs g st≤n→prs g st≤m→lj kinds rs ws g n st=lj kinds rs ws g m st
 | 0,0,_,_,_,_=>rfl
 | 0,_+1,[],_,_,_=>rfl
 | _+1,0,[],_,_,_=>rfl
 | _+1,_+1,[],_,_,_=>rfl
 | 0,_,k::w,h,h1,_=>by
  have:=(h.step bk T).2;omega
 | _+1,0,k::w,h,_,h2=>by
  have:=(h.step bk T).2;omega
 | n+1,m+1,k::w,h,h1,h2=>by
  obtain ⟨a,b⟩:=h.step bk T;show _::_=_::_
  rw[sd bk T n m _ a (by omega) (by omega)]
theorem P4:cov kinds rs ws g []=[]:=by
 unfold cov;cases prs g ([]:List Ky) <;> rfl
theorem Mh (bk:Bk kinds rs) (T:Tbl (fb kinds rs ws) g) {k:Ky} {w:List Ky} (h:Prd g (k::w)):cov kinds rs ws g (k::w)=pick kinds rs ws g k::cov kinds rs ws g (zq kinds rs ws (pick kinds rs ws g k) k.1++w):=by
 obtain ⟨a,b⟩:=h.step bk T;unfold cov;obtain ⟨n,hn⟩:∃n,prs g (k::w)=n+1:=⟨prs g (k::w) - 1,by omega⟩;rw[hn];show _::_=_
 rw[sd bk T n _ _ a (by omega) (aa3 _)]
end
noncomputable def ig (r:Rw):List Key×V:=(kyK (gi r),.str (r.names.headD ""))
theorem x6 {kinds:List Str} {rs:List Rl} {ws:List V} {g:Ky→Option Int} (bk:Bk kinds rs):(((rowsOf kinds rs ws g).map ig).map (·.1)).Nodup:=by
 have nd0:=(jk bk.kn rs ws g ws.length).1;rw[ac0];have e:((λp:List Key×V=>p.1) ∘ ig)=kyK ∘ gi:=rfl;rw[e,←ac0];exact lr (λa b e=>qi e) nd0
theorem Dm {kinds:List Str} {rs:List Rl} {ws:List V} {g:Ky→Option Int} (bk:Bk kinds rs) {i:Nat} {r:Rw} (h:(rowsOf kinds rs ws g)[i]?=some r):cy (((rowsOf kinds rs ws g).take i).map ig) (kyK (gi r))=none:=by
 cases e:cy (((rowsOf kinds rs ws g).take i).map ig) (kyK (gi r)) with
 | none=>rfl
 | some v=>
  have nd:=x6 (ws:=ws) (g:=g) bk;have hm:=ui e;have e2:((rowsOf kinds rs ws g).map ig).map (·.1)=(((rowsOf kinds rs ws g).take (i+1)).map ig).map (·.1)++(((rowsOf kinds rs ws g).drop (i+1)).map ig).map (·.1):=by
   rw[←aa8,←aa8,ac3]
  rw[e2,ab6,h,aa8,aa8] at nd;have nd:=(List.nodup_append.mp nd).1;exact absurd rfl ((List.nodup_append.mp nd).2.2 _ hm _ (by simp[ig]))
theorem N4 {kinds:List Str} {rs:List Rl} {ws:List V} {g:Ky→Option Int} (bk:Bk kinds rs) (T:Tbl (fb kinds rs ws) g) (k:Ky):cy ((rowsOf kinds rs ws g).map ig) (kyK k)=(g k).map λ_=>V.str (pick kinds rs ws g k):=by
 have nd:=x6 (ws:=ws) (g:=g) bk;cases e:g k with
 | some v=>
  obtain ⟨r,hr,h1,h2,h3⟩:=ou bk T e;obtain ⟨m1,m2,m3⟩:=i8 hr;have ek:k=(r.place,r.kind):=by rw[h1,h2]
  refine zy nd (List.mem_map.mpr ⟨r,hr,?_⟩);have ep:pick kinds rs ws g k=r.names.headD "":=by
   unfold pick;rw[ek];dsimp only;rw[m2];show (namesW (bq kinds rs ws r.place) g r.kind r.price).headD ""=_
   rw[←m3]
  rw[ep,ek];rfl
 | none=>
  cases e2:cy ((rowsOf kinds rs ws g).map ig) (kyK k) with
  | none=>rfl
  | some v=>
   obtain ⟨p,hp,ep⟩:=List.mem_map.mp (ui e2);obtain ⟨r,hr,rfl⟩:=List.mem_map.mp hp;have hk:gi r=k:=qi ep;have:=(i8 hr).2.1;rw[show (r.place,r.kind)=k from hk,e] at this;cases this
def mr (H:Hp) (d:Addr) (kinds:List Str) (rs:List Rl) (ws:List V) (g:Ky→Option Int):Prop:=∃kvs:List (List Key×V),H d=some (.dT kvs)∧∀k,cy kvs (kyK k)=(g k).map λ_=>V.str (pick kinds rs ws g k)
theorem mr.same {H H':Hp} {d:Addr} {kinds:List Str} {rs:List Rl} {ws:List V} {g:Ky→Option Int} (h:mr H d kinds rs ws g) (s:ak H H'):mr H' d kinds rs ws g:=by
 obtain ⟨kvs,h1,h2⟩:=h;exact ⟨kvs,s _ _ h1,h2⟩
theorem mr.get {H:Hp} {d b:Addr} {kinds:List Str} {rs:List Rl} {ws:List V} {g:Ky→Option Int} (h:mr H d kinds rs ws g) {k:Ky} (hb:H b=some (kyT k)):kb H d (.ref b) ((g k).map λ_=>V.str (pick kinds rs ws g k)):=by
 obtain ⟨kvs,h1,h2⟩:=h;rw[←h2 k];exact kb.t h1 hb
def jz (H:Hp) (t:Addr) (r:Rl) (u:Und):Prop:=∃ra ut:Addr,H t=some (.tup [.ref ra,.ref ut])∧gm H ra r∧vg H ut u
def KsAt (H:Hp) (l:Addr) (ks:List Ky):Prop:=∃as:List Addr,H l=some (.lst (as.map V.ref))∧as.length=ks.length∧∀(j:Nat) (k:Ky),ks[j]?=some k→∃a,as[j]?=some a∧H a=some (kyT k)
def xb:Sp:=λvs H Q _=>∃(b t:Addr) (kinds:List Str) (rs:List Rl) (r:Rl) (u:Und),vs=[.ref b,.ref t]∧bh H b kinds rs∧Bk kinds rs∧r∈rs∧jz H t r u∧u.hs.length=(aq kinds r.shape).length∧∀(l:Addr) (H':Hp),ak H H'→H l=none→KsAt H' l (u.hs.zip (aq kinds r.shape)).reverse→Q (.ref l) H'
def ug:Sp:=λvs H Q _=>∃(b wt:Addr) (kinds:List Str) (rs:List Rl) (ws:List V),vs=[.ref b,.ref wt]∧bh H b kinds rs∧H wt=some (.tup ws)∧Bk kinds rs∧Tw ws∧∀(d:Addr) (H':Hp) (g:Ky→Option Int),ak H H'→H d=none→Tbl (fb kinds rs ws) g→mr H' d kinds rs ws g→Q (.ref d) H'
theorem Nz {b wt:Addr} {kinds:List Str} {rs:List Rl} {ws:List V} {H:Hp} {Q:VK} {E:XK} (p0:bh H b kinds rs) (p1:H wt=some (.tup ws)) (p2:Bk kinds rs) (p3:Tw ws) (p4:∀(d:Addr) (H':Hp) (g:Ky→Option Int),ak H H'→H d=none→Tbl (fb kinds rs ws) g→mr H' d kinds rs ws g→Q (.ref d) H'):ug [.ref b,.ref wt] H Q E:=⟨b,wt,kinds,rs,ws,rfl,p0,p1,p2,p3,p4⟩
theorem Ju {b t:Addr} {kinds:List Str} {rs:List Rl} {r:Rl} {u:Und} {H:Hp} {Q:VK} {E:XK} (p0:bh H b kinds rs) (p1:Bk kinds rs) (p2:r∈rs) (p3:jz H t r u) (p4:u.hs.length=(aq kinds r.shape).length) (p5:∀(l:Addr) (H':Hp),ak H H'→H l=none→KsAt H' l (u.hs.zip (aq kinds r.shape)).reverse→Q (.ref l) H'):xb [.ref b,.ref t] H Q E:=⟨b,t,kinds,rs,r,u,rfl,p0,p1,p2,p3,p4,p5⟩
end Pc
namespace L2.Lrv
open PySem PySem.Spec PyProof.Rows PySem.W
theorem E1:typeLookup (.type "list_reverseiterator") "__len__"=pure none:=by rw[typeLookup_type,builtinLookup_eq_fast];kernel_rfl
theorem hint:typeLookup (.type "list_reverseiterator") "__length_hint__"=pure (some (.builtin "list_reverseiterator.__length_hint__")):=by rw[typeLookup_type,builtinLookup_eq_fast];kernel_rfl
section
variable {prog:Program} {w:World} {A:Around} {E:Value→Shared→Prop} {s:Shared} {r:Addr}
theorem Mc {Q:Bool→Shared→Prop} (hT:s.TypeIs (.ref r) "list_reverseiterator") (h:Q false s):wpAny (model prog w) A (Builtin.List.listLengthHint (.ref r)) Q E s:=by
 unfold Builtin.List.listLengthHint;refine wpAny_bind (wpAny_specialOf hT E1 ?_);show wpAny _ A (specialOf (Value.ref r) (Str.ofString "__length_hint__") >>=_) _ _ _
 refine wpAny_bind (wpAny_specialOf hT hint ?_);generalize hid:("list_reverseiterator.__length_hint__":String)=id0;wp_delta
 rw[show splitId id0=some ("list_reverseiterator","__length_hint__") from by subst hid;decide+kernel];subst hid;refine wpAny_bind (wpAny_isInstance (T:="list_reverseiterator") (b:=true) hT (by rw[isSubtype_type];kernel_rfl) ?_);refine wpAny_ite_split (λhab=>absurd hab (by decide)) (λ_=>?_);refine wpAny_ite_split (λ_=>?_) (λhab=>absurd (by decide+kernel) hab);refine wpAny_ite_split (λhab=>absurd hab (by decide+kernel)) (λ_=>?_);exact wpAny_pure h
theorem Eg {R:Result→Shared→Prop} {I l:Addr} {items:Array Value} (hh:A.handled=none) (hI:s.heap.IsRevIter I l ((items.size:Int) - 1)) (hl:s.heap.IsList l items) (hne:l≠I) (hn:items.size≤sizeLine) (S:Addr) (hSI:S≠I) (hSl:S≠l) (res:Value) (c₀:Nat) (hS:s.heap.get? S=some { cls:=.type "list",data:=.seq #[] c₀ })
  (hR:∀h' tk acc' c',(∀b o,b≠S→b≠I→s.heap.get? b=some o→h'.get? b=some o)→h'.get? S=some { cls:=.type "list",dict:=none,data:=.seq acc' c',slots:=#[] }→ItemsOf (λi v=>items[items.size - 1 - i]?=some v) acc' items.size→R (.ok (.ret res)) { s with heap:=h',toks:=tk }):
  wpAny (model prog w) A.in1 (Builtin.List.listExtendWith (.ref S) (.ref I) res)
   (λfin s'=>match fin with | .done f=>R (.ok f) s' | .again c'=>c'.quiet=true∧codeAny (model prog w) A c' R s') (λe s'=>R (.error e) s') s:=by
 have W:=Walks.listRev (prog:=prog) (w:=w) (A:=A.in1) hh I l hne items;have hSf:S∉[I,l]:=by simp only[aan,aa9,or_false,not_or];exact ⟨hSI,hSl⟩
 have key:∀(h:Heap) (c₁ tk:Nat),(0≤items.size∧h.IsRevIter I l ((items.size:Int) - 1 - ((0:Nat):Int))∧h.IsList l items)→(∀b o,b≠S→s.heap.get? b=some o→h.get? b=some o)→
   h.get? S=some { cls:=.type "list",data:=.seq #[] c₁ }→codeAny (model prog w) A (.builtin "list.extend.loop" ⟨[.ref S,.ref I,res],[]⟩) R { s with heap:=h,toks:=tk }:=by
  intro h c₁ tk hst hk hS₁;refine codeAny_extend_loopS W.toS hn S hSf res items.size 0 _ #[] c₁ rfl (aa6 _) hst hS₁ (ItemsOf.nil _) λs' acc' c' hm hS' hacc=>?_;rw[Moved.eq_with hm];refine hR s'.heap s'.toks acc' c' (λb o hb hbI e=>hm.heap b o (λhmem=>?_) (hk b o hb e)) hS' hacc;rcases List.mem_cons.mp hmem with e' | hmem
  ·exact hb e'
  ·exact hbI (List.mem_singleton.mp hmem)
 have hT:=hI.typeIs;unfold Builtin.List.listExtendWith;refine wpAny_bind (wpAny_typeOf (T:="list_reverseiterator") hT ?_);have h1:Builtin.List.listSameRef (.ref S) (.ref I)=false:=by simp[Builtin.List.listSameRef,hSI]
 have h2:(Value.type "list_reverseiterator"==Value.type "list")=false:=by decide
 have h3:(Value.type "list_reverseiterator"==Value.type "tuple")=false:=by decide
 simp only[h1,h2,h3,adm,abb,if_false];refine wpAny_bind (wpAny_pyIter_revIter hI ?_);refine wpAny_bind (wpAny_holding (Mc hT ?_));refine wpAny_ite_split (λhab=>absurd hab (by decide)) (λ_=>wpAny_pure ⟨plainId_quiet PySem.F.plain_extend_loop _,key _ c₀ _ ⟨aa6 _,by rw[show (items.size:Int) - 1 - ((0:Nat):Int)=(items.size:Int) - 1 by omega];exact hI,hl⟩ (λb o _ e=>e) hS⟩)
theorem Kj {Q:Value→Shared→Prop} {I l:Addr} {items:Array Value} (hh:A.handled=none) (hI:s.heap.IsRevIter I l ((items.size:Int) - 1)) (hl:s.heap.IsList l items) (hne:l≠I) (hlI:I < s.heap.objs.size) (hll:l < s.heap.objs.size) (hn:items.size≤sizeLine)
  (hQ:∀h' tk acc c,(∀b o,b≠I→s.heap.get? b=some o→h'.get? b=some o)→h'.get? s.heap.objs.size=some { cls:=.type "list",dict:=none,data:=.seq acc c,slots:=#[] }→ItemsOf (λi v=>items[items.size - 1 - i]?=some v) acc items.size→Q (.ref s.heap.objs.size) { s with heap:=h',toks:=tk }):
  wpAny (model prog w) A (call (.type "list") [.ref I]) Q E s:=by
 refine callType_codes (Q₁:=λobj s₁=>obj=.ref s.heap.objs.size∧s₁={ s with heap:=s.heap.push { cls:=.type "list",data:=.seq #[] } }) PySem.F.called_list (PySem.F.typeCall_list_1 _) PySem.F.entry_list_init
  (code_list_new _ ⟨rfl,rfl⟩) λobj s₁ h₁=>?_
 obtain ⟨rfl,rfl⟩:=h₁;have hS:(s.heap.push { cls:=.type "list",data:=.seq #[] }).get? s.heap.objs.size=some { cls:=.type "list",data:=.seq #[] }:=Heap.get?_push_size _ rfl;refine ⟨⟨_,hS,rfl⟩,PySem.F.args_list_init_2 _ _,?_⟩;show wpAny _ _ (do let old ←Builtin.List.listItems (.ref s.heap.objs.size);Builtin.List.listUpdate (.ref s.heap.objs.size) (λ_=>#[]);letGo old.toList.reverse;Builtin.List.listExtendWith (.ref s.heap.objs.size) (.ref I) .none) _ _ _
 refine wpAny_bind ?_;unfold Builtin.List.listItems;refine wpAny_bind (wpAny_seqItems hS rfl (wpAny_pure ?_));show wpAny _ _ (updateSeq s.heap.objs.size (λ_=>#[]) >>=λ_=>letGo (#[]:Array Value).toList.reverse >>=λ_=>Builtin.List.listExtendWith (.ref s.heap.objs.size) (.ref I) .none) _ _ _
 refine wpAny_bind (wpAny_updateSeq hS rfl ?_);have hS₂:=Heap.get?_update_self (Obj.mapSeq (λ_=>(#[]:Array Value))) hS rfl;have oth:∀b o,b≠s.heap.objs.size→(s.heap.push { cls:=.type "list",data:=.seq #[] }).get? b=some o→((s.heap.push { cls:=.type "list",data:=.seq #[] }).update s.heap.objs.size (Obj.mapSeq (λ_=>(#[]:Array Value)))).get? b=some o:=λb o hb e=>(Heap.get?_update_other _ _ (Ne.symm hb)).trans e;refine wpAny_bind (wpAny_letGo ?_);have up:∀b o,b < s.heap.objs.size→s.heap.get? b=some o→((s.heap.push { cls:=.type "list",data:=.seq #[] }).update s.heap.objs.size (Obj.mapSeq (λ_=>(#[]:Array Value)))).get? b=some o:=λb o hb e=>oth b o (aao hb) (Heap.get?_push_of_some _ e);refine Eg (A:=A.in1) hh (hI.at λo e=>up I o hlI e) (hl.at λo e=>up l o hll e) hne hn s.heap.objs.size (ab9 hlI) (ab9 hll) .none _ hS₂ λh' tk acc c hk hS' hacc=>?_;exact ⟨rfl,hQ h' tk acc c (λb o hbI e=>hk b o (aao (Heap.lt_size e)) hbI (up b o (Heap.lt_size e) e)) hS' hacc⟩
end
end L2.Lrv
namespace L2
open PySem PySem.Spec PyProof.Rows
def tLR (K:PySem.W.Frag) (ta:TA):TE:=λσ H Q=>ta σ H λvs H1=>∃(l:Addr) (xs:List V),vs=[.ref l]∧SqL K H1 l xs∧∀p,H1 p=none→Q (.ref p) (upd H1 p (.lst xs.reverse))
section
variable {X:Cx}
theorem wu {a:Expr} {ta:TA} {p p2 pos pos2:Pos} (hc:X.calm=true) (hg:Gl X "list") (hm:X.mg "list"=none) (hg2:Gl X "reversed") (hm2:X.mg "reversed"=none) (ha:PA X [a] ta)
  (hs:starEach [.Call (.Name "reversed" p2) [a] [] pos2] X.env=[(false,eval (.Call (.Name "reversed" p2) [a] [] pos2) X.env)]:=by rfl) (hs2:starEach [a] X.env=[(false,eval a X.env)]:=by rfl):
  PE X (.Call (.Name "list" p) [.Call (.Name "reversed" p2) [a] [] pos2] [] pos) (tLR X.K ta):=by
 intro pins s σ H Q I h;refine wpAny_Call_Name_kw (g9 I hg hm Ly ?_);refine PyProof.Rows.callWith_type1 ?_ hs rfl;rw[hs];show wpAny _ _ (spliced ((false,eval _ X.env)::backTo pos [])) _ _ s
 refine Calls.spliced_cons ?_;refine wpAny_Call_Name_kw (g9 I hg2 hm2 wx ?_);refine PyProof.Rows.callWith_type1 (thn (ha pos2 pins s σ H _ I h) λus s1 ⟨vs,H1,I1,r1,q1⟩=>?_) hs2 rfl;obtain ⟨l,xs,e,hq,q⟩:=q1;subst e;obtain ⟨u1,rfl,ru1⟩:=vals1 r1;cases ru1
 obtain ⟨its,rv,pl,hz⟩:=I1.list hq;have hlen:=rv.length;refine call_reversed_list pl.isList (Calls.spliced_nil ?_);have lt:l < s1.heap.objs.size:=by
  obtain ⟨o,ho,_⟩:=pl.isList;exact Heap.lt_size ho
 have hsz:(s1.heap.push (revObj l ((its.toArray.size:Int) - 1))).objs.size=s1.heap.objs.size+1:=Heap.size_push _ _;refine Lrv.Kj (s:={ s1 with heap:=s1.heap.push (revObj l ((its.toArray.size:Int) - 1)) }) (I:=s1.heap.objs.size) (l:=l) (items:=its.toArray) (I1.ok.hd hc) ⟨_,Heap.get?_push_size _ rfl,rfl,rfl⟩ (pl.isList.at λo e=>Heap.get?_push_of_some _ e) (aao lt) (by rw[hsz];exact aer _) (by rw[hsz];exact aci lt) (by rw[aa5,←hlen];exact hz) λh' tk acc c kp hL hacc=>?_;have k2:∀b o,s1.heap.get? b=some o→h'.get? b=some o:=λb o e=>kp b o (aao (Heap.lt_size e)) (Heap.get?_push_of_some _ e);have ea:acc.toList=its.reverse:=by
  apply aej
  intro j;have h1:acc.size=its.length:=by
   have h1:acc.size=its.toArray.size:=hacc.1;rw[h1,aa5]
  by_cases hj:j < its.length
  ·have hj2:j < acc.size:=by omega
   have g:its.toArray[its.toArray.size - 1 - j]?=some acc[j]:=hacc.2 j _ (abk hj2);rw[ad4,aa5] at g;rw[ac4 hj,g,ad3,abk hj2]
  ·rw[abd (by rw[abx];omega),abd (by rw[aaq];omega)]
 refine ⟨.ref _,_,I1.laid (t':=tk) k2 (show s1.heap.objs.size≤(s1.heap.push (revObj l ((its.toArray.size:Int) - 1))).objs.size by rw[hsz];exact ad1 _) (show cf X.prog X.w _ h' _ (.lst xs.reverse) from ⟨by rw[aaq];exact hz,its.reverse,c,rv.reverse,by rw[←ea,aeb];exact hL⟩),rfl,q _ (I1.hok.fresh (by rw[hsz];exact ad1 _))⟩
end
section
open Builtin Builtin.Str
end
section
variable {X:Cx} {v o a:Expr} {tv to ta:TE} {p1 p2 pos apos cpos:Pos} {c y z:Str} {j j1 j2:Nat}
def Co (tv:TE):TE:=λσ H Q=>tv σ H λx H1=>∃z,x=.str z∧(∀c∈z.cps.toList,c < 128)∧z.length≤1000000∧∀m,Q (.str m) H1
theorem Pk (hv:PE X v tv) (hc:c.length≤100:=by decide+kernel):PE X (.JoinedStr [.FormattedValue v 114 none p1,.Constant (.str c) j p2] pos) (Co tv):=by
 intro pins s σ H Q I h;refine wpAny_JoinedStr ?_;refine wpAny_FormattedValue_repr (thn (hv pins s σ H _ I h) λu s1 ⟨x,H1,I1,r1,z,e,ha,hz,q⟩=>?_);subst e;obtain ⟨t,rfl⟩:=r1;have hl:=StrLaws.reprText_len z λc hc=>adu (ha c hc) (by decide);have sz:=sizeLine_eq;refine pyReprObj_str ?_ (by omega);have e0:∀w:Str,(Str.empty++w).length=w.length:=λw=>by rw[strLen_append];exact acm _
 refine formatField_str (λt' tk=>⟨_,t',rfl,by rw[e0];omega,?_⟩) (by omega);refine Calls.Constant_str ⟨c,_,rfl,by rw[strLen_append,e0];omega,by rw[strLen_append,e0];omega,?_⟩;exact ⟨.str _,H1,I1.tok _,⟨_,rfl⟩,q _⟩
end
abbrev TF:=St→Hp→(Hp→Prop)→Prop
def PF (X:Cx) (es:List Expr) (n:Nat) (t:TF):Prop:=
 ∀(pins:List (Addr×Obj)) (s:Shared) (σ:St) (H:Hp) (Q:Hp→Prop) (acc:Str),Inv X pins σ H s→acc.length+n≤sizeLine→t σ H Q→
  Joins (model X.prog X.w) X.A X.xe (evalEach es X.env) acc (λout s1=>out.length≤sizeLine∧∃H1,Inv X pins σ H1 s1∧Q H1) s
noncomputable def tF0:TF:=λ_ H Q=>Q H
noncomputable def tFR (tv:TE) (t:TF):TF:=λσ H Q=>tv σ H λx H1=>∃z,x=.str z∧(∀c∈z.cps.toList,c < 128)∧z.length≤1000∧t σ H1 Q
noncomputable def tFI (tv:TE) (t:TF):TF:=λσ H Q=>tv σ H λx H1=>∃a,x=.int a∧a.natAbs.log2 < 1920∧t σ H1 Q
def tFmts (t:TF):TE:=λσ H Q=>t σ H λH1=>∀m,Q (.str m) H1
section
variable {X:Cx} {v e1 e2:Expr} {es:List Expr} {tv:TE} {t:TF} {p pos:Pos} {c:Str} {j n:Nat}
theorem pf_nil:PF X [] 0 tF0:=λpins s σ H Q acc I ha h=>⟨ha,H,I,h⟩
theorem pf_c (r:PF X es n t) (hc:c.length≤100:=by decide+kernel):PF X (.Constant (.str c) j p::es) (100+n) t:=λpins s σ H Q acc I ha h=>
 Calls.Constant_str ⟨c,_,rfl,by rw[strLen_append];omega,r pins _ σ H Q _ (I.tok _) (by rw[strLen_append];omega) h⟩
theorem pf_r (hv:PE X v tv) (r:PF X es n t):PF X (.FormattedValue v 114 none p::es) (20000+n) (tFR tv t):=λpins s σ H Q acc I ha h=>by
 refine wpAny_FormattedValue_repr (thn (hv pins s σ H _ I h) λu s1 ⟨x,H1,I1,r1,z,e,hz,hl,q⟩=>?_);subst e;obtain ⟨t,rfl⟩:=r1;have hl:=StrLaws.reprText_len z λc hc=>adu (hz c hc) (by decide);have sz:=sizeLine_eq;refine pyReprObj_str ?_ (by omega);exact formatField_str (λt' tk=>⟨_,t',rfl,by rw[strLen_append];omega,r pins _ σ H1 Q _ (I1.tok _) (by rw[strLen_append];omega) q⟩) (by omega)
theorem pf_i (hv:PE X v tv) (r:PF X es n t):PF X (.FormattedValue v (-1) none p::es) (2000+n) (tFI tv t):=λpins s σ H Q acc I ha h=>by
 refine wpAny_FormattedValue_plain (thn (hv pins s σ H _ I h) λu s1 ⟨x,H1,I1,r1,a,e,hl,q⟩=>?_);subst e;obtain ⟨t,rfl⟩:=r1;have hx:(Str.ofString (toString a)).length≤1921:=by rw[PySem.ofString_length];exact int_text_length_le (by decide) hl
 have sz:=sizeLine_eq;refine formatField_int_small hl ?_;exact ⟨_,_,rfl,by rw[strLen_append];show _+(Str.ofString (toString a)).length≤_;omega,r pins _ σ H1 Q _ (I1.tok _) (by rw[strLen_append];show _+(Str.ofString (toString a)).length+_≤_;omega) q⟩
theorem Nm (h:PF X (e1::e2::es) n t) (hn:n≤1000000:=by decide):PE X (.JoinedStr (e1::e2::es) pos) (tFmts t):=by
 intro pins s σ H Q I hq;have sz:=sizeLine_eq;refine wpAny_JoinedStr ?_;have:=h pins s σ H _ Str.empty I (by show 0+n≤_;omega) hq;have mono:∀(xs:List (Sem Value)) (acc:Str) (Q Q':Str→Shared→Prop) (s:Shared),(∀o s,Q o s→Q' o s)→Joins (model X.prog X.w) X.A X.xe xs acc Q s→Joins (model X.prog X.w) X.A X.xe xs acc Q' s:=by
  intro xs;induction xs with
  | nil=>intro acc Q Q' s hQ h;exact hQ _ _ h
  | cons x r ih=>intro acc Q Q' s hQ h;exact thn h λu s1 ⟨y,t,e,hl,hj⟩=>⟨y,t,e,hl,ih _ _ _ _ hQ hj⟩
 exact mono _ _ _ _ _ (λo s1 ⟨hl,H1,I1,q⟩=>⟨hl,.str o,H1,I1.tok _,⟨_,rfl⟩,q o⟩) this
end
section
variable {X:Cx}
def qz (K:PySem.W.Frag) (neg:Bool):R2:=λx y H Q=>∃a b xs,x=.ref a∧y=.ref b∧SqL K H a xs∧SqL K H b []∧Q (.bl (if neg then !xs.isEmpty else xs.isEmpty)) H
theorem Kz (hu:X.A.units < cLine):OpR X (compareOp .Eq) (qz X.K false):=by
 intro pins s σ H x y v u Q I rx ry h;obtain ⟨a,b,xs,rfl,rfl,ha,hb,q⟩:=h;cases rx
 cases ry
 obtain ⟨its,r1,p1,_⟩:=I.list ha;obtain ⟨its2,r2,p2,_⟩:=I.list hb;have l1:=r1.length;have l2:0=its2.length:=r2.length;by_cases hl:xs.length=0
 ·have e1:its.toArray.size=0:=by rw[aa5,←l1,hl]
  refine SeqAt.eq_listAt (e:=λ_=>true) p1.isList p2.isList (by rw[aa5,aa5,←l1,←l2,hl]) hu (λj h1 h2=>absurd h1 (by rw[e1];exact adb _)) ?_;refine bj I q ?_;rw[e1,List.length_eq_zero_iff.mp hl];rfl
 ·refine SeqAt.eq_list_lengthsAt p1.isList p2.isList (by rw[aa5,aa5,←l1,←l2];simpa using hl) hu ?_;refine bj I q ?_;cases xs with
  | nil=>exact absurd rfl hl
  | cons _ _=>rfl
theorem Bl (hu:X.A.units < cLine):OpR X (compareOp .NotEq) (qz X.K true):=by
 intro pins s σ H x y v u Q I rx ry h;obtain ⟨a,b,xs,rfl,rfl,ha,hb,q⟩:=h;cases rx
 cases ry
 obtain ⟨its,r1,p1,_⟩:=I.list ha;obtain ⟨its2,r2,p2,_⟩:=I.list hb;have l1:=r1.length;have l2:0=its2.length:=r2.length;by_cases hl:xs.length=0
 ·have e1:its.toArray.size=0:=by rw[aa5,←l1,hl]
  refine SeqAt.RcNeAt.lists (e:=λ_=>true) p1.isList p2.isList (by rw[aa5,aa5,←l1,←l2,hl]) hu (λj h1 h2=>absurd h1 (by rw[e1];exact adb _)) _ _ _ _ ?_;refine bj I q ?_;rw[e1,List.length_eq_zero_iff.mp hl];rfl
 ·refine SeqAt.RcNeAt.lists_lengths p1.isList p2.isList (by rw[aa5,aa5,←l1,←l2];simpa using hl) hu _ _ _ _ ?_;refine bj I q ?_;cases xs with
  | nil=>exact absurd rfl hl
  | cons _ _=>rfl
end
end L2
theorem L2.us6 {α:Type} {P:List α→Prop} {us:List α} (hl:us.length=6) (h:∀a b c d e f,P [a,b,c,d,e,f]):P us:=
 match us,hl with
 | [_,_,_,_,_,_],_=>h _ _ _ _ _ _
namespace Pc
open PySem PySem.Spec L2 PyProof.Rows Fm
theorem qf {kinds:List Str} {ws:List V} (hk:Kinds kinds) (hw:∀v∈ws,isW v):∀(sh:List V) (p:Nat) (u u':Und) (d m:Nat),(∀v∈sh,isW v)→pend d (sh.map arV)=some 0→eat d ((ws.drop p).map arV)=some m→(∀h∈u.hs,h < ws.length)→bu kinds ws sh p u=some u'→∀h∈u'.hs,h < ws.length
 | [],p,u,u',d,m,_,_,_,hu,h=>by
  have h:some u=some u':=h;cases h
  exact hu
 | v::r,p,u,u',0,m,_,hp,_,_,_=>nomatch hp
 | v::r,p,u,u',d+1,m,hs,hp,he,hu,h=>by
  have hpl:p < ws.length:=by
   rcases aeh p ws.length with g | g
   ·exact g
   ·rw[abz g] at he;cases he
  have hx:ws[p]?=some ws[p]:=aa1 hpl;rw[gb] at h;have eg:ws.getD p .non=ws[p]:=by rw[aae,hx];rfl
  rw[eg] at h;by_cases c:lies (br kinds v) v ws[p]=true
  ·rw[if_pos c] at h;obtain ⟨d',m',h1,h2⟩:=gy hk (hs v aa7) hx (hw _ (ab5 hpl)) hp he c;refine qf hk hw r _ _ u' d' m' (λx hx=>hs x (aab _ hx)) h1 h2 (λy hy=>?_) h;unfold Und.put at hy;split at hy
   ·rcases List.mem_append.mp hy with z | z
    ·exact hu y z
    ·rw[List.mem_singleton.mp z];exact hpl
   ·split at hy
    ·exact hu y hy
    ·split at hy
     ·exact hu y hy
     ·exact hu y hy
  ·rw[if_neg c] at h;cases h
theorem Iw (kinds:List Str) (sh:List V):∀z∈aq kinds sh,z∈kinds:=λz hz=>by
 unfold aq at hz;obtain ⟨v,_,hv⟩:=List.mem_filterMap.mp hz;cases v with
 | str y=>
  dsimp only at hv;split at hv
  ·cases hv
   assumption
  ·cases hv
 | _=>cases hv
theorem yd (kinds:List Str) (sh:List V):(aq kinds sh).length≤sh.length:=abu _ _
noncomputable def bw (kinds:List Str) (rs:List Rl) (ws:List V) (nm kd:Str) (p:Nat):Option (Rl×Und):=
 match rs.find? (λr=>decide (r.name=nm)) with
 | some r=>if r.kind=kd then (bu kinds ws r.shape p ⟨[],[],[]⟩).map (λu=>(r,u)) else none
 | none=>none
theorem wq {K:PySem.W.Frag} {H:Hp} {a b:Addr} {xs:List V} {neg:Bool} {Q:VK} (h1:H a=some (.lst xs)) (h2:H b=some (.lst [])) (q:Q (.bl (if neg then !xs.isEmpty else xs.isEmpty)) H):qz K neg (.ref a) (.ref b) H Q:=⟨a,b,xs,rfl,rfl,SqL.of h1,SqL.of h2,q⟩
theorem qd {kinds:List Str} {rs:List Rl} {ws:List V} {p i:Nat} {r:Rl} (bk:Bk kinds rs) (h:rs[i]?=some r):bw kinds rs ws r.name r.kind p=(bu kinds ws r.shape p ⟨[],[],[]⟩).map (λu=>(r,u)):=by
 unfold bw;rw[find_name bk.nd h];dsimp only;rw[if_pos rfl]
theorem Io {kinds:List Str} {rs:List Rl} {ws:List V} {p:Nat} {nm kd:Str} (h:∀(i:Nat) (x:Rl),rs[i]?=some x→x.name=nm→x.kind=kd→bu kinds ws x.shape p ⟨[],[],[]⟩=none):bw kinds rs ws nm kd p=none:=by
 unfold bw;cases e:rs.find? (λr=>decide (r.name=nm)) with
 | none=>rfl
 | some r=>
  dsimp only;by_cases c:r.kind=kd
  ·obtain ⟨i,hi⟩:=List.mem_iff_getElem?.mp (acr e);rw[if_pos c,h i r hi (by simpa using aey e) c];rfl
  ·rw[if_neg c]
theorem jj {kinds:List Str} {rs:List Rl} {ws:List V} {p:Nat} {nm kd:Str} {r:Rl} {u:Und} (h:bw kinds rs ws nm kd p=some (r,u)):r∈rs∧r.name=nm∧r.kind=kd∧bu kinds ws r.shape p ⟨[],[],[]⟩=some u:=by
 unfold bw at h;cases e:rs.find? (λr=>decide (r.name=nm)) with
 | none=>rw[e] at h;cases h
 | some x=>
  rw[e] at h;dsimp only at h;by_cases c:x.kind=kd
  ·rw[if_pos c] at h;obtain ⟨u',h1,h2⟩:=Option.map_eq_some_iff.mp h;cases h2
   exact ⟨acr e,by simpa using aey e,c,h1⟩
  ·rw[if_neg c] at h;cases h
noncomputable def gn (kinds:List Str) (d:Rl×Und):List Ky:=d.2.hs.zip (aq kinds d.1.shape)
noncomputable def bp (kinds:List Str) (rs:List Rl) (ws:List V):List Str→List Ky→Option (List (Rl×Und))
 | [],[]=>some []
 | [],_::_=>none
 | _::_,[]=>none
 | nm::r,k::st=>match bw kinds rs ws nm k.2 k.1 with
  | some d=>(bp kinds rs ws r (gn kinds d++st)).map (d::·)
  | none=>none
theorem fw {kinds:List Str} {rs:List Rl} {ws:List V} {nm:Str} {r:List Str} {k:Ky} {st:List Ky} {d:Rl×Und} (h:bw kinds rs ws nm k.2 k.1=some d):bp kinds rs ws (nm::r) (k::st)=(bp kinds rs ws r (gn kinds d++st)).map (d::·):=by
 simp only[bp,h]
theorem ir {kinds:List Str} {rs:List Rl} {ws:List V} {nm:Str} {r:List Str} {k:Ky} {st:List Ky} (h:bw kinds rs ws nm k.2 k.1=none):bp kinds rs ws (nm::r) (k::st)=none:=by
 simp only[bp,h]
theorem sr {kinds:List Str} {rs:List Rl} {ws:List V}:∀{ns:List Str} {st:List Ky} {ds:List (Rl×Und)},bp kinds rs ws ns st=some ds→ds.length=ns.length∧∀d∈ds,d.1∈rs
 | [],[],ds,h=>by cases h;exact ⟨rfl,λd hd=>nomatch hd⟩
 | [],_::_,ds,h=>nomatch h
 | _::_,[],ds,h=>nomatch h
 | nm::r,k::st,ds,h=>by
  cases e:bw kinds rs ws nm k.2 k.1 with
  | none=>rw[ir e] at h;cases h
  | some d=>
   rw[fw e] at h;obtain ⟨ds',h1,rfl⟩:=Option.map_eq_some_iff.mp h;obtain ⟨g1,g2⟩:=sr h1;refine ⟨by rw[aai,aai,g1],λx hx=>?_⟩;rcases List.mem_cons.mp hx with rfl | hx
   ·exact (jj (r:=x.1) (u:=x.2) e).1
   ·exact g2 x hx
noncomputable def cpr (ds:List (Rl×Und)):Int:=(ds.map (·.1.price)).sum
def KyOk (ws:List V) (st:List Ky):Prop:=∀k∈st,k.1 < ws.length∧cx k.2
theorem KyOk.step {kinds:List Str} {rs:List Rl} {ws:List V} (bk:Bk kinds rs) (tw:Tw ws) (kt:∀z∈kinds,cx z) {k:Ky} {st:List Ky} (h:KyOk ws (k::st)) {nm:Str} {d:Rl×Und} (hr:bw kinds rs ws nm k.2 k.1=some d):KyOk ws (gn kinds d++st)∧(gn kinds d).length≤100∧d.2.hs.length=(aq kinds d.1.shape).length:=by
 obtain ⟨h1,h2,h3,h4⟩:=jj (r:=d.1) (u:=d.2) hr;obtain ⟨w1,w2,w3⟩:=bk.sh _ h1;obtain ⟨n,hn⟩:=tw.eat (h k aa7).1;have li:=qf bk.kd (λv hv=>(tw.w v hv).1) _ _ _ _ 1 n w1 w2 hn (λ_ z=>(aa9 z).elim) h4;have hl:d.2.hs.length=(aq kinds d.1.shape).length:=by
  have:=(ju bk.kd _ _ _ _ w1 h4).1;simpa using this
 refine ⟨λx hx=>?_,?_,hl⟩
 ·rcases List.mem_append.mp hx with hx | hx
  ·have:=ac2 (show (x.1,x.2)∈_ from hx);exact ⟨li _ this.1,kt _ (Iw _ _ _ this.2)⟩
  ·exact h x (aab _ hx)
 ·unfold gn;have:=yd kinds d.1.shape;rw[acf];omega
theorem jz.tk {H H':Hp} {t:Addr} {r:Rl} {u:Und} (h:jz H t r u) (s:TK H H'):jz H' t r u:=by
 obtain ⟨ra,ut,h1,⟨sa,da,ds,g1,g2,g3⟩,t1,t2,t3,u1,u2,u3,u4⟩:=h;exact ⟨ra,ut,s _ _ h1,⟨sa,da,ds,s _ _ g1,s _ _ g2,s _ _ g3⟩,t1,t2,t3,s _ _ u1,s _ _ u2,s _ _ u3,s _ _ u4⟩
def gk (H:Hp) (as:List Addr) (ds:List (Rl×Und)):Prop:=as.length=ds.length∧∀(j:Nat) (d:Rl×Und),ds[j]?=some d→∃a,as[j]?=some a∧jz H a d.1 d.2
theorem gk.nil (H:Hp):gk H [] []:=⟨rfl,λj d h=>by simp at h⟩
theorem gk.tk {H H':Hp} {as:List Addr} {ds:List (Rl×Und)} (h:gk H as ds) (s:TK H H'):gk H' as ds:=⟨h.1,λj d e=>by obtain ⟨a,a1,a2⟩:=h.2 j d e;exact ⟨a,a1,a2.tk s⟩⟩
theorem gk.snoc {H:Hp} {as:List Addr} {ds:List (Rl×Und)} (h:gk H as ds) {a:Addr} {d:Rl×Und} (g:jz H a d.1 d.2):gk H (as++[a]) (ds++[d]):=by
 refine ⟨by rw[aa2,aa2,h.1];rfl,λj x hj=>?_⟩;by_cases c:j < ds.length
 ·rw[aaf c] at hj;obtain ⟨a',h1,h2⟩:=h.2 j x hj;exact ⟨a',by rw[aaf (by rw[h.1];exact c)];exact h1,h2⟩
 ·have hl:=(List.getElem?_eq_some_iff.mp hj).1;rw[aa2,aaa] at hl;obtain rfl:j=ds.length:=by omega
  rw[aad (aa3 _),acx] at hj;cases hj
  exact ⟨a,by rw[←h.1,aad (aa3 _),acx];rfl,g⟩
def KsL (H:Hp) (as:List Addr) (ks:List Ky):Prop:=as.length=ks.length∧∀(j:Nat) (k:Ky),ks[j]?=some k→∃a,as[j]?=some a∧H a=some (kyT k)
theorem KsL.tk {H H':Hp} {as:List Addr} {ks:List Ky} (h:KsL H as ks) (s:TK H H'):KsL H' as ks:=⟨h.1,λj d e=>by obtain ⟨a,a1,a2⟩:=h.2 j d e;exact ⟨a,a1,s _ _ a2⟩⟩
theorem KsL.app {H:Hp} {as bs:List Addr} {ks js:List Ky} (h:KsL H as ks) (g:KsL H bs js):KsL H (as++bs) (ks++js):=by
 refine ⟨by rw[aa2,aa2,h.1,g.1],λj x hj=>?_⟩;by_cases c:j < ks.length
 ·rw[aaf c] at hj;obtain ⟨a',h1,h2⟩:=h.2 j x hj;exact ⟨a',by rw[aaf (by rw[h.1];exact c)];exact h1,h2⟩
 ·rw[aad (by omega)] at hj;obtain ⟨a',h1,h2⟩:=g.2 _ x hj;exact ⟨a',by rw[aad (by rw[h.1];omega),h.1];exact h1,h2⟩
theorem KsL.one {H:Hp} {a:Addr} {k:Ky} (h:H a=some (kyT k)):KsL H [a] [k]:=⟨rfl,λj x hj=>by
 cases j with
 | zero=>cases hj;exact ⟨a,rfl,h⟩
 | succ j=>simp at hj⟩
theorem KsL.rev {H:Hp} {as:List Addr} {ks:List Ky} (h:KsL H as ks):KsL H as.reverse ks.reverse:=by
 refine ⟨by rw[aaq,aaq,h.1],λj k hj=>?_⟩;have hjl:=(List.getElem?_eq_some_iff.mp hj).1;rw[aaq] at hjl;rw[ac4 hjl] at hj;obtain ⟨a,a1,a2⟩:=h.2 _ k hj;refine ⟨a,?_,a2⟩;rw[ac4 (by rw[h.1];exact hjl),h.1];exact a1
theorem KsL.zip {H:Hp} {as:List Addr} {hs:List Nat} {zs:List Str} (hl:hs.length=zs.length) (ha:as.length=(hs.map plV).length) (h:∀(j:Nat) (x y:V),(hs.map plV)[j]?=some x→(zs.map V.str)[j]?=some y→∃a,as[j]?=some a∧H a=some (.tup [x,y])):KsL H as (hs.zip zs):=by
 refine ⟨by rw[ha,aa0,acf];omega,λj k hj=>?_⟩;obtain ⟨k1,k2⟩:=List.getElem?_zip_eq_some.mp (show (hs.zip zs)[j]?=some (k.1,k.2) from hj);exact h j _ _ (by rw[aac,k1];rfl) (by rw[aac,k2];rfl)
theorem KsL.pop {H:Hp} {as:List Addr} {k:Ky} {st:List Ky} (h:KsL H as (k::st).reverse):∃(bs:List Addr) (a:Addr),as=bs++[a]∧KsL H bs st.reverse∧H a=some (kyT k):=by
 obtain ⟨h1,h2⟩:=h;rw[ach] at h1 h2;rw[aa2,aaa] at h1;have hne:as≠[]:=λe=>by rw[e] at h1;simp at h1
 obtain ⟨a,ha,hk⟩:=h2 st.reverse.length k (by rw[aad (aa3 _),acx];rfl);have el:as.length - 1=st.reverse.length:=by omega
 have ea:as.getLast hne=a:=by
  rw[List.getLast_eq_getElem];have:=(List.getElem?_eq_some_iff.mp ha).2;rw[←this];congr 1
 refine ⟨as.dropLast,a,by rw[←ea,adi],⟨by rw[ad7];omega,λj x hj=>?_⟩,hk⟩;have hjl:=(List.getElem?_eq_some_iff.mp hj).1;obtain ⟨a',h3,h4⟩:=h2 j x (by rw[aaf hjl];exact hj);refine ⟨a',?_,h4⟩;rw[List.getElem?_dropLast,if_pos (by omega)];exact h3
theorem KsAt.l {H:Hp} {l:Addr} {ks:List Ky} (h:KsAt H l ks):∃as:List Addr,H l=some (.lst (as.map V.ref))∧KsL H as ks:=by
 obtain ⟨as,h1,h2,h3⟩:=h;exact ⟨as,h1,h2,h3⟩
theorem Ji {K:PySem.W.Frag} {c:Nat} {a:Addr} {as:List Addr} {fr:L2.St} {tc:TT} {te:TE} {D:Addr} {H1:Hp} {Q:Hp→Prop} (P:Nat→List V→Prop) (hc:c=2) (hS:SqL K H1 a (as.map V.ref)) (hq:∀(i:Nat) (t:Addr),as[i]?=some t→∃x y,H1 t=some (.tup [x,y])) (hn:as.length < sizeLine) (hD:H1 D=none) (h0:P 0 [])
  (step:∀i t x y ys H (G:Hp→Prop) (K':V→Hp→Prop),as[i]?=some t→H1 t=some (.tup [x,y])→P i ys→ak H1 H→(∀H3,ak H H3→P (i+1) ys→G H3)→(∀y H4,ak H H4→P (i+1) (ys++[y])→K' y H4)→tc ([some x,some y]++fr) H λb H3=>if b=true then te ([some x,some y]++fr) H3 K' else G H3)
  (done:∀ys H,P as.length ys→ak H1 H→H D=some (.lst ys)→Q H):LC 2 fr (zk K c (fm (cu 0) (fm (cu 1) Dq))) tc te (Itl K a) D H1 Q:=by
 refine K5 as.length (λi x y _=>∃t,as[i]?=some t∧H1 t=some (.tup [x,y])) (λi ys _=>P i ys) (λ_ _ _ _ _ h=>h) hc hn hD (λi H hi hs=>?_) (λi H v H' hi hs hy=>?_) (λH hs=>⟨_,hs.seq hS,by rw[aa0];exact aa3 _⟩) h0 (λi x y ys H G K' hi hR hP hl hs hG hK=>?_) λys H hP hl hs hd=>done ys H hP hs hd
 ·exact ⟨_,.ref as[i],hs.seq hS,by rw[aac,aa1 hi];rfl⟩
 ·obtain ⟨rfl,hy⟩:=hy;have ht:as[i]?=some as[i]:=aa1 hi;obtain ⟨x,y,hx⟩:=hq i _ ht;have hv:v=.ref as[i]:=aa4 ((hy _ (hs.seq hS)).symm.trans (by rw[aac,ht];rfl));exact ⟨ak.refl _,as[i],x,y,hv,SqT.of (hs _ _ hx),as[i],ht,hx⟩
 ·obtain ⟨t,h1,h2⟩:=hR;exact step i t x y ys H G K' h1 h2 hP hs hG hK
theorem Jp {K:PySem.W.Frag} {i:Nat} {σ:L2.St} {H:Hp} {Q Q':Bool→Hp→Prop} (h:∀b H1,Q b H1→Q' b H1) (c:tBD (tOp (qz K true) (ky i) (tLst Dg)) σ H Q):tBD (tOp (qz K true) (ky i) (tLst Dg)) σ H Q':=by
 simp only[jl,tB,tOp,gz,tLst,Dg,qz] at c ⊢;obtain ⟨v,hv,hz,c⟩:=c;refine ⟨v,hv,hz,λp hp=>?_⟩;obtain ⟨a,b,xs,e1,e2,h1,h2,cc,e,hq⟩:=c p hp;exact ⟨a,b,xs,e1,e2,h1,h2,cc,e,h _ _ hq⟩
theorem Ac {H H':Hp} {d b:Addr} {ns:List Int} {n:Nat} (D:dq H d b ns n) (s:ao d H H'):TK H H':=λ_ _ h=>bx D s h
def ke (κ:Cl):Sp:=λvs H Q E=>∃(b wt:Addr) (kinds:List Str) (rs:List Rl) (ws:List V) (p:Nat) (nm kd:Str),vs=[.ref b,.str nm,.ref wt,.int (p:Int),.str kd]∧bh H b kinds rs∧H wt=some (.tup ws)∧Bk kinds rs∧Tw ws∧p < ws.length∧cx nm∧cx kd∧(∀d,bw kinds rs ws nm kd p=some d→∀(t:Addr) (H':Hp),ak H H'→jz H' t d.1 d.2→Q (.ref t) H')∧(bw kinds rs ws nm kd p=none→∀H',ak H H'→E (.ref κ.badCover) none H')
theorem Bq {κ:Cl} {b wt:Addr} {kinds:List Str} {rs:List Rl} {ws:List V} {p:Nat} {nm kd:Str} {H:Hp} {Q:VK} {E:XK} (p0:bh H b kinds rs) (p1:H wt=some (.tup ws)) (p2:Bk kinds rs) (p3:Tw ws) (p4:p < ws.length) (p5:cx nm) (p6:cx kd) (p7:∀d,bw kinds rs ws nm kd p=some d→∀(t:Addr) (H':Hp),ak H H'→jz H' t d.1 d.2→Q (.ref t) H') (p8:bw kinds rs ws nm kd p=none→∀H',ak H H'→E (.ref κ.badCover) none H'):ke κ [.ref b,.str nm,.ref wt,.int (p:Int),.str kd] H Q E:=⟨b,wt,kinds,rs,ws,p,nm,kd,rfl,p0,p1,p2,p3,p4,p5,p6,p7,p8⟩
def qj (κ:Cl):Sp:=λvs H Q E=>∃(b wt ct:Addr) (kinds:List Str) (rs:List Rl) (ws:List V) (p:Nat) (kd:Str) (ns:List Str),vs=[.ref b,.ref wt,.int (p:Int),.str kd,.ref ct]∧bh H b kinds rs∧H wt=some (.tup ws)∧H ct=some (.tup (ns.map V.str))∧Bk kinds rs∧Tw ws∧p < ws.length∧cx kd∧(∀z∈kinds,cx z)∧(∀z∈ns,cx z)∧ns.length≤100000∧(∀ds,bp kinds rs ws ns [(p,kd)]=some ds→∀(l:Addr) (as:List Addr) (H':Hp),ak H H'→H' l=some (.lst (as.map V.ref))→gk H' as ds→Q (.ref l) H')∧(bp kinds rs ws ns [(p,kd)]=none→∀H',ak H H'→E (.ref κ.badCover) none H')
theorem L1 {κ:Cl} {b wt ct:Addr} {kinds:List Str} {rs:List Rl} {ws:List V} {p:Nat} {kd:Str} {ns:List Str} {H:Hp} {Q:VK} {E:XK} (p0:bh H b kinds rs) (p1:H wt=some (.tup ws)) (p2:H ct=some (.tup (ns.map V.str))) (p3:Bk kinds rs) (p4:Tw ws) (p5:p < ws.length) (p6:cx kd) (p7:∀z∈kinds,cx z) (p8:∀z∈ns,cx z) (p9:ns.length≤100000) (pa:∀ds,bp kinds rs ws ns [(p,kd)]=some ds→∀(l:Addr) (as:List Addr) (H':Hp),ak H H'→H' l=some (.lst (as.map V.ref))→gk H' as ds→Q (.ref l) H') (pb:bp kinds rs ws ns [(p,kd)]=none→∀H',ak H H'→E (.ref κ.badCover) none H'):qj κ [.ref b,.ref wt,.int (p:Int),.str kd,.ref ct] H Q E:=⟨b,wt,ct,kinds,rs,ws,p,kd,ns,rfl,p0,p1,p2,p3,p4,p5,p6,p7,p8,p9,pa,pb⟩
def oq (κ:Cl):Sp:=λvs H Q E=>∃(b wt ct:Addr) (kinds:List Str) (rs:List Rl) (ws:List V) (p:Nat) (kd:Str) (ns:List Str),vs=[.ref b,.ref wt,.int (p:Int),.str kd,.ref ct]∧bh H b kinds rs∧H wt=some (.tup ws)∧H ct=some (.tup (ns.map V.str))∧Bk kinds rs∧Tw ws∧p < ws.length∧cx kd∧(∀z∈kinds,cx z)∧(∀z∈ns,cx z)∧ns.length≤100000∧(∀ds,bp kinds rs ws ns [(p,kd)]=some ds→∀(H':Hp),ak H H'→Q (.int (cpr ds)) H')∧(bp kinds rs ws ns [(p,kd)]=none→∀H',ak H H'→E (.ref κ.badCover) none H')
theorem M6 {κ:Cl} {b wt ct:Addr} {kinds:List Str} {rs:List Rl} {ws:List V} {p:Nat} {kd:Str} {ns:List Str} {H:Hp} {Q:VK} {E:XK} (p0:bh H b kinds rs) (p1:H wt=some (.tup ws)) (p2:H ct=some (.tup (ns.map V.str))) (p3:Bk kinds rs) (p4:Tw ws) (p5:p < ws.length) (p6:cx kd) (p7:∀z∈kinds,cx z) (p8:∀z∈ns,cx z) (p9:ns.length≤100000) (pa:∀ds,bp kinds rs ws ns [(p,kd)]=some ds→∀(H':Hp),ak H H'→Q (.int (cpr ds)) H') (pb:bp kinds rs ws ns [(p,kd)]=none→∀H',ak H H'→E (.ref κ.badCover) none H'):oq κ [.ref b,.ref wt,.int (p:Int),.str kd,.ref ct] H Q E:=⟨b,wt,ct,kinds,rs,ws,p,kd,ns,rfl,p0,p1,p2,p3,p4,p5,p6,p7,p8,p9,pa,pb⟩
noncomputable def Gb (o:Option (List (Rl×Und))):Int:=match o with
 | some ds=>cpr ds
 | none=>0
noncomputable def cg (ws:List V) (p:Nat):Nat:=(eat 1 ((ws.drop p).map arV)).getD 0
noncomputable def Ek (kinds:List Str) (sh:List V):Nat:=(sh.filter λv=>decide (br kinds v≠lH)).length
theorem ye (kinds:List Str) (v:V) (r:List V):Ek kinds (v::r)=(if br kinds v=lH then 0 else 1)+Ek kinds r:=by
 unfold Ek;rw[aar];by_cases c:br kinds v=lH
 ·rw[if_neg (by simpa using c),if_pos c,acm]
 ·rw[if_pos (by simpa using c),if_neg c,aai,adt]
theorem B4 {r:List Nat} {n:Nat} (h:eat 1 r=some n):1≤n:=by
 cases r with
 | nil=>cases h
 | cons a r=>
  obtain ⟨k,_,e⟩:=Option.map_eq_some_iff.mp (show (eat (0+a) r).map (·+1)=some n from h);have e:k+1=n:=e;omega
theorem Eu {kinds:List Str} {ws r:List V} {v x:V} {q d m:Nat} (hk:Kinds kinds) (hv:isW v) (hx:ws[q]?=some x) (hxw:isW x) (hp:pend (d+1) (arV v::r.map arV)=some 0) (he:eat (d+1) ((ws.drop q).map arV)=some m)
  (hl:lies (br kinds v) v x=true):∃d' m',pend d' (r.map arV)=some 0∧eat d' ((ws.drop (if br kinds v=lH then endAt ws q else q+1)).map arV)=some m'∧m=m'+(if br kinds v=lH then cg ws q else 1):=by
 have hq:q < ws.length:=(List.getElem?_eq_some_iff.mp hx).1;have ed:ws.drop q=x::ws.drop (q+1):=by
  rw[aat hq];congr 1
  rw[aa1 hq] at hx;exact aa4 hx
 obtain ⟨e1,e2,e3,e4,e5,e6⟩:=lets;have hp:pend (d+arV v) (r.map arV)=some 0:=hp;have one:arV v=arV x→br kinds v≠lH→∃d' m',pend d' (r.map arV)=some 0∧eat d' ((ws.drop (if br kinds v=lH then endAt ws q else q+1)).map arV)=some m'∧m=m'+(if br kinds v=lH then cg ws q else 1):=λh n=>by
  rw[if_neg n,if_neg n];rw[ed,aaw,dz] at he;obtain ⟨k,hk',e⟩:=Option.map_eq_some_iff.mp he;exact ⟨d+arV v,k,hp,by rw[h];exact hk',e.symm⟩
 unfold lies at hl;rcases dw (kinds:=kinds) hv with ⟨rfl,h⟩ | ⟨rfl,h⟩ | ⟨⟨z,hz,rfl⟩,h⟩ | ⟨h,_⟩
 ·refine one ?_ (by rw[h];exact e1);rw[h,if_neg e1,if_pos rfl] at hl;rw[rq];obtain ⟨k,rfl⟩:=hxw;cases k with
  | inl i=>rfl
  | inr y=>cases hl
 ·refine one ?_ (by rw[h];exact e2);rw[h,if_neg e2,if_neg e4,if_pos rfl,ac8] at hl;rw[rg];exact (of_decide_eq_true hl.2).symm
 ·rw[if_pos h,if_pos h];have a0:arV (.str z)=0:=(hk z hz).1;rw[a0] at hp;rw[show d+1=1+d by omega,uf] at he;cases h1:eat 1 ((ws.drop q).map arV) with
  | none=>rw[h1] at he;cases he
  | some n=>
   rw[h1] at he;obtain ⟨k,hk',e⟩:=Option.map_eq_some_iff.mp (show (eat d (((ws.drop q).map arV).drop n)).map (n+·)=some m from he);refine ⟨d,k,hp,?_,?_⟩
   ·unfold endAt;rw[h1,show (some n).getD 0=n from rfl,←adg];rw[←ac5] at hk';exact hk'
   ·unfold cg;rw[h1];have e:n+k=m:=e;show m=k+n
    omega
 ·refine one ?_ (by rw[h];exact e3);rw[h,if_neg e3,if_neg e5,if_neg e6] at hl;rw[of_decide_eq_true hl]
noncomputable def szs (ws:List V) (hs:List Nat):Nat:=(hs.map (cg ws)).sum
theorem Pt (ws:List V) (a b:List Nat):szs ws (a++b)=szs ws a+szs ws b:=by
 unfold szs;rw[aa8,ae1]
theorem yo {kinds:List Str} {ws:List V} (hk:Kinds kinds) (hw:∀v∈ws,isW v):∀(sh:List V) (p:Nat) (u u':Und) (d m:Nat),(∀v∈sh,isW v)→pend d (sh.map arV)=some 0→eat d ((ws.drop p).map arV)=some m→bu kinds ws sh p u=some u'→szs ws u'.hs+Ek kinds sh=szs ws u.hs+m
 | [],p,u,u',d,m,_,hp,he,h=>by
  have h:some u=some u':=h;cases h
  have hp:some d=some 0:=hp;cases hp
  have he:some 0=some m:=by rw[←he];cases (ws.drop p).map arV <;> rfl
  cases he
  rfl
 | v::r,p,u,u',0,m,_,hp,_,_=>nomatch hp
 | v::r,p,u,u',d+1,m,hs,hp,he,h=>by
  have hpl:p < ws.length:=by
   rcases aeh p ws.length with g | g
   ·exact g
   ·rw[abz g] at he;cases he
  have hx:ws[p]?=some ws[p]:=aa1 hpl;rw[gb] at h;have eg:ws.getD p .non=ws[p]:=by rw[aae,hx];rfl
  rw[eg] at h;by_cases c:lies (br kinds v) v ws[p]=true
  ·rw[if_pos c] at h;obtain ⟨d',m',h1,h2,h3⟩:=Eu hk (hs v aa7) hx (hw _ (ab5 hpl)) hp he c;have ih:=yo hk hw r _ _ u' d' m' (λx hx=>hs x (aab _ hx)) h1 h2 h;rw[ye];by_cases cH:br kinds v=lH
   ·rw[if_pos cH] at h3 ⊢;have e:(u.put (br kinds v) p ws[p]).hs=u.hs++[p]:=by unfold Und.put;rw[if_pos cH]
    rw[e,Pt] at ih;have e2:szs ws [p]=cg ws p:=by unfold szs;simp
    omega
   ·rw[if_neg cH] at h3 ⊢;have e:(u.put (br kinds v) p ws[p]).hs=u.hs:=by
     unfold Und.put;rw[if_neg cH];split
     ·rfl
     ·split <;> rfl
    rw[e] at ih;omega
  ·rw[if_neg c] at h;cases h
noncomputable def yz (kinds:List Str) (g:Ky→Option Int) (p:Nat) (v:Int):Nat:=(kinds.filter λk=>match g (p,k) with | some x=>decide (x < v) | none=>false).length
theorem Oe (kinds:List Str) (g:Ky→Option Int) (p:Nat) (v:Int):yz kinds g p v≤kinds.length:=ab8 _ _
theorem filter_lt {α:Type} {P R:α→Bool}:∀{l:List α} {x:α},(∀y∈l,P y=true→R y=true)→x∈l→P x=false→R x=true→(l.filter P).length < (l.filter R).length
 | [],x,_,h,_,_=>nomatch h
 | y::l,x,hs,h,hp,hr=>by
  have le:(l.filter P).length≤(l.filter R).length:=by
   clear h hp hr;induction l with
   | nil=>exact aa3 _
   | cons z l ih=>
    have ih:=ih λw hw=>hs w (by
     rcases List.mem_cons.mp hw with rfl | hw
     ·exact aa7
     ·exact aab _ (aab _ hw))
    rw[aar,aar];by_cases c:P z=true
    ·rw[if_pos c,if_pos (hs z (aab _ aa7) c),aai,aai];omega
    ·rw[if_neg c];split
     ·rw[aai];omega
     ·exact ih
  rw[aar,aar];rcases List.mem_cons.mp h with rfl | h
  ·rw[if_neg (by rw[hp];decide),if_pos hr,aai];omega
  ·have ih:=filter_lt (λw hw=>hs w (aab _ hw)) h hp hr;by_cases c:P y=true
   ·rw[if_pos c,if_pos (hs y aa7 c),aai,aai];omega
   ·rw[if_neg c];split
    ·rw[aai];omega
    ·exact ih
theorem O1 {kinds:List Str} {g:Ky→Option Int} {p:Nat} {v w:Int} {z:Str} (hz:z∈kinds) (hg:g (p,z)=some w) (h:w < v):yz kinds g p w < yz kinds g p v:=by
 refine filter_lt (x:=z) (λy _ hy=>?_) hz ?_ ?_
 ·cases e:g (p,y) with
  | none=>rw[e] at hy;cases hy
  | some x=>
   rw[e] at hy;have:x < w:=of_decide_eq_true hy;exact decide_eq_true (by omega)
 ·rw[hg];exact decide_eq_false (by omega)
 ·rw[hg];exact decide_eq_true h
noncomputable def phi (kinds:List Str) (ws:List V) (g:Ky→Option Int) (k:Ky):Nat:=(kinds.length+1)*(cg ws k.1 - 1)+1+yz kinds g k.1 ((g k).getD 0)
noncomputable def j9 (kinds:List Str) (ws:List V) (g:Ky→Option Int) (ks:List Ky):Nat:=(ks.map (phi kinds ws g)).sum
theorem je (kinds:List Str) (ws:List V) (g:Ky→Option Int) (k:Ky) (ks:List Ky):j9 kinds ws g (k::ks)=phi kinds ws g k+j9 kinds ws g ks:=by
 unfold j9;rw[aaw,aca]
theorem K3 (kinds:List Str) (ws:List V) (g:Ky→Option Int) (a b:List Ky):j9 kinds ws g (a++b)=j9 kinds ws g a+j9 kinds ws g b:=by
 unfold j9;rw[aa8,ae1]
theorem Ku (kinds:List Str) (ws:List V) (g:Ky→Option Int) (k:Ky) (h:1≤cg ws k.1):phi kinds ws g k≤(kinds.length+1)*cg ws k.1:=by
 unfold phi;have:=Oe kinds g k.1 ((g k).getD 0);obtain ⟨n,hn⟩:∃n,cg ws k.1=n+1:=⟨cg ws k.1 - 1,by omega⟩;rw[hn,acw,Nat.mul_add,Nat.mul_one];omega
theorem Df (kinds:List Str) (ws:List V) (g:Ky→Option Int):∀ks:List Ky,ks.length≤j9 kinds ws g ks
 | []=>aa6 _
 | k::ks=>by
  have:=Df kinds ws g ks;rw[je,aai];have:1≤phi kinds ws g k:=by unfold phi;omega
  omega
theorem Cf (kinds:List Str) (ws:List V) (g:Ky→Option Int):∀(hs:List Nat) (zs:List Str),(∀h∈hs,1≤cg ws h)→j9 kinds ws g (hs.zip zs)≤(kinds.length+1)*szs ws hs
 | [],zs,_=>by show (0:Nat)≤_;omega
 | h::hs,[],_=>by show (0:Nat)≤_;omega
 | h::hs,z::zs,hp=>by
  have ih:=Cf kinds ws g hs zs λx hx=>hp x (aab _ hx);have h1:=Ku kinds ws g (h,z) (hp h aa7);have e:szs ws (h::hs)=cg ws h+szs ws hs:=by unfold szs;rw[aaw,aca]
  rw[adl,je,e,Nat.mul_add];have h1:phi kinds ws g (h,z)≤(kinds.length+1)*cg ws h:=h1;omega
theorem size_pos {ws:List V} (tw:Tw ws) {p:Nat} (h:p < ws.length):1≤cg ws p:=by
 obtain ⟨n,hn⟩:=tw.eat h;unfold cg;rw[hn];exact B4 hn
theorem Lx {kinds:List Str} {rs:List Rl} {ws:List V} {g:Ky→Option Int} (bk:Bk kinds rs) (tw:Tw ws) (T:Tbl (fb kinds rs ws) g) {k:Ky} {v:Int} (h:g k=some v):j9 kinds ws g (zq kinds rs ws (pick kinds rs ws g k) k.1)+1≤phi kinds ws g k:=by
 obtain ⟨i,r,u,h1,h2,h3,h4,h5,h6,h7,h8⟩:=t7 bk T h;rw[h5];obtain ⟨w1,w2,w3⟩:=bk.sh r (aah h1);obtain ⟨n,hn⟩:=tw.eat h8;have hww:∀v∈ws,isW v:=λv hv=>(tw.w v hv).1;have hs:=yo bk.kd hww _ _ _ _ 1 n w1 w2 hn h4;have hin:=qf bk.kd hww _ _ _ _ 1 n w1 w2 hn (λ_ z=>(aa9 z).elim) h4;have hsz:cg ws k.1=n:=by unfold cg;rw[hn];rfl
 have hs:szs ws u.hs+Ek kinds r.shape=n:=by
  have:szs ws ([]:List Nat)=0:=rfl;have hs:szs ws u.hs+Ek kinds r.shape=szs ws []+n:=hs;omega
 have zp:=Cf kinds ws g u.hs (aq kinds r.shape) λx hx=>size_pos tw (hin x hx);cases e:r.shape with
 | nil=>rw[e] at w2;exact absurd rfl w2.ne
 | cons v0 sh=>
  by_cases c:br kinds v0=lH
  ·-- a bare hole
   have wv:isW v0:=w1 v0 (by rw[e];exact aa7);rcases dw (kinds:=kinds) wv with ⟨_,hh⟩ | ⟨_,hh⟩ | ⟨⟨z,hz,rfl⟩,_⟩ | ⟨hh,_⟩
   ·rw[hh] at c;exact absurd c lets.1
   ·rw[hh] at c;exact absurd c lets.2.1
   ·have a0:arV (.str z)=0:=(bk.kd z hz).1;have w2':pend 1 (arV (V.str z)::sh.map arV)=some 0:=by rw[e] at w2;exact w2
    rw[a0] at w2';have w2':pend 0 (sh.map arV)=some 0:=w2';have hsh:sh=[]:=by
     cases sh with
     | nil=>rfl
     | cons=>cases w2'
    subst hsh;have ho:aq kinds [V.str z]=[z]:=by
     unfold aq;rw[abw];simp[hz]
    have hu:u.hs=[k.1]:=by
     rw[e,gb,if_pos (by unfold lies;rw[if_pos c])] at h4;have h4:some _=some u:=h4;cases h4
     unfold Und.put;rw[if_pos c];rfl
    rw[e,ho,hu] at h6 h7;rw[ho,hu];have h6:=h6 (k.1,z) aa7;obtain ⟨x,hx,_⟩:=h6;have h7:prs g [(k.1,z)]+1≤prc g k:=h7;rw[gh] at h7;have p0:prs g []=0:=rfl;have lt:x < v:=by
     unfold prc at h7;rw[h,hx] at h7;have h7:x.toNat+prs g []+1≤v.toNat:=h7;omega
    have rk:=O1 hz hx lt;show j9 kinds ws g [(k.1,z)]+1≤_
    rw[je];have q0:j9 kinds ws g []=0:=rfl;unfold phi;rw[hx,h];show _*(cg ws k.1 - 1)+1+yz kinds g k.1 x+_+1≤_*(cg ws k.1 - 1)+1+yz kinds g k.1 v
    omega
   ·rw[hh] at c;exact absurd c lets.2.2.1
  ·have nh:1≤Ek kinds r.shape:=by
    rw[e,ye,if_neg c];omega
   rw[←e];unfold phi;rw[hsz];have:(kinds.length+1)*szs ws u.hs≤(kinds.length+1)*(n - 1):=Nat.mul_le_mul_left _ (by omega);omega
theorem yi {kinds:List Str} {rs:List Rl} {ws:List V} {g:Ky→Option Int} (bk:Bk kinds rs) (tw:Tw ws) (T:Tbl (fb kinds rs ws) g) {k:Ky} {w:List Ky} (h:Prd g (k::w)):j9 kinds ws g (zq kinds rs ws (pick kinds rs ws g k) k.1++w)+1≤j9 kinds ws g (k::w):=by
 obtain ⟨v,hv,_⟩:=h k aa7;have:=Lx bk tw T hv;rw[K3,je];omega
theorem Ct {kinds:List Str} {rs:List Rl} {ws:List V} (bk:Bk kinds rs) (tw:Tw ws) (g:Ky→Option Int) (kd:Str) (h0:0 < ws.length):j9 kinds ws g [(0,kd)]≤61000:=by
 have h1:=Ku kinds ws g (0,kd) (size_pos tw h0);have h2:cg ws 0≤1000:=by
  obtain ⟨n,hn⟩:=tw.eat h0;have:=qo _ _ _ hn;unfold cg;rw[hn];rw[aa0,aap] at this;have:=tw.len;show n≤1000
  omega
 have h3:=bk.kl;rw[je];have q0:j9 kinds ws g []=0:=rfl;have:(kinds.length+1)*cg ws 0≤61*1000:=Nat.mul_le_mul (by omega) h2;have h1:phi kinds ws g (0,kd)≤(kinds.length+1)*cg ws 0:=h1;omega
theorem mr.at {H H':Hp} {d:Addr} {kinds:List Str} {rs:List Rl} {ws:List V} {g:Ky→Option Int} (h:mr H d kinds rs ws g) (s:∀o,H d=some o→H' d=some o):mr H' d kinds rs ws g:=by
 obtain ⟨kvs,h1,h2⟩:=h;exact ⟨kvs,s _ h1,h2⟩
theorem mr.ne {H:Hp} {d a:Addr} {kinds:List Str} {rs:List Rl} {ws:List V} {g:Ky→Option Int} (h:mr H d kinds rs ws g) {xs:List V} (e:H a=some (.lst xs)):d≠a:=by
 obtain ⟨kvs,h1,h2⟩:=h;exact gq h1 e (by intro z;cases z)
theorem M7 {K:PySem.W.Frag} {i:Nat} {σ:L2.St} {H:Hp} {Q Q':Bool→Hp→Prop} (h:∀b H1,Q b H1→Q' b H1) (c:tBD (tOp (zr λi j=>V.bl (decide (j < i))) (tCB (yk K) (Bm (ky i) Dg)) (tC (V.int 0))) σ H Q):tBD (tOp (zr λi j=>V.bl (decide (j < i))) (tCB (yk K) (Bm (ky i) Dg)) (tC (V.int 0))) σ H Q':=by
 simp only[jl,tB,tOp,iu,rI0,yk,tCB,Bm,Dg,gz,tC] at c ⊢;obtain ⟨v,hv,c⟩:=c;refine ⟨v,hv,?_⟩;cases v with
 | ref p=>
  obtain ⟨ys,h1,i,j,e2,e3,cc,e4,hq⟩:=c;exact ⟨ys,h1,i,j,e2,e3,cc,e4,h _ _ hq⟩
 | _=>exact c.elim
def pe (κ:Cl):Sp:=λvs H Q E=>∃(b wt:Addr) (kd:Str) (kinds:List Str) (rs:List Rl) (ws:List V),vs=[.ref b,.ref wt,.str kd]∧bh H b kinds rs∧H wt=some (.tup ws)∧Bk kinds rs∧Tw ws∧cx kd∧(∀z∈kinds,cx z)∧(∀r∈rs,cx r.name)∧(∀(t:Addr) (H':Hp) (g:Ky→Option Int) (v:Int),ak H H'→H t=none→Tbl (fb kinds rs ws) g→g (0,kd)=some v→H' t=some (.tup ((cov kinds rs ws g [(0,kd)]).map V.str))→Q (.ref t) H')∧∀(H':Hp) (g:Ky→Option Int),ak H H'→Tbl (fb kinds rs ws) g→g (0,kd)=none→E (.ref κ.noCover) none H'
theorem J1 {κ:Cl} {b wt:Addr} {kd:Str} {kinds:List Str} {rs:List Rl} {ws:List V} {H:Hp} {Q:VK} {E:XK} (p0:bh H b kinds rs) (p1:H wt=some (.tup ws)) (p2:Bk kinds rs) (p3:Tw ws) (p4:cx kd) (p5:∀z∈kinds,cx z) (p6:∀r∈rs,cx r.name) (p7:∀(t:Addr) (H':Hp) (g:Ky→Option Int) (v:Int),ak H H'→H t=none→Tbl (fb kinds rs ws) g→g (0,kd)=some v→H' t=some (.tup ((cov kinds rs ws g [(0,kd)]).map V.str))→Q (.ref t) H') (p8:∀(H':Hp) (g:Ky→Option Int),ak H H'→Tbl (fb kinds rs ws) g→g (0,kd)=none→E (.ref κ.noCover) none H'):pe κ [.ref b,.ref wt,.str kd] H Q E:=⟨b,wt,kd,kinds,rs,ws,rfl,p0,p1,p2,p3,p4,p5,p6,p7,p8⟩
theorem Fx {kinds:List Str} {rs:List Rl} {ws:List V} {g:Ky→Option Int} (bk:Bk kinds rs) (tw:Tw ws) (T:Tbl (fb kinds rs ws) g):∀(n:Nat) (st:List Ky),Prd g st→(lj kinds rs ws g n st).length≤j9 kinds ws g st
 | 0,_,_=>aa6 _
 | _+1,[],_=>aa6 _
 | n+1,k::w,h=>by
  have ih:=Fx bk tw T n _ (h.step bk T).1;have:=yi bk tw T h;show (lj kinds rs ws g n _).length+1≤_
  omega
end Pc
namespace L2
open PySem PySem.Spec PyProof.Rows
def Jd (K:PySem.W.Frag) (D:Addr) (tb:TX) (ts:TS):TS:=λDn σ H=>tb Dn (λcls dx H2=>∃C bm,cls=.ref C∧Xc K C bm∧(Value.ref C::bm).contains (.ref D)=true∧ts Dn σ H2) σ H
section
variable {X:Cx} {D:Addr} {bD:List Value} {y:Str} {cp hpos tpos:Pos} {body suite:List Stmt} {b₀:Stmt} {tb:TX} {ts:TS}
theorem Gp (S:Br X) (cD:Xc X.K D bD) (hm:X.mg y=some (.ref D)) (hb:PXS X body tb) (hs:∀a,PSs (X.inX a).nox (b₀::suite) ts)
  (hg:Gl X y:=by rfl) (hdb:(y==("__debug__":Str))=false:=by decide+kernel):PS X (.Try body [.ExceptHandler (some (.Name y cp)) none (b₀::suite) hpos] [] [] tpos) (Jd X.K D tb ts):=by
 intro pins s σ H Dn I h;refine wpAny_Try_except (wpAny_mono (hb pins s σ H _ _ I h) (λf s1 q=>?_) λe s1 z=>?_)
 ·cases f with
  | next=>exact wpAny_execs_nil q
  | ret v=>exact q
  | brk=>exact q
  | cont=>exact q
 ·obtain ⟨H1,nn,a,cls,dx,rfl,I1,B,F,C,bm,rfl,c,hc,q⟩:=z;refine Dz I1 B F S rfl rfl λh2 I2 F2=>?_;refine iq I2 B F2 λh3 I3 F3=>?_;have I3':Inv (X.inX a) pins σ H1 { s1 with heap:=h3 }:=I3.inX;refine wpAny_handleBy_cons (codeAny_handlers_test (pw I3' hg hm ?_ hdb)) (by intro q;cases q);obtain ⟨oe,vs,f1,f2,f3,f4,f5,T,oT,ts',k1,k2,k3,k4,k5,k6,k7⟩:=F3.ob;refine xmatch (K:=X.K) I3.kIn c cD f1 f2 ?_;rw[hc];refine codeAny_handlers_suite (iq I3 B F3 λh4 I4 F4=>?_);refine wpAny_mono (hs a pins _ _ _ _ (I4.inX.pj _) q) (λf s7 w=>?_) λ_ _ z=>False.elim z;cases f with
  | next=>
   obtain ⟨σ7,H7,J,w⟩:=w;exact ⟨_,H7,J.dy.outX I4.ok,w⟩
  | brk=>
   obtain ⟨σ7,H7,J,w⟩:=w;exact ⟨_,H7,J.dy.outX I4.ok,w⟩
  | cont=>
   obtain ⟨σ7,H7,J,w⟩:=w;exact ⟨_,H7,J.dy.outX I4.ok,w⟩
  | ret u=>
   obtain ⟨v,σ7,H7,J,r,w⟩:=w;exact ⟨v,_,H7,J.dy.outX I4.ok,r,w⟩
end
theorem Ou {lo:Int} {n:Nat} {fr:St} {tc:TT} {te:TE} {D:Addr} {H1:Hp} {Q:Hp→Prop} (P:Nat→List V→Hp→Prop) (hn:n < sizeLine) (h0:P 0 [] (upd H1 D (.lst [])))
  (step:∀(i:Nat) ys H (G:Hp→Prop) (K':V→Hp→Prop),i < n→P i ys H→ys.length≤i→H D=some (.lst ys)→(∀H3,H3 D=some (.lst ys)→P (i+1) ys H3→G H3)→(∀y H4,H4 D=some (.lst ys)→P (i+1) (ys++[y]) (upd H4 D (.lst (ys++[y])))→K' y H4)→tc ([some (.int (lo+i))]++fr) H λb H3=>if b=true then te ([some (.int (lo+i))]++fr) H3 K' else G H3)
  (done:∀ys H,P n ys H→ys.length≤n→H D=some (.lst ys)→Q H):LC 1 fr (cu 0) tc te (Itr lo n) D H1 Q:=by
 refine ⟨λi m H=>m=n - i∧i≤n∧∃ys,H D=some (.lst ys)∧P i ys H∧ys.length≤i,⟨n,by simp,aa6 _,[],ae,h0,aa3 _⟩,?_⟩;rintro i m H ⟨rfl,hi,ys,hys,hP,hl⟩;by_cases hlt:i < n
 ·refine .inr ⟨hlt,λτ x H' hτ hy=>?_⟩;obtain ⟨e1,e2⟩:=hy;subst e1 e2;obtain ⟨c,rfl⟩:∃c,τ=[c]:=List.length_eq_one_iff.mp hτ;refine ⟨⟨[some (.int (lo+i))],rfl,rfl⟩,step i ys H' _ _ hlt hP hl hys (λH3 q1 q2=>⟨n - (i+1),by omega,rfl,hlt,ys,q1,q2,acj hl⟩) λy H4 q1 q2=>⟨ys,q1,by omega,n - (i+1),by omega,rfl,hlt,ys++[y],ae,q2,?_⟩⟩;rw[aa2,aaa];omega
 ·obtain rfl:i=n:=by omega
  exact .inl ⟨aa3 _,done ys H hP hl hys⟩
end L2
namespace Pc
open PySem PySem.Spec L2 PyProof.Rows Fm
noncomputable def gj (kinds:List Str) (rs:List Rl) (ws:List V):List Str→List Ky→Option (List Ky)
 | [],st=>some st
 | _::_,[]=>none
 | nm::r,k::st=>match bw kinds rs ws nm k.2 k.1 with
  | some d=>gj kinds rs ws r (gn kinds d++st)
  | none=>none
section
variable {kinds:List Str} {rs:List Rl} {ws:List V}
theorem oj {nm:Str} {r:List Str} {k:Ky} {st:List Ky} {d:Rl×Und} (h:bw kinds rs ws nm k.2 k.1=some d):gj kinds rs ws (nm::r) (k::st)=gj kinds rs ws r (gn kinds d++st):=by
 simp only[gj,h]
theorem sx {nm:Str} {r:List Str} {k:Ky} {st:List Ky} (h:bw kinds rs ws nm k.2 k.1=none):gj kinds rs ws (nm::r) (k::st)=none:=by
 simp only[gj,h]
theorem sv:∀{ns:List Str} {st st':List Ky} {nm:Str} {k:Ky} {d:Rl×Und},gj kinds rs ws ns st=some (k::st')→bw kinds rs ws nm k.2 k.1=some d→gj kinds rs ws (ns++[nm]) st=some (gn kinds d++st')
 | [],st,st',nm,k,d,h,hr=>by
  have h:some st=some (k::st'):=h;cases h
  show gj kinds rs ws [nm] (k::st')=_
  rw[oj hr];rfl
 | _::_,[],st',nm,k,d,h,hr=>nomatch h
 | n::r,k0::st,st',nm,k,d,h,hr=>by
  show gj kinds rs ws (n::(r++[nm])) (k0::st)=_
  cases e:bw kinds rs ws n k0.2 k0.1 with
  | none=>rw[sx e] at h;cases h
  | some d0=>
   rw[oj e] at h ⊢;exact sv h hr
theorem pz:∀{ns:List Str} {st:List Ky},gj kinds rs ws ns st=some []→∃ds,bp kinds rs ws ns st=some ds
 | [],st,h=>by
  have h:some st=some []:=h;cases h
  exact ⟨[],rfl⟩
 | _::_,[],h=>nomatch h
 | n::r,k::st,h=>by
  cases e:bw kinds rs ws n k.2 k.1 with
  | none=>rw[sx e] at h;cases h
  | some d=>
   rw[oj e] at h;obtain ⟨ds,hd⟩:=pz h;exact ⟨d::ds,by rw[fw e,hd];rfl⟩
variable {g:Ky→Option Int}
theorem vd:∀{hs:List Ky} {c:Int},Prd g hs→cost g c hs=some (c+(prs g hs:Int))
 | [],c,_=>by
  show some c=some (c+((0:Nat):Int))
  congr 1
  omega
 | k::hs,c,h=>by
  obtain ⟨v,hv,h1⟩:=h k aa7;rw[fk hv,vd λx hx=>h x (aab _ hx),gh];have:prc g k=v.toNat:=by unfold prc;rw[hv];rfl
  rw[this];congr 1
  omega
theorem Ko {r:Rl} {u:Und} {p:Nat} (hr:r∈rs) (hp:p < ws.length) (hl:bu kinds ws r.shape p ⟨[],[],[]⟩=some u):(⟨(p,r.kind),r.price,gn kinds (r,u)⟩:Ft Ky)∈fb kinds rs ws:=by
 unfold fb;refine List.mem_flatMap.mpr ⟨p,List.mem_range.mpr hp,List.mem_map.mpr ⟨⟨r.name,r.kind,r.price,gn kinds (r,u)⟩,?_,rfl⟩⟩;unfold bq;refine List.mem_filterMap.mpr ⟨r,hr,?_⟩;unfold mj;rw[hl];rfl
theorem yh (bk:Bk kinds rs) (tw:Tw ws) (T:Tbl (fb kinds rs ws) g):∀{ns:List Str} {st:List Ky} {ds:List (Rl×Und)},(∀k∈st,k.1 < ws.length)→bp kinds rs ws ns st=some ds→Prd g st∧(prs g st:Int)≤cpr ds
 | [],[],ds,_,h=>by
  cases h
  exact ⟨λk hk=>(aa9 hk).elim,abg _⟩
 | [],_::_,ds,_,h=>nomatch h
 | _::_,[],ds,_,h=>nomatch h
 | nm::r,k::st,ds,hp,h=>by
  cases e:bw kinds rs ws nm k.2 k.1 with
  | none=>rw[ir e] at h;cases h
  | some d=>
   rw[fw e] at h;obtain ⟨ds',h1,rfl⟩:=Option.map_eq_some_iff.mp h;obtain ⟨r1,r2,r3,r4⟩:=jj (r:=d.1) (u:=d.2) e;obtain ⟨w1,w2,w3⟩:=bk.sh _ r1;have hk:=hp k aa7;obtain ⟨n,hn⟩:=tw.eat hk;have li:=qf bk.kd (λv hv=>(tw.w v hv).1) _ _ _ _ 1 n w1 w2 hn (λ_ z=>(aa9 z).elim) r4;obtain ⟨i1,i2⟩:=yh bk tw T (st:=gn kinds d++st) (λx hx=>by
    rcases List.mem_append.mp hx with hx | hx
    ·exact li _ (ac2 (show (x.1,x.2)∈_ from hx)).1
    ·exact hp x (aab _ hx)) h1
   have pd:Prd g (gn kinds d):=λx hx=>i1 x (abr _ hx);obtain ⟨v,hv,le⟩:=T.st _ (Ko r1 hk r4) _ (vd pd);have hv:g (k.1,d.1.kind)=some v:=hv;rw[r3] at hv;have hv:g k=some v:=hv;have vp:=T.pos _ _ hv;have le:v≤d.1.price+(prs g (gn kinds d):Int):=le;refine ⟨λx hx=>?_,?_⟩
   ·rcases List.mem_cons.mp hx with rfl | hx
    ·exact ⟨v,hv,vp⟩
    ·exact i1 x (aav _ hx)
   ·have e2:cpr (d::ds')=d.1.price+cpr ds':=by unfold cpr;rw[aaw,aca]
    rw[mw] at i2;rw[gh,e2];have:prc g k=v.toNat:=by unfold prc;rw[hv];rfl
    rw[this];omega
theorem yc (bk:Bk kinds rs) (T:Tbl (fb kinds rs ws) g):∀(n:Nat) (st:List Ky),Prd g st→prs g st≤n→∃ds,bp kinds rs ws (lj kinds rs ws g n st) st=some ds∧cpr ds=(prs g st:Int)
 | 0,[],_,_=>⟨[],rfl,rfl⟩
 | _+1,[],_,_=>⟨[],rfl,rfl⟩
 | 0,k::w,h,hn=>by
  have:=(h.step bk T).2;omega
 | n+1,k::w,h,hn=>by
  obtain ⟨v,hv,_⟩:=h k aa7;obtain ⟨i,r,u,h1,h2,h3,h4,h5,h6,h7,h8⟩:=t7 bk T hv;obtain ⟨s1,s2⟩:=h.step bk T;obtain ⟨ds,d1,d2⟩:=yc bk T n _ s1 (by omega);have hru:bw kinds rs ws (pick kinds rs ws g k) k.2 k.1=some (r,u):=by
   rw[←h2,←h3,qd bk h1,h4];rfl
  refine ⟨(r,u)::ds,?_,?_⟩
  ·show bp kinds rs ws (pick kinds rs ws g k::lj kinds rs ws g n _) (k::w)=_
   rw[h5] at d1;rw[fw hru,h5,show gn kinds (r,u)=u.hs.zip (aq kinds r.shape) from rfl,d1];rfl
  ·have e2:cpr ((r,u)::ds)=r.price+cpr ds:=by unfold cpr;rw[aaw,aca]
   rw[e2,d2,h5,mw,gh];have hc:cost g r.price (u.hs.zip (aq kinds r.shape))=some v:=by
    obtain ⟨ro,hro,a1,a2,a3⟩:=ou bk T hv;obtain ⟨nm,hnm⟩:=m7 T hro;obtain ⟨m1,m2,m3⟩:=i8 hro;have ek:k=(ro.place,ro.kind):=by rw[a1,a2]
    have ep:pick kinds rs ws g k=nm:=by
     unfold pick;rw[acy,ek];dsimp only;rw[m2];show (namesW (bq kinds rs ws ro.place) g ro.kind ro.price).head?.getD ""=nm
     rw[←m3,hnm];rfl
    obtain ⟨i',r',u',b1,b2,b3,b4,b5⟩:=Bh bk hro (aek hnm);obtain rfl:i=i':=bk.name h1 b1 (b2.trans (ep.symm.trans h2.symm));obtain rfl:r=r':=aa4 (h1.symm.trans b1);rw[a1] at b4;obtain rfl:u=u':=aa4 (h4.symm.trans b4);rw[←a3];exact b5
   rw[vd h6] at hc;have hc:=aa4 hc;have vp:=T.pos _ _ hv;have:prc g k=v.toNat:=by unfold prc;rw[hv];rfl
   rw[this];omega
theorem Ic (bk:Bk kinds rs) (T:Tbl (fb kinds rs ws) g) {k:Ky} {v:Int} (h:g k=some v):∃ds,bp kinds rs ws (cov kinds rs ws g [k]) [k]=some ds∧cpr ds=v:=by
 have vp:=T.pos _ _ h;obtain ⟨ds,h1,h2⟩:=yc bk T (prs g [k]) [k] (λx hx=>by rw[List.mem_singleton.mp hx];exact ⟨v,h,vp⟩) (aa3 _);refine ⟨ds,h1,?_⟩;rw[h2,gh];have:prc g k=v.toNat:=by unfold prc;rw[h];rfl
 have p0:prs g []=0:=rfl;rw[this];omega
end
def yg (H:Hp) (kinds:List Str) (rs:List Rl) (ws:List V) (k:Ky) (a:Addr):Prop:=∃(ra ua:Addr) (r:Rl) (u:Und),H a=some (.tup [.ref ra,.ref ua])∧bw kinds rs ws r.name k.2 k.1=some (r,u)∧gm H ra r∧H ua=some (.tup (u.hs.map plV))
theorem yg.tk {H H':Hp} {kinds:List Str} {rs:List Rl} {ws:List V} {k:Ky} {a:Addr} (h:yg H kinds rs ws k a) (s:TK H H'):yg H' kinds rs ws k a:=by
 obtain ⟨ra,ua,r,u,h1,h2,⟨sa,da,ds,g1,g2,g3⟩,h4⟩:=h;exact ⟨ra,ua,r,u,s _ _ h1,h2,⟨sa,da,ds,s _ _ g1,s _ _ g2,s _ _ g3⟩,s _ _ h4⟩
theorem G8 {kinds:List Str} {rs:List Rl} {ws:List V} (bk:Bk kinds rs) (tw:Tw ws) {nm kd:Str} {p:Nat} (hp:p < ws.length) {r:Rl} {u:Und} (h:bw kinds rs ws nm kd p=some (r,u)):r∈rs∧u.hs.length=(aq kinds r.shape).length∧∀x∈u.hs,x < ws.length:=by
 obtain ⟨r1,r2,r3,r4⟩:=jj h;obtain ⟨w1,w2,w3⟩:=bk.sh _ r1;obtain ⟨n,hn⟩:=tw.eat hp;refine ⟨r1,?_,qf bk.kd (λv hv=>(tw.w v hv).1) _ _ _ _ 1 n w1 w2 hn (λ_ z=>(aa9 z).elim) r4⟩;have:=(ju bk.kd _ _ _ _ w1 r4).1;simpa using this
def qg:Sp:=λvs H Q _=>∃(d b wt dk:Addr) (ms:List Int) (kinds:List Str) (rs:List Rl) (ws:List V) (p n:Nat) (kd:Str),vs=[.ref d,.ref b,.ref wt,.int (p:Int),.str kd,.int 30]∧dq H d dk ms n∧n≤90000∧bh H b kinds rs∧H wt=some (.tup ws)∧Bk kinds rs∧Tw ws∧p < ws.length∧(∀(n':Nat) (H':Hp),ao d H H'→H' d=some (.lst [.ref dk,.int (n':Int)])→n'≤n+70→Q .non H')∧∀(n':Nat) (t:Addr) (ns:List Str) (ds:List (Rl×Und)) (H':Hp),ao d H H'→H' d=some (.lst [.ref dk,.int (n':Int)])→n'≤n+70→H' t=some (.tup (ns.map V.str))→ns.length≤70→(∀z∈ns,∃r∈rs,r.name=z)→bp kinds rs ws ns [(p,kd)]=some ds→Q (.ref t) H'
theorem Kk {d b wt dk:Addr} {ms:List Int} {kinds:List Str} {rs:List Rl} {ws:List V} {p n:Nat} {kd:Str} {H:Hp} {Q:VK} {E:XK} (p0:dq H d dk ms n) (p1:n≤90000) (p2:bh H b kinds rs) (p3:H wt=some (.tup ws)) (p4:Bk kinds rs) (p5:Tw ws) (p6:p < ws.length) (p7:∀(n':Nat) (H':Hp),ao d H H'→H' d=some (.lst [.ref dk,.int (n':Int)])→n'≤n+70→Q .non H') (p8:∀(n':Nat) (t:Addr) (ns:List Str) (ds:List (Rl×Und)) (H':Hp),ao d H H'→H' d=some (.lst [.ref dk,.int (n':Int)])→n'≤n+70→H' t=some (.tup (ns.map V.str))→ns.length≤70→(∀z∈ns,∃r∈rs,r.name=z)→bp kinds rs ws ns [(p,kd)]=some ds→Q (.ref t) H'):qg [.ref d,.ref b,.ref wt,.int (p:Int),.str kd,.int 30] H Q E:=⟨d,b,wt,dk,ms,kinds,rs,ws,p,n,kd,rfl,p0,p1,p2,p3,p4,p5,p6,p7,p8⟩
def o9:Sp:=λvs H Q _=>∃(b wt:Addr) (kd:Str) (kinds:List Str) (rs:List Rl) (ws:List V) (g:Ky→Option Int),vs=[.ref b,.ref wt,.str kd]∧bh H b kinds rs∧H wt=some (.tup ws)∧Bk kinds rs∧Tw ws∧cx kd∧(∀z∈kinds,cx z)∧(∀r∈rs,cx r.name)∧Tbl (fb kinds rs ws) g∧(g (0,kd)=none→∀H',ak H H'→Q .non H')∧∀(v:Int) (t:Addr) (H':Hp),g (0,kd)=some v→ak H H'→H' t=some (.tup ((cov kinds rs ws g [(0,kd)]).map V.str))→Q (.ref t) H'
theorem Lq {b wt:Addr} {kd:Str} {kinds:List Str} {rs:List Rl} {ws:List V} {g:Ky→Option Int} {H:Hp} {Q:VK} {E:XK} (p0:bh H b kinds rs) (p1:H wt=some (.tup ws)) (p2:Bk kinds rs) (p3:Tw ws) (p4:cx kd) (p5:∀z∈kinds,cx z) (p6:∀r∈rs,cx r.name) (p7:Tbl (fb kinds rs ws) g) (p8:g (0,kd)=none→∀H',ak H H'→Q .non H') (p9:∀(v:Int) (t:Addr) (H':Hp),g (0,kd)=some v→ak H H'→H' t=some (.tup ((cov kinds rs ws g [(0,kd)]).map V.str))→Q (.ref t) H'):o9 [.ref b,.ref wt,.str kd] H Q E:=⟨b,wt,kd,kinds,rs,ws,g,rfl,p0,p1,p2,p3,p4,p5,p6,p7,p8,p9⟩
def o8:Sp:=λvs H Q _=>∃(b wt ct:Addr) (kd:Str) (kinds:List Str) (rs:List Rl) (ws:List V) (ns:List Str),vs=[.ref b,.ref wt,.str kd,.ref ct]∧bh H b kinds rs∧H wt=some (.tup ws)∧H ct=some (.tup (ns.map V.str))∧Bk kinds rs∧Tw ws∧cx kd∧(∀z∈kinds,cx z)∧(∀z∈ns,cx z)∧ns.length≤100000∧∀H',ak H H'→Q (.int (Gb (bp kinds rs ws ns [(0,kd)]))) H'
theorem Cc {b wt ct:Addr} {kd:Str} {kinds:List Str} {rs:List Rl} {ws:List V} {ns:List Str} {H:Hp} {Q:VK} {E:XK} (p0:bh H b kinds rs) (p1:H wt=some (.tup ws)) (p2:H ct=some (.tup (ns.map V.str))) (p3:Bk kinds rs) (p4:Tw ws) (p5:cx kd) (p6:∀z∈kinds,cx z) (p7:∀z∈ns,cx z) (p8:ns.length≤100000) (p9:∀H',ak H H'→Q (.int (Gb (bp kinds rs ws ns [(0,kd)]))) H'):o8 [.ref b,.ref wt,.str kd,.ref ct] H Q E:=⟨b,wt,ct,kd,kinds,rs,ws,ns,rfl,p0,p1,p2,p3,p4,p5,p6,p7,p8,p9⟩
noncomputable def kg (kinds:List Str) (ws:List V) (g:Ky→Option Int) (kd:Str) (r:Rl):Int:=if r.kind=kd then match bu kinds ws r.shape 0 ⟨[],[],[]⟩ with
 | some u=>(cost g r.price (gn kinds (r,u))).getD 0
 | none=>0
 else 0
def uk:Sp:=λvs H Q _=>∃(b wt ra ld:Addr) (kd:Str) (kinds:List Str) (rs:List Rl) (ws:List V) (r:Rl) (g:Ky→Option Int) (n:Nat),vs=[.ref b,.ref wt,.str kd,.ref ra,.ref ld]∧bh H b kinds rs∧H wt=some (.tup ws)∧gm H ra r∧r∈rs∧Bk kinds rs∧Tw ws∧cz H ld g n∧∀H',ak H H'→Q (.int (kg kinds ws g kd r)) H'
theorem Od {b wt ra ld:Addr} {kd:Str} {kinds:List Str} {rs:List Rl} {ws:List V} {r:Rl} {g:Ky→Option Int} {n:Nat} {H:Hp} {Q:VK} {E:XK} (p0:bh H b kinds rs) (p1:H wt=some (.tup ws)) (p2:gm H ra r) (p3:r∈rs) (p4:Bk kinds rs) (p5:Tw ws) (p6:cz H ld g n) (p7:∀H',ak H H'→Q (.int (kg kinds ws g kd r)) H'):uk [.ref b,.ref wt,.str kd,.ref ra,.ref ld] H Q E:=⟨b,wt,ra,ld,kd,kinds,rs,ws,r,g,n,rfl,p0,p1,p2,p3,p4,p5,p6,p7⟩
theorem P8 {kinds:List Str} {rs:List Rl} {ws:List V} {g:Ky→Option Int} (T:Tbl (fb kinds rs ws) g) (h0:0 < ws.length) {kd:Str} {r:Rl} {v:Int} (hr:r∈rs) (hv:g (0,kd)=some v):kg kinds ws g kd r≤0∨v≤kg kinds ws g kd r:=by
 unfold kg;by_cases c:r.kind=kd
 ·rw[if_pos c];cases hu:bu kinds ws r.shape 0 ⟨[],[],[]⟩ with
  | none=>exact .inl (abg _)
  | some u=>
   cases hc:cost g r.price (gn kinds (r,u)) with
   | none=>exact .inl (by show Option.getD _ 0≤0;rw[hc];exact abg _)
   | some x=>
    refine .inr ?_;obtain ⟨v',hv',le⟩:=T.st _ (Ko hr h0 hu) x hc;have hv':g (0,r.kind)=some v':=hv';rw[c] at hv';obtain rfl:v=v':=aa4 (hv.symm.trans hv');show v≤Option.getD _ 0
    rw[hc];exact le
 ·rw[if_neg c];exact .inl (abg _)
theorem sg {kinds:List Str} {rs:List Rl} {ws:List V}:∀{ns:List Str} {st:List Ky} {ds:List (Rl×Und)},bp kinds rs ws ns st=some ds→∀z∈ns,∃r∈rs,r.name=z
 | [],_,_,_,z,hz=>(aa9 hz).elim
 | _::_,[],_,h,_,_=>nomatch h
 | nm::r,k::st,ds,h,z,hz=>by
  cases e:bw kinds rs ws nm k.2 k.1 with
  | none=>rw[ir e] at h;cases h
  | some d=>
   rw[fw e] at h;obtain ⟨ds',h1,rfl⟩:=Option.map_eq_some_iff.mp h;rcases List.mem_cons.mp hz with rfl | hz
   ·obtain ⟨r1,r2,_⟩:=jj (r:=d.1) (u:=d.2) e;exact ⟨d.1,r1,r2⟩
   ·exact sg h1 z hz
def CvV (kinds:List Str) (rs:List Rl) (ws:List V) (kd:Str) (H:Hp) (v:V):Prop:=v=.non∨∃(t:Addr) (ns:List Str) (ds:List (Rl×Und)),v=.ref t∧H t=some (.tup (ns.map V.str))∧ns.length≤70∧bp kinds rs ws ns [(0,kd)]=some ds
theorem CvV.tk {kinds:List Str} {rs:List Rl} {ws:List V} {kd:Str} {H H':Hp} {v:V} (h:CvV kinds rs ws kd H v) (s:TK H H'):CvV kinds rs ws kd H' v:=by
 rcases h with h | ⟨t,ns,ds,h1,h2,h3⟩
 ·exact .inl h
 ·exact .inr ⟨t,ns,ds,h1,s _ _ h2,h3⟩
theorem uz {kinds:List Str} {rs:List Rl} {ws:List V} {g:Ky→Option Int} (bk:Bk kinds rs) (tw:Tw ws) (T:Tbl (fb kinds rs ws) g) {ns:List Str} {kd:Str} {ds:List (Rl×Und)} (h:bp kinds rs ws ns [(0,kd)]=some ds):∃v,g (0,kd)=some v∧v≤cpr ds:=by
 obtain ⟨h1,h2⟩:=yh bk tw T (st:=[(0,kd)]) (λk hk=>by rw[List.mem_singleton.mp hk];exact tw.pos) h;obtain ⟨v,hv,vp⟩:=h1 _ aa7;refine ⟨v,hv,?_⟩;rw[gh] at h2;have:prc g (0,kd)=v.toNat:=by unfold prc;rw[hv];rfl
 have p0:prs g []=0:=rfl;rw[this,p0] at h2;omega
end Pc
namespace L2
open PySem PySem.Spec PyProof.Rows
section
variable {X:Cx} {v:Expr} {tv:TE} {p1 p2 pos:Pos} {c:Str} {j:Nat}
theorem O7 (hv:PE X v tv) (hc:c.length≤100:=by decide+kernel):PE X (.JoinedStr [.Constant (.str c) j p2,.FormattedValue v 114 none p1] pos) (Co tv):=by
 intro pins s σ H Q I h;refine wpAny_JoinedStr ?_;have e0:∀w:Str,(Str.empty++w).length=w.length:=λw=>by rw[strLen_append];exact acm _
 have sz:=sizeLine_eq;refine Calls.Constant_str ⟨c,_,rfl,by rw[e0];omega,?_⟩;refine wpAny_FormattedValue_repr (thn (hv pins _ σ H _ (I.tok _) h) λu s1 ⟨x,H1,I1,r1,z,e,ha,hz,q⟩=>?_);subst e;obtain ⟨t,rfl⟩:=r1;have hl:=StrLaws.reprText_len z λc hc=>adu (ha c hc) (by decide);refine pyReprObj_str ?_ (by omega);refine formatField_str (λt' tk=>⟨_,t',rfl,by rw[strLen_append,e0];omega,by rw[strLen_append,e0];omega,?_⟩) (by omega);exact ⟨.str _,H1,I1.tok _,⟨_,rfl⟩,q _⟩
end
end L2
namespace K53
open PySem PySem.Spec L2 PyProof.Rows Pc
set_option hygiene false
set_option compiler.extract_closed false
local macro_rules | `(tactic| push_cast [$xs,*])=>`(tactic| simp only [↓Ib,↓Nn,↓Pz,↓Oq,↓exists_eq_left,↓exists_eq_left',↓int_ex,↓ref_ex,↓bl_ex,↓Oh,ky,zr,rID,rUD,tBD,Ej,yk,Kw,Kd,tSeq,tIfS,tRet,tRetN,tNext,tVar,tC,xi,tB,tOp,tUn,rI,rI0,rU,rEq,rNe,Gq,tCB,Bm,Dg,tAnd,tOr,tNot,tAndV,tOrV,tNotV,tIf,cu,tAsg,tBM,tBM0,tSl,Fj,Mo,rSlS,rSlL,tLst,tTup,tDrop,tNoIf,iStr,iList,iTup,iRng1,iRng2,tLC,Jz,xq,List.set_cons_zero,List.set_cons_succ,List.getElem?_cons_zero,List.getElem?_cons_succ,Option.some.injEq,V.int.injEq,V.str.injEq,V.bl.injEq,V.ref.injEq,List.cons.injEq,exists_eq_left,exists_eq_left',exists_eq_right,exists_eq_right',exists_and_left,exists_and_right,and_true,true_and,List.cons_append,List.nil_append,List.append_nil,reduceCtorEq,false_and,exists_false,false_or,or_false,decide_eq_true_eq,eq_self,if_true,if_false,Bool.false_eq_true,Bool.true_eq_false,cxOf_K,cxOf_P,cxOf_w,M9,cxOf_b,List.map_cons,List.map_nil,Option.getD_some,Option.getD_none,exists_const,nox_K,and_assoc,exists_eq,exists_eq',V.ty.injEq,tVals,Int.reduceLT,Int.reduceLE,Int.reduceNeg,Int.reducePow,Nat.reduceLT,Nat.reduceLeDiff,Nk,Pg,qp,tCallV,tDIn,E7,tDGet,iRev,tDNewK,sDPut,and_self,exists_prop,$xs,*])
set_option hygiene true
set_option compiler.extract_closed true
noncomputable def top (i:Nat):Stmt:=PySem.Challenge.pw_pricecover_k53_whole_no_cover_is_cheaper.main.body.getD i (.Pass ⟨0,0,0,0⟩)
structure ErS (K:PySem.W.Frag) (mg:Str→Option Value) (κ:Cl):Prop where
 m_cov:mg "CoverError"=some (.ref κ.cov)
 m_badCover:mg "BadCover"=some (.ref κ.badCover)
 m_noCover:mg "NoCover"=some (.ref κ.noCover)
 x_cov:Xc K κ.cov vbm
 x_badCover:Xc K κ.badCover (cbm κ)
 x_noCover:Xc K κ.noCover (cbm κ)
structure Gs (w:World) (K:PySem.W.Frag) (mg:Str→Option Value) (κ:Cl):Prop where
 er:ErS K mg κ
 i_BadCover:PySem.W.findIn K (.ref κ.badCover) "__init__"=some (some (.builtin "ValueError.__init__"))
 i_NoCover:PySem.W.findIn K (.ref κ.noCover) "__init__"=some (some (.builtin "ValueError.__init__"))
 m_dict:mg "dict"=none
 m_int:mg "int"=none
 m_isinstance:mg "isinstance"=none
 m_len:mg "len"=none
 m_list:mg "list"=none
 m_range:mg "range"=none
 m_reversed:mg "reversed"=none
 m_sorted:mg "sorted"=none
 m_str:mg "str"=none
 m_sum:mg "sum"=none
 m_tuple:mg "tuple"=none
 m_zip:mg "zip"=none
 m_PARTS_BELOW:∃a,mg "PARTS_BELOW"=some (.ref a)∧ModD w K a [(Sum.inr "add",.int 2),(Sum.inr "sub",.int 2),(Sum.inr "mul",.int 2),(Sum.inr "neg",.int 1)]
def Fh (K:PySem.W.Frag):Sp:=λvs H Q _=>∃(a:Addr) (ns:List Int),vs=[.ref a]∧SqL K H a (ns.map V.int)∧ns.length≤63∧∀H',Q (.bl true) H'
def spT:Sp:=λvs H Q _=>False
set_option hygiene false
local macro_rules
 | `(A0 $a)=>`(@pl _ $a _ _ rfl rfl (by decide))
 | `(A1 $a $b)=>`(@Ak _ _ _ _ _ $a $b rfl)
 | `(A2 $_)=>`(@Mf _ _ _ _)
 | `(A3 $_)=>`(@Mp _)
 | `(A4 $a $b)=>`(@L5 _ _ _ _ _ $a $b)
 | `(A5 $a $b $c)=>`(@pe_op _ _ _ _ _ _ _ _ $a $b $c)
 | `(A6 $a)=>`(@Qk _ _ _ $a)
 | `(A7 $a $b $c)=>`(@Kl _ _ $a _ _ _ _ $b rfl (aaz rfl) $c rfl (.inl rfl))
 | `(A8 $a $b $c)=>`(@pe_ix _ _ _ _ _ _ _ $a $b $c (λ_ _=>rfl))
 | `(A9 $_)=>`(@nomark _ _ (by decide) (by decide))
 | `(AA $a)=>`(@pk _ $a _ _ rfl rfl (by decide))
 | `(AB $a $b $c $d)=>`(@Bc _ _ _ _ _ _ _ _ $a $b $c $d)
 | `(AC $a)=>`(@pe_lst _ _ _ _ $a)
 | `(AD $a)=>`(@ps_ret _ _ _ _ $a)
 | `(AE $a $b $c)=>`(@ps_if _ _ _ _ _ _ _ _ $a $b $c)
 | `(AF $a $b $c)=>`(@pe_has _ _ _ _ _ _ _ _ _ _ $a $b $c rfl (by decide+kernel) rfl rfl)
 | `(AG $_)=>`(@Jl _)
 | `(AH $_)=>`(@Ql _)
 | `(AI $a)=>`(@zt.str _ _ _ _ _ $a)
 | `(AJ $_)=>`(@Mv _ _ _ _)
 | `(AK $a)=>`(@pe_tup _ _ _ _ _ $a)
 | `(AL $_)=>`(@Om _)
 | `(AM $a $b $c)=>`(@G4 _ _ $a _ $b rfl $c (.inl rfl))
 | `(AN $a)=>`(@Pw _ _ _ _ $a rfl)
 | `(AO $a $b $c $d $e $f)=>`(@pe_bm _ _ _ _ _ _ _ _ _ _ _ _ $a $b $c $d $e $f rfl rfl rfl rfl rfl)
 | `(AQ $_)=>`(@Qj _)
 | `(AR $_)=>`(@op_eq _)
 | `(AS $a $b $c $d)=>`(@Jk _ _ _ _ _ _ _ _ _ $a rfl $b $c $d (by decide) (by decide) rfl rfl)
 | `(AT $a $b)=>`(@Lp _ _ _ _ _ $a $b rfl)
 | `(AU $_)=>`(@K1 _)
 | `(AV $_)=>`(@y9 _)
 | `(AW $_)=>`(@Fe _)
 | `(AX $_)=>`(@xo _)
 | `(AY $a $b $c $d)=>`(@Hr _ _ _ _ _ _ _ _ _ $a rfl $b $c $d (by decide) (by decide) rfl rfl)
 | `(AZ $a $b $c)=>`(@En _ _ _ _ _ _ _ _ PassesOwn.never rfl $a $b $c (by intro _;rfl))
 | `(B0 $a $b)=>`(@G4 _ _ $a _ $b rfl (aaz rfl) (.inr rfl))
 | `(B6 $a)=>`(@PW.pt _ _ _ $a)
 | `(B7 $_)=>`(@Oy _)
 | `(BA $_)=>`(@xg _)
 | `(BC $a $b)=>`(@P6 _ _ _ _ _ _ $a $b)
 | `(BD $a)=>`(@Ni _ _ _ _ $a)
 | `(BE $a)=>`(@Lm _ _ _ $a)
 | `(BF $_)=>`(@zt.nil)
 | `(BG $_)=>`(@op_gtD _)
 | `(BH $a $b)=>`(@Of _ _ _ _ _ $a $b)
 | `(BI $a $b $c $d $e)=>`(@ka.mk _ _ $a $b $c _ rfl rfl rfl rfl $d rfl $e)
 | `(BJ $a $b)=>`(@pw_and _ _ _ _ _ _ _ $a $b)
 | `(BK $a $b $c)=>`(@Bc _ _ _ _ _ _ _ _ $a $b $c (by with_unfolding_all rfl))
 | `(BL $a)=>`(@pi_tup _ _ _ _ $a)
 | `(BM $a)=>`(@Ox _ _ _ _ $a)
 | `(BN $a $b $c)=>`(@Oo _ _ _ _ _ _ $a $b $c (λ_ _=>rfl))
 | `(BO $_)=>`(@pe_bl _ _ _ _)
 | `(BP $_)=>`(@Qh _)
 | `(BQ $_)=>`(@Ec _)
 | `(BR $_)=>`(@zf _)
 | `(BS $a)=>`(@pif1 _ _ _ $a)
 | `(BT $a $b $c $d $e)=>`(@pe_lc _ _ _ _ _ _ _ _ _ _ _ _ _ _ _ $a rfl $b $c $d $e (by intro _;rfl))
 | `(BU $a)=>`(@zt.int _ _ _ _ _ $a)
 | `(BV $a $b)=>`(@pw_or _ _ _ _ _ _ _ $a $b)
 | `(BW $a $b $c $d $e)=>`(@pe_bm0 _ _ _ _ _ _ _ _ _ $a $b $c $d $e rfl rfl)
 | `(BX $a $b)=>`(@Ik _ _ _ _ _ _ rfl $a $b rfl)
 | `(BY $a $b $c)=>`(@Kl _ _ $a _ _ _ _ $b rfl (ab4 rfl) $c rfl (.inl rfl))
 | `(BZ $_)=>`(@Ca _)
 | `(C0 $a $b)=>`(@pe_gty _ _ _ _ $a $b rfl (by decide+kernel) (by decide+kernel))
 | `(C3 $a)=>`(@Nc _ _ _ $a (by intro _;rfl))
 | `(C4 $a $b)=>`(@Ed _ _ _ _ _ $a rfl $b rfl rfl)
 | `(C7 $a)=>`(@pw_or1 _ _ _ _ $a)
 | `(C8 $a)=>`(@Nv _ $a rfl)
 | `(C9 $a $b $c $d)=>`(@Jb _ _ _ _ _ _ _ _ _ _ $a $b $c $d)
 | `(CC $a)=>`(@Kt _ _ _ $a)
 | `(CF $a $b)=>`(@Cm _ _ _ _ _ _ PassesOwn.never $a $b)
 | `(CG $a)=>`(@Nt _ _ _ _ _ $a)
 | `(CH $a $b $c $d)=>`(@Az _ _ _ _ _ _ _ _ $a $b $c $d)
 | `(CI $a $b $c $d $e $f $g)=>`(@Kp _ _ _ _ _ _ _ _ _ _ _ _ _ _ _ $a _ _ _ $b rfl (aaz rfl) $c rfl $d $e $f $g rfl (by intro _;rfl) (.inl rfl))
 | `(CJ $a $b $c)=>`(@Ie _ _ _ _ _ $a $b $c)
 | `(CK $a $b)=>`(@pe_un _ _ _ _ _ _ $a $b)
 | `(CL $a $b $c $d $e)=>`(@Ht _ _ _ _ _ _ _ _ _ _ _ _ $a $b $c $d $e rfl (by decide+kernel) rfl rfl)
 | `(CM $a $b)=>`(@ps_asg _ _ _ _ _ _ $a $b rfl rfl rfl)
 | `(CN $a $b $c)=>`(@M5 _ _ _ _ _ _ _ _ $a $b $c)
 | `(CO $a $b $c)=>`(@Mn _ _ _ _ _ _ _ _ _ $a $b $c)
 | `(CP $a $b $c)=>`(@Py _ _ _ _ _ _ _ _ _ _ _ $a $b $c rfl (by decide+kernel) rfl rfl)
set_option hygiene true
section
variable {P:Program} {w:World} {K:PySem.W.Frag} {mg:Str→Option Value} {base:Heap} {k:Nat} {κ:Cl}
noncomputable abbrev Ex:Stmt:=top 6
theorem scHow:ax ["word"] ["word"] (ag Ex):=⟨rfl,rfl,rfl,by decide+kernel,rfl,by decide+kernel,by decide+kernel⟩
theorem hasHow (G:Gs w K mg κ) (D:Def K mg "how_many_below" Ex ["word"]):Has P w K mg base (k+1) "how_many_below" ["word"] vt:=by
 refine D.has scHow (λvs H Q E h=>?_) (λf cdv A outer s H vs Q E hr h=>?_)
 ·obtain ⟨_,rfl,_,_⟩:=h;rfl
 have nd:=scHow.nd;have hu:=cb hr;have hu0:=aag hu;obtain ⟨v,rfl,hw,q⟩:=h;obtain ⟨a_PARTS_BELOW,m_PARTS_BELOW,s_PARTS_BELOW⟩:=G.m_PARTS_BELOW;refine ⟨_,(A6 (AD (@J8 _ _ _ _ _ _ _ _ _ _ (@O9 _ _ _ _ m_PARTS_BELOW rfl (by decide+kernel)) s_PARTS_BELOW (A0 0) (A2 0) (@M2.mk _ _ _ _ _ _ _ rfl rfl rfl rfl)))),?_⟩;rw[show start ["word"] [v]=[some (v)] from rfl];clear hu hu0 nd hr;push_cast [L7];obtain ⟨k,rfl⟩:=hw;refine ⟨k,rfl,?_⟩;show Q ((cy parts k).getD (V.int 0)) H
 rw[Hz];exact q
noncomputable abbrev j7:Stmt:=top 7
theorem Cv:ax ["words","place","lacking","at"] ["words","place"] (ag j7):=⟨rfl,rfl,rfl,by decide+kernel,rfl,by decide+kernel,by decide+kernel⟩
theorem G7 (G:Gs w K mg κ) (h_how_many_below:Has P w K mg base k "how_many_below" ["word"] vt) (D:Def K mg "place_behind" j7 ["words","place"]):Has P w K mg base (k+1) "place_behind" ["words","place"] (va K):=by
 refine D.has Cv (λvs H Q E h=>?_) (λf cdv A outer s H vs Q E hr h=>?_)
 ·obtain ⟨_,_,_,_,rfl,_,_,_,_,_⟩:=h;rfl
 have nd:=Cv.nd;have hu:=cb hr;have hu0:=aag hu;obtain ⟨t,ws,p,n,rfl,hT,hw,hl,he,q⟩:=h;refine ⟨_,(A4 (A7 2 nd (A2 0)) (A4 (A7 3 nd (A0 1)) (A4 (CF (AB (BG 0) (A0 2) (A2 0) (A9 0)) (A4 (A7 2 nd (A5 (AQ 0) (A5 (B7 0) (A0 2) (A2 0)) (AF h_how_many_below hr (A1 (A8 (AG 0) (A0 0) (A0 3)) (A3 0))))) (A6 (A7 3 nd (A5 (AQ 0) (A0 3) (A2 0)))))) (A6 (AD (A0 3)))))),?_⟩;rw[show start ["words","place","lacking","at"] [.ref t,.int (p:Int)]=[some (.ref t),some (.int (p:Int)),none,none] from rfl];clear hu hu0 nd hr;push_cast [vt];have hn:=qo _ _ _ he;rw[aa0,aap] at hn;refine ja (λσ H'=>∃(d j:Nat),σ=[some (.ref t),some (.int (p:Int)),some (.int (d:Int)),some (.int ((p+j:Nat):Int))]∧H'=H∧j≤n∧eat d ((ws.drop (p+j)).map arV)=some (n - j))
  (λσ _=>p+n - intAt σ 3) ⟨1,0,rfl,rfl,aa6 _,he⟩ ?_ ?_
 ·rintro σ H' ⟨d,j,rfl,rfl,hj,hd⟩;push_cast [vt];refine b7 (λc=>?_) λc=>?_
  ·obtain ⟨d',rfl⟩:∃d',d=d'+1:=⟨d - 1,by omega⟩;have hpos:=Ag _ _ _ hd;have hlt:p+j < ws.length:=by omega
   have ed:ws.drop (p+j)=ws[p+j]::ws.drop (p+j+1):=aat hlt;rw[ed,aaw,dz] at hd;obtain ⟨m,hm,em⟩:=Option.map_eq_some_iff.mp hd;refine ⟨t,ws,((p+j:Nat):Int),ws[p+j],rfl,rfl,hT,bb (aa1 hlt),hw _ (ab5 hlt),⟨d'+arV ws[p+j],by omega,j+1,by omega,rfl,by omega,?_⟩,?_⟩
   ·rw[show n - (j+1)=m by omega];exact hm
   ·show p+n - (((p+j:Nat):Int)+1).toNat < p+n - (((p+j:Nat):Int)).toNat
    omega
  ·have d0:d=0:=by omega
   subst d0;rw[kj] at hd;have:n - j=0:=(aa4 hd).symm;have e:((p+j:Nat):Int)=(p:Int)+(n:Int):=by omega
   rw[e];exact q H' (ak.refl _)
 ·intro σ H' Q1 Q2 hq h;simp only[xi,tOp,rI0,gz,tC,jl,iu,tB] at h ⊢;obtain ⟨v,hv,i,j,e1,e2,k,e3,h⟩:=h;exact ⟨v,hv,i,j,e1,e2,k,e3,hq _ _ h⟩
noncomputable abbrev wc:Stmt:=top 9
theorem Kr:ax ["word","kinds"] ["word","kinds"] (ag wc):=⟨rfl,rfl,rfl,by decide+kernel,rfl,by decide+kernel,by decide+kernel⟩
theorem Nx (G:Gs w K mg κ) (D:Def K mg "leaf_letter" wc ["word","kinds"]):Has P w K mg base (k+1) "leaf_letter" ["word","kinds"] (jv K):=by
 refine D.has Kr (λvs H Q E h=>?_) (λf cdv A outer s H vs Q E hr h=>?_)
 ·obtain ⟨_,_,_,rfl,_,_,_⟩:=h;rfl
 have nd:=Kr.nd;have hu:=cb hr;have hu0:=aag hu;obtain ⟨v,kt,kinds,rfl,hv,hK,q⟩:=h;refine ⟨_,(A4 (AE (AB (AR 0) (A0 0) (AJ 0) (A9 0)) (A6 (AD (AJ 0))) (AL 0)) (A4 (AE (AB (AR 0) (A0 0) (AJ 0) (A9 0)) (A6 (AD (AJ 0))) (AL 0)) (A6 (AD (CN (BK (BR 0) (A0 0) (A0 1)) (AJ 0) (AJ 0)))))),?_⟩;rw[show start ["word","kinds"] [v,.ref kt]=[some (v),some (.ref kt)] from rfl];clear hu hu0 nd hr;push_cast [rIn];have fl:(kinds.map V.str).all g6=true:=List.all_eq_true.mpr λx hx=>by obtain ⟨z,_,rfl⟩:=List.mem_map.mp hx;rfl
 unfold br il gu lN lV lH lO at q;refine ⟨hv.sc _,b7 (λe=>?_) λn1=>⟨hv.sc _,b7 (λe=>?_) λn2=>⟨_,.inr hK,hv.flat,fl,b7 (λe=>?_) λe=>?_⟩⟩⟩
 ·rw[if_pos e] at q;exact q
 ·rw[if_neg n1,if_pos e] at q;exact q
 ·rw[if_neg n1,if_neg n2,if_pos e] at q;exact q
 ·rw[if_neg n1,if_neg n2,if_neg e] at q;exact q
noncomputable abbrev vi:Stmt:=top 11
theorem Kg:ax ["letter","shape_word","word"] ["letter","shape_word","word"] (ag vi):=⟨rfl,rfl,rfl,by decide+kernel,rfl,by decide+kernel,by decide+kernel⟩
theorem Nd (G:Gs w K mg κ) (h_how_many_below:Has P w K mg base k "how_many_below" ["word"] vt) (D:Def K mg "lies_upon" vi ["letter","shape_word","word"]):Has P w K mg base (k+1) "lies_upon" ["letter","shape_word","word"] Ar:=by
 refine D.has Kg (λvs H Q E h=>?_) (λf cdv A outer s H vs Q E hr h=>?_)
 ·obtain ⟨_,_,_,rfl,_,_,_⟩:=h;rfl
 have nd:=Kg.nd;have hu:=cb hr;have hu0:=aag hu;obtain ⟨l,v,x,rfl,hv,hx,q⟩:=h;have m_isinstance:=G.m_isinstance;have m_str:=G.m_str;refine ⟨_,(A4 (AE (AB (AR 0) (A0 0) (AJ 0) (A9 0)) (A6 (AD (BO 0))) (AL 0)) (A4 (AE (AB (AR 0) (A0 0) (AJ 0) (A9 0)) (A6 (AD (@pe_not _ _ _ _ (AS (BZ 0) m_isinstance eh (A1 (A0 2) (A1 (C0 m_str Ge) (A3 0))))))) (AL 0)) (A4 (AE (AB (AR 0) (A0 0) (AJ 0) (A9 0)) (A6 (AD (@pe_and _ _ _ _ _ _ _ (AS (BZ 0) m_isinstance eh (A1 (A0 2) (A1 (C0 m_str Ge) (A3 0)))) (@pe_one _ _ _ _ _ (CH (AR 0) (AF h_how_many_below hr (A1 (A0 2) (A3 0))) (A2 0) (A9 0)))))) (AL 0)) (A6 (AD (CH (AR 0) (A0 1) (A0 2) (A9 0))))))),?_⟩;rw[show start ["letter","shape_word","word"] [.str l,v,x]=[some (.str l),some (v),some (x)] from rfl];clear hu hu0 nd hr;push_cast [vt];unfold lies lH lN lV at q;refine ⟨rfl,b7 (λe=>?_) λn1=>⟨rfl,b7 (λe=>?_) λn2=>⟨rfl,b7 (λe=>?_) λn3=>⟨hv.sc2 hx,?_⟩⟩⟩⟩
 ·rw[if_pos e] at q;exact q
 ·rw[if_neg n1,if_pos e] at q;obtain ⟨k',rfl⟩:=hx;cases k' with
  | inl i=>exact ⟨_,.int i,false,rfl,q⟩
  | inr z=>exact ⟨_,.str z,true,rfl,q⟩
 ·rw[if_neg n1,if_neg n2,if_pos e] at q;have hx':=hx;obtain ⟨k',rfl⟩:=hx;cases k' with
  | inl i=>exact ⟨_,.int i,false,rfl,iteF q⟩
  | inr z=>
   refine ⟨_,.str z,true,rfl,iteT ⟨hx',rfl,?_⟩⟩;rw[show decide (((arV (kV (Sum.inr z)):Nat):Int)=0)=decide (arV (kV (Sum.inr z))=0) from decide_eq_decide.mpr (by omega)];exact q
 ·rw[if_neg n1,if_neg n2,if_neg n3] at q;exact q
noncomputable abbrev xc:Stmt:=top 12
theorem K2:ax ["shape","kinds","words","place","under","at","shape_word","letter"] ["shape","kinds","words","place"] (ag xc):=⟨rfl,rfl,rfl,by decide+kernel,rfl,by decide+kernel,by decide+kernel⟩
theorem Nw (G:Gs w K mg κ) (h_leaf_letter:Has P w K mg base k "leaf_letter" ["word","kinds"] (jv K)) (h_lies_upon:Has P w K mg base k "lies_upon" ["letter","shape_word","word"] Ar) (h_place_behind:Has P w K mg base k "place_behind" ["words","place"] (va K)) (D:Def K mg "laid" xc ["shape","kinds","words","place"]):Has P w K mg base (k+1) "laid" ["shape","kinds","words","place"] (xh K):=by
 refine D.has K2 (λvs H Q E h=>?_) (λf cdv A outer s H vs Q E hr h=>?_)
 ·obtain ⟨_,_,_,_,_,_,_,_,rfl,_,_,_,_,_,_,_,_,_,_,_⟩:=h;rfl
 have nd:=K2.nd;have hu:=cb hr;have hu0:=aag hu;obtain ⟨st,kt,wt,sh,kinds,ws,p,n,rfl,hS,hK,hW,hk,hs,hw,hTm,he,hl1,hl2,q⟩:=h;have m_tuple:=G.m_tuple;refine ⟨_,(A4 (A7 4 nd (@Ot _ _ _ _ _ (CO (AJ 0) (AC (A3 0)) (CO (AJ 0) (AC (A3 0)) (CO (AJ 0) (AC (A3 0)) (@O4 _ _)))) rfl rfl (λe=>nomatch e) (by decide))) (A4 (A7 5 nd (A0 3)) (A4 (AZ (BL (A0 0)) (AM 6 nd (by first | exact aaz rfl | exact ab4 rfl)) (A4 (A7 7 nd (AF h_leaf_letter hr (A1 (A0 6) (A1 (A0 1) (A3 0))))) (A4 (AE (@Ea _ _ _ _ (C3 (AF h_lies_upon hr (A1 (A0 7) (A1 (A0 6) (A1 (A8 (AG 0) (A0 2) (A0 5)) (A3 0))))))) (A6 (AD (@qu _ _ _))) (AL 0)) (BH (AE (AB (@G3 _) (A0 7) (AJ 0) (A9 0)) (A6 (AN (AO PySem.F.plainAttrs_list PySem.F.slot_list_append PySem.F.type_list_append (AV 0) (BN hu (A0 4) (A0 7)) (A1 (CN (AB (AR 0) (A0 7) (AJ 0) (A9 0)) (A0 5) (A8 (AG 0) (A0 2) (A0 5))) (A3 0))))) (AL 0)) (A6 (A7 5 nd (CN (AB (AR 0) (A0 7) (AJ 0) (A9 0)) (AF h_place_behind hr (A1 (A0 2) (A1 (A0 5) (A3 0)))) (A5 (AQ 0) (A0 5) (A2 0))))))))) (A6 (AD (AK (A1 (AY (BA 0) m_tuple de (A1 (BN hu (A0 4) (AJ 0)) (A3 0))) (A1 (AY (BA 0) m_tuple de (A1 (BN hu (A0 4) (AJ 0)) (A3 0))) (A1 (AY (BA 0) m_tuple de (A1 (BN hu (A0 4) (AJ 0)) (A3 0))) (A3 0)))))))))),?_⟩;rw[show start ["shape","kinds","words","place","under","at","shape_word","letter"] [.ref st,.ref kt,.ref wt,.int (p:Int)]=[some (.ref st),some (.ref kt),some (.ref wt),some (.int (p:Int)),none,none,none,none] from rfl];clear hu hu0 nd hr;push_cast [tDisp,zj];have sz:=sizeLine_eq;refine λu0 h0=>⟨aa6 _,λl1 h1=>⟨aa6 _,λl2 h2=>⟨aa6 _,λl3 h3=>⟨aa h3 _ _ _ (aa h2 _ _ _ (aa h1 _ _ _ ae)),[(Sum.inr lH,.ref l1),(Sum.inr lN,.ref l2),(Sum.inr lV,.ref l3)],rfl,by show (3:Nat)≤15;decide,?_⟩⟩⟩⟩;rw[show rn [] [(Sum.inr lH,V.ref l1),(Sum.inr lN,V.ref l2),(Sum.inr lV,V.ref l3)]=[(Sum.inr lH,V.ref l1),(Sum.inr lN,V.ref l2),(Sum.inr lV,V.ref l3)] from rfl];have n10:l1≠u0:=(af ae h1).symm;have n20:l2≠u0:=(af (aa h1 _ _ _ ae) h2).symm;have n30:l3≠u0:=(af (aa h2 _ _ _ (aa h1 _ _ _ ae)) h3).symm;have n21:l2≠l1:=(af ae h2).symm;have n31:l3≠l1:=(af (aa h2 _ _ _ ae) h3).symm;have n32:l3≠l2:=(af ae h3).symm;have S1:=aa h0 (.dK []);have f1:=S1.free h1;have S2:=S1.trans (aa h1 (.lst []));have f2:=S2.free h2;have S3:=S2.trans (aa h2 (.lst []));have f3:=S3.free h3;have S4:=(S3.trans (aa h3 (.lst []))).upd h0 (.dK [(Sum.inr lH,V.ref l1),(Sum.inr lN,V.ref l2),(Sum.inr lV,V.ref l3)]);have U4:UAt (upd (upd (upd (upd (upd H u0 (.dK [])) l1 (.lst [])) l2 (.lst [])) l3 (.lst [])) u0 (.dK [(Sum.inr lH,V.ref l1),(Sum.inr lN,V.ref l2),(Sum.inr lV,V.ref l3)])) u0 l1 l2 l3 ⟨[],[],[]⟩:=
  ⟨ae,by rw[ah n10,ah n31.symm,ah n21.symm,ae];rfl,by rw[ah n20,ah n32.symm,ae],by rw[ah n30,ae]⟩
 generalize upd (upd (upd (upd (upd H u0 (.dK [])) l1 (.lst [])) l2 (.lst [])) l3 (.lst [])) u0 (.dK [(Sum.inr lH,V.ref l1),(Sum.inr lN,V.ref l2),(Sum.inr lV,V.ref l3)])=H4 at S4 U4 ⊢;obtain ⟨P1,eP1⟩:∃P1:Nat→L2.St→Hp→Prop,∀i σ H',P1 i σ H'↔∃(q':Nat) (u:Und) (v6 v7:Option V),σ=[some (.ref st),some (.ref kt),some (.ref wt),some (.int (p:Int)),some (.ref u0),some (.int (q':Int)),v6,v7]∧ak H H'∧UAt H' u0 l1 l2 l3 u∧bu kinds ws (sh.drop i) q' u=bu kinds ws sh p ⟨[],[],[]⟩∧(u.hs.length≤i∧u.ns.length≤i∧u.vs.length≤i)∧Es u∧∃d m,pend d ((sh.drop i).map arV)=some 0∧eat d ((ws.drop q').map arV)=some m:=⟨_,λ_ _ _=>abh⟩;refine ⟨⟨sh,S4.tup hS⟩,gd (xs:=sh) P1 ((eP1 _ _ _).mpr ⟨p,⟨[],[],[]⟩,none,none,rfl,S4,U4,rfl,⟨aa6 _,aa6 _,aa6 _⟩,⟨(λ_ h=>nomatch h),(λ_ h=>nomatch h)⟩,1,n,hTm,he⟩) (λi σ H' _ h=>by obtain ⟨_,_,_,_,_,s,_⟩:=(eP1 _ _ _).mp h;exact s.tup hS) ?_ ?_⟩
 ·intro i v σ H5 hvi hh;refine ob4 ((eP1 _ _ _).mp hh) λq' u v6 v7 hh=>?_;have s5:=hh.2.1;have U5:=hh.2.2.1;have e5:=hh.2.2.2.1;have hul:=hh.2.2.2.2.1;have huw:=hh.2.2.2.2.2.1;have hdm:=hh.2.2.2.2.2.2;obtain rfl:=hh.1;clear hh;obtain ⟨d,m,hp5,he5⟩:=hdm;have fin:∀(q2:Nat) (z:Int) (u2:Und) (w6 w7:Option V) (H':Hp),z=(q2:Int)→ak H H'→UAt H' u0 l1 l2 l3 u2→bu kinds ws (sh.drop (i+1)) q2 u2=bu kinds ws sh p ⟨[],[],[]⟩→(u2.hs.length≤i+1∧u2.ns.length≤i+1∧u2.vs.length≤i+1)→Es u2→(∃d m,pend d ((sh.drop (i+1)).map arV)=some 0∧eat d ((ws.drop q2).map arV)=some m)→P1 (i+1) [some (.ref st),some (.ref kt),some (.ref wt),some (.int (p:Int)),some (.ref u0),some (.int z),w6,w7] H':=λq2 z u2 w6 w7 H' ez a1 a2 a3 a4 a5 a6=>(eP1 _ _ _).mpr ⟨q2,u2,w6,w7,by rw[ez],a1,a2,a3,a4,a5,a6⟩;have hil:i < sh.length:=(List.getElem?_eq_some_iff.mp hvi).1;have ed:sh.drop i=v::sh.drop (i+1):=by
   rw[aat hil];congr 1
   rw[aa1 hil] at hvi;exact aa4 hvi
  rw[ed] at e5 hp5;obtain ⟨d',rfl⟩:∃d',d=d'+1:=by
   cases d with
   | zero=>cases hp5
   | succ d'=>exact ⟨d',rfl⟩
  have hq:q' < ws.length:=by
   have a1:=Ag _ _ _ he5;have a2:=qo _ _ _ he5;rw[aa0,aap] at a2;omega
  have hx:ws[q']?=some ws[q']:=aa1 hq;have hxw:=hw _ (ab5 hq);have hat:atI ws (q':Int)=some ws[q']:=bb hx;have hvw:=hs v (aah hvi);have hgd:ws.getD q' .non=ws[q']:=by rw[aae,hx];rfl
  rw[gb,hgd] at e5;generalize ws[q']=x at hx hxw hat hgd e5;push_cast [and_true];refine Pu hvw (s5.tup hK) ?_;push_cast [and_true];refine ⟨wt,ws,(q':Int),x,rfl,rfl,s5.tup hW,hat,mkLies hvw hxw ?_⟩;push_cast [and_true];cases hli:lies (br kinds v) v x with
  | false=>
   rw[hli,if_neg (by decide)] at e5;rw[if_pos (show (!false)=true from rfl)];have z:=q H5 s5;rw[←e5] at z;exact z
  | true=>
   rw[hli,if_pos rfl] at e5;rw[if_neg (show ¬(!true)=true by decide)];obtain ⟨d2,m2,hp6,he6⟩:=gy hk hvw hx hxw hp5 he5 hli;have hul':=u.Fp (br kinds v) q' x hul;have huw':=huw.put hxw (br kinds v) q';obtain ⟨b1,b2,b3,b4,b5,b6⟩:=lets;refine eu (λσ' H6=>σ'=[some (.ref st),some (.ref kt),some (.ref wt),some (.int (p:Int)),some (.ref u0),some (.int (q':Int)),some v,some (.str (br kinds v))]∧ak H H6∧UAt H6 u0 l1 l2 l3 (u.put (br kinds v) q' x)) ?_ ?_
   ·push_cast [and_true];refine ⟨rfl,?_⟩;rcases dw (kinds:=kinds) hvw with ⟨_,h⟩ | ⟨_,h⟩ | ⟨_,h⟩ | ⟨h,_⟩
    ·rw[h,if_pos (by decide+kernel)];refine ⟨_,U5.get2,aw U5.2.2.1,rfl,?_⟩;rw[if_neg (show ¬lN=Str.ofString "h" from b1)];exact ⟨wt,ws,_,x,rfl,rfl,s5.tup hW,hat,(ba (K:=K) U5.2.2.1 (by omega) ⟨s5.upd f2 _,U5.put2 n20 n21 n32 q' x⟩).2⟩
    ·rw[h,if_pos (by decide+kernel)];refine ⟨_,U5.get3,aw U5.2.2.2,rfl,?_⟩;rw[if_neg (show ¬lV=Str.ofString "h" from b2)];exact ⟨wt,ws,_,x,rfl,rfl,s5.tup hW,hat,(ba (K:=K) U5.2.2.2 (by omega) ⟨s5.upd f3 _,U5.put3 n30 n31 n32 q' x⟩).2⟩
    ·rw[h,if_pos (by decide+kernel)];refine ⟨_,U5.get1,aw U5.2.1,rfl,?_⟩;rw[if_pos (show lH=Str.ofString "h" from rfl)];exact (ba (K:=K) U5.2.1 (by rw[aa0];omega) ⟨s5.upd f1 _,U5.put1 n10 n21 n31 q' x⟩).2
    ·rw[h,if_neg (by decide+kernel),u.put0];exact ⟨s5,U5⟩
   ·rintro _ H6 ⟨rfl,s6,U6⟩;push_cast [and_true];refine ⟨rfl,b7 (λhH=>?_) λhH=>?_⟩
    ·have hH:br kinds v=lH:=hH;rw[if_pos hH] at e5 he6;obtain ⟨n1,hn1⟩:=Fu he5;have en:endAt ws q'=q'+n1:=by unfold endAt;rw[hn1];rfl
     rw[en] at e5 he6;exact ⟨wt,ws,q',n1,rfl,s6.tup hW,hw,by omega,hn1,λH7 s7=>fin (q'+n1) _ _ _ _ _ (by omega) (s6.trans s7) (U6.same s7) e5 hul' huw' ⟨d2,m2,hp6,he6⟩⟩
    ·have hH:¬br kinds v=lH:=hH;rw[if_neg hH] at e5 he6;exact fin (q'+1) _ _ _ _ _ (by omega) s6 U6 e5 hul' huw' ⟨d2,m2,hp6,he6⟩
 ·intro σ H5 hh;refine ob4 ((eP1 _ _ _).mp hh) λq' u v6 v7 hh=>?_;have s5:=hh.2.1;have U5:=hh.2.2.1;have e5:=hh.2.2.2.1;have hul:=hh.2.2.2.2.1;have huw:=hh.2.2.2.2.2.1;have hdm:=hh.2.2.2.2.2.2;obtain rfl:=hh.1;clear hh;obtain ⟨d,m,hp5,he5⟩:=hdm;rw[aby] at e5;have z:=q H5 s5;rw[←e5] at z;push_cast [and_true];refine ⟨_,U5.get1,_,.inl ⟨SqL.of U5.2.1,λt1 ht1=>?_⟩⟩;have U6:=U5.same (aa ht1 (.tup (u.hs.map plV)));refine ⟨_,U6.get2,_,.inl ⟨SqL.of U6.2.2.1,λt2 ht2=>?_⟩⟩;have U7:=U6.same (aa ht2 (.tup u.ns));refine ⟨_,U7.get3,_,.inl ⟨SqL.of U7.2.2.2,λt3 ht3=>⟨by show (3:Nat)≤sizeLine;decide,λt ht=>?_⟩⟩⟩;exact z t _ ((aa ht1 _).trans ((aa ht2 _).trans ((aa ht3 _).trans (aa ht _)))) ⟨t1,t2,t3,ae,aa ht _ _ _ (aa ht3 _ _ _ (aa ht2 _ _ _ ae)),aa ht _ _ _ (aa ht3 _ _ _ ae),aa ht _ _ _ ae⟩ ⟨⟨huw.1,by omega⟩,⟨huw.2,by omega⟩,by omega⟩
noncomputable abbrev jy:Stmt:=top 13
theorem De:ax ["shape","kinds","under","hole_kinds"] ["shape","kinds","under"] (ag jy):=⟨rfl,rfl,rfl,by decide+kernel,rfl,by decide+kernel,by decide+kernel⟩
theorem Hv (G:Gs w K mg κ) (h_leaf_letter:Has P w K mg base k "leaf_letter" ["word","kinds"] (jv K)) (D:Def K mg "holes_under" jy ["shape","kinds","under"]):Has P w K mg base (k+1) "holes_under" ["shape","kinds","under"] (km K):=by
 refine D.has De (λvs H Q E h=>?_) (λf cdv A outer s H vs Q E hr h=>?_)
 ·obtain ⟨_,_,_,_,_,_,rfl,_,_,_,_,_,_,_,_⟩:=h;rfl
 have nd:=De.nd;have hu:=cb hr;have hu0:=aag hu;obtain ⟨st,kt,ut,sh,kinds,u,rfl,hS,hK,hU,hk,hw,hl,hn,q⟩:=h;have m_list:=G.m_list;have m_zip:=G.m_zip;refine ⟨_,(A4 (CI 3 nd (BI ["word"] ["kinds"] [1] (aaj rfl trivial) (aaj (aaj rfl (aaj rfl rfl)) trivial)) (BL (A0 0)) (λ_ _ _=>(B0 0 (show aba (["word","kinds"]:List Str) by decide+kernel))) (λ_ _ _=>(BS (AB (AR 0) (AF h_leaf_letter hr (A1 (A0 0) (A1 (AA 1) (A3 0)))) (AJ 0) (A9 0)))) (λ_ _ _=>(A0 0))) (A6 (AD (@vc _ _ _ _ _ _ _ _ rfl rfl m_list rfl m_zip (A1 (A8 (AG 0) (A0 2) (A2 0)) (A1 (A0 3) (A3 0))) rfl rfl rfl)))),?_⟩;rw[show start ["shape","kinds","under","hole_kinds"] [.ref st,.ref kt,.ref ut]=[some (.ref st),some (.ref kt),some (.ref ut),none] from rfl];clear hu hu0 nd hr;push_cast [jv];have sz:=sizeLine_eq;refine ⟨⟨sh,hS⟩,λl hl'=>?_⟩;refine Eo (xs:=sh) (λi ys=>ys=(sh.take i).filter (isH kinds)) hS (by omega) hl' rfl (λi x ys H3 G' K' hx hP hl2 hS' hG hK'=>?_) λys H3 hP hl2 hS' hD2=>?_
 ·have hxw:=hw x (aah hx);have et:sh.take (i+1)=sh.take i++[x]:=by rw[ab6,hx];rfl
  push_cast [jv];refine ⟨hxw,kinds,hS'.tup hK,rfl,b7 (λe=>?_) λe=>?_⟩
  ·refine hK' _ _ (ak.refl _) ?_;rw[et,abf,←hP,aar,if_pos ((qa hk hxw).mp e)];rfl
  ·refine hG _ (ak.refl _) ?_;rw[et,abf,←hP,aar,if_neg λz=>e ((qa hk hxw).mpr z)];exact (ab7 _).symm
 ·rw[abp,←jc] at hP;subst hP;obtain ⟨t1,t2,t3,h1,h2,_⟩:=hU;push_cast [tLZ];refine au (hS' _ _ h1) rfl ⟨t1,rfl,u.hs.map plV,SqT.of (hS' _ _ h2),(aq kinds sh).map V.str,SqL.of hD2,by rw[aa0,aa0,hn],λl2 as H2 s2 hl2 hal hL hA=>q l2 H2 (hS'.trans s2) (hS'.free hl2) ⟨as,hL,?_,λj k hj=>?_⟩⟩
  ·rw[hal,aa0,acf,hn,Nat.min_self]
  ·obtain ⟨g1,g2⟩:=List.getElem?_zip_eq_some.mp (show (u.hs.zip (aq kinds sh))[j]?=some (k.1,k.2) from hj);exact hA j _ _ (by rw[aac,g1];rfl) (by rw[aac,g2];rfl)
noncomputable abbrev g8:Stmt:=top 14
theorem yt:ax ["book","words","place","fitting","name","kind","price","shape","deeds","under"] ["book","words","place"] (ag g8):=⟨rfl,rfl,rfl,by decide+kernel,rfl,by decide+kernel,by decide+kernel⟩
theorem Dv (G:Gs w K mg κ) (h_holes_under:Has P w K mg base k "holes_under" ["shape","kinds","under"] (km K)) (h_laid:Has P w K mg base k "laid" ["shape","kinds","words","place"] (xh K)) (D:Def K mg "fitting_rules" g8 ["book","words","place"]):Has P w K mg base (k+1) "fitting_rules" ["book","words","place"] mf:=by
 refine D.has yt (λvs H Q E h=>?_) (λf cdv A outer s H vs Q E hr h=>?_)
 ·obtain ⟨_,_,_,_,_,_,rfl,_,_,_,_,_,_⟩:=h;rfl
 have nd:=yt.nd;have hu:=cb hr;have hu0:=aag hu;obtain ⟨b,wt,kinds,rs,ws,p,rfl,hB,hW,bk,tw,hp,q⟩:=h;refine ⟨_,(A4 (A7 3 nd (AC (A3 0))) (A4 (AZ (BL (A8 (AG 0) (A0 0) (A2 0))) (C4 5 (AT (AM 4 nd (by first | exact aaz rfl | exact ab4 rfl)) (AT (AM 5 nd (by first | exact aaz rfl | exact ab4 rfl)) (AT (AM 6 nd (by first | exact aaz rfl | exact ab4 rfl)) (AT (AM 7 nd (by first | exact aaz rfl | exact ab4 rfl)) (AT (AM 8 nd (by first | exact aaz rfl | exact ab4 rfl)) (BP 0))))))) (A4 (A7 9 nd (AF h_laid hr (A1 (A0 7) (A1 (A8 (AG 0) (A0 0) (A2 0)) (A1 (A0 1) (A1 (A0 2) (A3 0))))))) (A6 (AE (BC (CG (A0 9)) (by first | exact cq _ (by decide) (by decide) | rfl)) (A6 (AN (AO PySem.F.plainAttrs_list PySem.F.slot_list_append PySem.F.type_list_append (AV 0) (A0 3) (A1 (AK (A1 (A0 4) (A1 (A0 5) (A1 (A0 6) (A1 (AF h_holes_under hr (A1 (A0 7) (A1 (A8 (AG 0) (A0 0) (A2 0)) (A1 (A0 9) (A3 0))))) (A3 0)))))) (A3 0))))) (AL 0))))) (A6 (AD (A0 3))))),?_⟩;rw[show start ["book","words","place","fitting","name","kind","price","shape","deeds","under"] [.ref b,.ref wt,.int (p:Int)]=[some (.ref b),some (.ref wt),some (.int (p:Int)),none,none,none,none,none,none,none] from rfl];clear hu hu0 nd hr;push_cast [and_true];have sz:=sizeLine_eq;have rl:=bk.len;refine ⟨aa6 _,λfl hfl=>?_⟩;have S1:=aa hfl (.lst []);obtain ⟨kt,rt,ra,hb,hkt,hrt,hRA⟩:=hB;refine au (S1 _ _ hb) rfl ⟨rt,rfl,⟨_,SqT.of (S1 _ _ hrt)⟩,?_⟩;obtain ⟨P1,eP1⟩:∃P1:Nat→L2.St→Hp→Prop,∀j σ H',P1 j σ H'↔∃(as:List Addr) (v4 v5 v6 v7 v8 v9:Option V),σ=[some (.ref b),some (.ref wt),some (.int (p:Int)),some (.ref fl),v4,v5,v6,v7,v8,v9]∧ak H H'∧H' fl=some (.lst (as.map V.ref))∧dj H' (λx=>H x≠none∨x=fl) as ((rs.take j).filterMap (mj kinds ws p)):=⟨_,λ_ _ _=>abh⟩;refine gd (xs:=ra.map V.ref) P1 ((eP1 _ _ _).mpr ⟨[],none,none,none,none,none,none,rfl,S1,ae,dj.nil _ _⟩) (λj σ H' _ h=>by obtain ⟨_,_,_,_,_,_,_,_,s,_⟩:=(eP1 _ _ _).mp h;exact SqT.of (s _ _ hrt)) ?_ ?_
 ·intro j y σ H5 hy hh;refine ob7 ((eP1 _ _ _).mp hh) λas v4 v5 v6 v7 v8 v9 hh=>?_;have s5:=hh.2.1;have f5:=hh.2.2.1;have F5:=hh.2.2.2;obtain rfl:=hh.1;clear hh;rw[aac] at hy;obtain ⟨aj,haj,rfl⟩:=Option.map_eq_some_iff.mp hy;have hjl:j < rs.length:=by rw[←hRA.1];exact (List.getElem?_eq_some_iff.mp haj).1
  have hrj:rs[j]?=some rs[j]:=aa1 hjl;obtain ⟨a',ha',sa,da,ds,g1,g2,g3⟩:=hRA.2 j _ hrj;obtain rfl:a'=aj:=aa4 (ha'.symm.trans haj);generalize rs[j]=r at hrj g1 g2;have hrm:=aah hrj;obtain ⟨n,hn⟩:=tw.eat hp;obtain ⟨w1,w2,w3⟩:=bk.sh r hrm;have twl:=tw.len;have et:(rs.take (j+1)).filterMap (mj kinds ws p)=(rs.take j).filterMap (mj kinds ws p)++(mj kinds ws p r).toList:=by
   rw[ab6,hrj,ae5];congr 1
  refine Le (s5 _ _ g1) rfl ?_;push_cast [and_true];refine au (s5 _ _ hb) rfl (Je (n:=n) (SqT.of (s5 _ _ g2)) (SqT.of (s5 _ _ hkt)) (SqT.of (s5 _ _ hW)) bk.kd w1 (λv hv=>(tw.w v hv).1) w2 hn (by omega) twl λH6 s6=>?_);have S6:=s5.trans s6;cases hu:bu kinds ws r.shape p ⟨[],[],[]⟩ with
  | none=>
   have ef:mj kinds ws p r=none:=by unfold mj;rw[hu];rfl
   refine ly ?_;push_cast [iy];rw[if_neg (by simp)];refine (eP1 _ _ _).mpr ⟨as,_,_,_,_,_,_,rfl,S6,s6 _ _ f5,?_⟩;rw[et,ef,show (none:Option Pc.Fr).toList=[] from rfl,ab7];exact F5.kx (Kx.same s6)
  | some u=>
   intro t H7 s7 hu7 ok7;have ef:mj kinds ws p r=some ⟨r.name,r.kind,r.price,u.hs.zip (aq kinds r.shape)⟩:=by unfold mj;rw[hu];rfl
   have S7:=S6.trans s7;push_cast [iy];rw[if_pos (by simp)];have s57:=s6.trans s7;have f7:=s57 _ _ f5;refine ⟨aw f7,au (S7 _ _ hb) rfl (Cq (SqT.of (S7 _ _ g2)) (SqT.of (S7 _ _ hkt)) hu7 bk.kd w1 (by omega) (by have:=(ju bk.kd r.shape p _ u w1 hu).1;simpa using this) λl H8 s8 hl8 hh8=>⟨by show (4:Nat)≤sizeLine;decide,λpr hpr=>?_⟩)⟩;have s9:=aa hpr (.tup [V.str r.name,V.str r.kind,V.int r.price,V.ref l]);have e9:upd H8 pr (.tup [V.str r.name,V.str r.kind,V.int r.price,V.ref l]) pr=some (.tup [V.str r.name,V.str r.kind,V.int r.price,V.ref l]):=ae;generalize upd H8 pr (.tup [V.str r.name,V.str r.kind,V.int r.price,V.ref l])=H9 at s9 e9 ⊢;have s79:=s8.trans s9;have f9:=s79 _ _ f7;have fal:as.length≤100:=by
    rw[F5.1];exact aau (abu _ _) (by rw[ab1];omega)
   refine (ba (K:=K) f9 (by rw[aa0];omega) ((eP1 _ _ _).mpr ⟨as++[pr],_,_,_,_,_,_,rfl,(S7.trans s79).upd hfl _,by rw[ae,aa8];rfl,?_⟩)).2;rw[et,ef];refine dj.kx (dj.snoc (F5.kx (Kx.same (s57.trans s79))) ⟨l,?_,e9,hh8.same s9⟩) ((Kx.upd f9).weak λx hx=>.inr hx);rintro (z | z)
   ·exact z (S7.free hl8)
   ·exact (af f7 hl8) z.symm
 ·intro σ H5 hh;refine ob7 ((eP1 _ _ _).mp hh) λas v4 v5 v6 v7 v8 v9 hh=>?_;have s5:=hh.2.1;have f5:=hh.2.2.1;have F5:=hh.2.2.2;obtain rfl:=hh.1;clear hh;push_cast [and_true];rw[aa0,abj (by rw[hRA.1];exact aa3 _)] at F5;exact q fl as H5 s5 hfl f5 (F5.weak λx hx=>.inl hx)
noncomputable abbrev m5:Stmt:=top 15
theorem Fy:ax ["own","holes","least","total","hole"] ["own","holes","least"] (ag m5):=⟨rfl,rfl,rfl,by decide+kernel,rfl,by decide+kernel,by decide+kernel⟩
theorem Jr (G:Gs w K mg κ) (D:Def K mg "price_there" m5 ["own","holes","least"]):Has P w K mg base (k+1) "price_there" ["own","holes","least"] ji:=by
 refine D.has Fy (λvs H Q E h=>?_) (λf cdv A outer s H vs Q E hr h=>?_)
 ·obtain ⟨_,_,_,_,_,_,rfl,_,_,_⟩:=h;rfl
 have nd:=Fy.nd;have hu:=cb hr;have hu0:=aag hu;obtain ⟨own,hl,d,hs,g,n,rfl,hH,hT,q⟩:=h;refine ⟨_,(A4 (A7 3 nd (A0 0)) (A4 (AZ (BD (A0 1)) (AM 4 nd (by first | exact aaz rfl | exact ab4 rfl)) (A4 (AE (BC (CJ hu (A0 4) (A0 2)) (by first | exact cq _ (by decide) (by decide) | rfl)) (A6 (AD (@qu _ _ _))) (AL 0)) (A6 (A7 3 nd (A5 (AQ 0) (A0 3) (BN hu (A0 2) (A0 4))))))) (A6 (AD (A0 3))))),?_⟩;rw[show start ["own","holes","least","total","hole"] [.int own,.ref hl,.ref d]=[some (.int own),some (.ref hl),some (.ref d),none,none] from rfl];clear hu hu0 nd hr;push_cast [and_true];obtain ⟨as,h1,h2,h3⟩:=hH;refine ⟨⟨_,SqL.of h1⟩,gw (xs:=as.map V.ref) (λi σ H'=>∃(c:Int) (v4:Option V),σ=[some (.int own),some (.ref hl),some (.ref d),some (.int c),v4]∧H=H'∧cost g c (hs.drop i)=cost g own hs) ⟨own,none,rfl,rfl,rfl⟩ (λi σ H' _ h=>by obtain ⟨_,_,_,rfl,_⟩:=h;exact SqL.of h1) ?_ ?_⟩
 ·rintro i y σ H' hy ⟨c,v4,rfl,rfl,hc⟩;rw[aac] at hy;obtain ⟨a,ha,rfl⟩:=Option.map_eq_some_iff.mp hy;have hil:i < hs.length:=by rw[←h2];exact (List.getElem?_eq_some_iff.mp ha).1
  have hk:hs[i]?=some hs[i]:=aa1 hil;obtain ⟨a',ha',hA⟩:=h3 i _ hk;obtain rfl:a'=a:=aa4 (ha'.symm.trans ha);rw[aat hil] at hc;push_cast [and_true];refine ⟨_,hT.get hA,?_⟩;cases e:g hs[i] with
  | none=>
   rw[gx e] at hc;rw[←hc] at q;exact q
  | some v=>
   rw[fk e] at hc;have hG:=hT.val hA e;rw[if_neg (by simp)];exact ⟨_,hG,hc⟩
 ·rintro σ H' ⟨c,v4,rfl,rfl,hc⟩;rw[aa0,h2,aby] at hc;have hc:some c=cost g own hs:=hc;push_cast [and_true];rw[←hc] at q;exact q
noncomputable abbrev j3:Stmt:=top 16
theorem Bb:ax ["place","fitting","least","settled","name","kind","own","holes","price"] ["place","fitting","least"] (ag j3):=⟨rfl,rfl,rfl,by decide+kernel,rfl,by decide+kernel,by decide+kernel⟩
theorem Hd (G:Gs w K mg κ) (h_price_there:Has P w K mg base k "price_there" ["own","holes","least"] ji) (D:Def K mg "settle_part" j3 ["place","fitting","least"]):Has P w K mg base (k+1) "settle_part" ["place","fitting","least"] oz:=by
 refine D.has Bb (λvs H Q E h=>?_) (λf cdv A outer s H vs Q E hr h=>?_)
 ·obtain ⟨_,_,_,_,_,_,_,rfl,_,_,_,_,_,_,_,_⟩:=h;rfl
 have nd:=Bb.nd;have hu:=cb hr;have hu0:=aag hu;obtain ⟨p,fl,d,as,fs,g,n,rfl,hF,hFs,hT,hn,ho,hpos,hnew,q⟩:=h;refine ⟨_,(A4 (A7 3 nd (BO 0)) (A6 (CF (@Ea _ _ _ _ (C3 (A0 3))) (A4 (A7 3 nd (BO 0)) (A6 (AZ (BD (A0 1)) (C4 4 (AT (AM 4 nd (by first | exact aaz rfl | exact ab4 rfl)) (AT (AM 5 nd (by first | exact aaz rfl | exact ab4 rfl)) (AT (AM 6 nd (by first | exact aaz rfl | exact ab4 rfl)) (AT (AM 7 nd (by first | exact aaz rfl | exact ab4 rfl)) (BP 0)))))) (A4 (A7 8 nd (AF h_price_there hr (A1 (A0 6) (A1 (A0 7) (A1 (A0 2) (A3 0)))))) (A6 (AE (B6 (BJ (BC (CG (A0 8)) (by first | exact cq _ (by decide) (by decide) | rfl)) (BM (B6 (BV (BC (CJ hu (AK (A1 (A0 0) (A1 (A0 5) (A3 0)))) (A0 2)) (by first | exact cq _ (by decide) (by decide) | rfl)) (C7 (AB (@j6 _) (A0 8) (BN hu (A0 2) (AK (A1 (A0 0) (A1 (A0 5) (A3 0))))) (A9 0)))))))) (A4 (@Gf _ _ _ _ _ _ _ _ _ hu (A0 2) (AK (A1 (A0 0) (A1 (A0 5) (A3 0)))) (A0 8) rfl) (A6 (A7 3 nd (BO 0)))) (AL 0)))))))))),?_⟩;rw[show start ["place","fitting","least","settled","name","kind","own","holes","price"] [.int (p:Int),.ref fl,.ref d]=[some (.int (p:Int)),some (.ref fl),some (.ref d),none,none,none,none,none,none] from rfl];clear hu hu0 nd hr;push_cast [and_true];have sz:=sizeLine_eq;have hal:=hFs.1;have own:∀f∈fs.map (fo p),1≤f.own:=λf hf=>by
  obtain ⟨f',hf',rfl⟩:=List.mem_map.mp hf;exact ho f' hf'
 obtain ⟨μ,Ok,ok0,okpos,okstep⟩:=ends (F:=fs.map (fo p)) hpos own hT.bound;have cl:∀g',cnt (fs.map (fo p)) g'≤fs.length:=λg'=>by have:=Mj (fs.map (fo p)) g';rw[aa0] at this;exact this
 have keep:∀{H':Hp},ao d H H'→H' fl=some (.lst (as.map V.ref))∧dj H' (λ_=>False) as fs:=λs'=>⟨(Kx.tb (no:=λ_=>False) hT s').l id hF,hFs.kx (Kx.tb hT s')⟩;obtain ⟨P1,eP1⟩:∃P1:L2.St→Hp→Prop,∀σ H',P1 σ H'↔∃(g':Ky→Option Int) (b:Bool) (v4 v5 v6 v7 v8:Option V),σ=[some (.int (p:Int)),some (.ref fl),some (.ref d),some (.bl b),v4,v5,v6,v7,v8]∧ao d H H'∧cz H' d g' (n+cnt (fs.map (fo p)) g')∧SetI p fs g Ok g'∧(b=true→mz (fs.map (fo p)) g'):=⟨_,λ_ _=>abh⟩;refine ja P1 (λσ H'=>2*μ (gOf H' d)+blAt σ) ((eP1 _ _).mpr ⟨g,false,none,none,none,none,none,rfl,ao.refl _ _,hT.mono (aay _ _),⟨ok0,λ_ _=>rfl,λk v hk hv=>by rw[hnew k hk] at hv;cases hv⟩,λe=>nomatch e⟩) ?_ ?_
 ·intro σ H1 hh;refine ob7 ((eP1 _ _).mp hh) λg1 b v4 v5 v6 v7 v8 hh=>?_;have s1:=hh.2.1;have T1:=hh.2.2.1;have I1:=hh.2.2.2.1;have st1:=hh.2.2.2.2;obtain rfl:=hh.1;clear hh;push_cast [and_true];cases b with
  | true=>
   rw[if_neg (by simp)];exact q H1 g1 s1 (T1.mono (by have:=cl g1;omega)) (st1 rfl) I1.far I1.due (okpos g1 I1.ok)
  | false=>
   rw[if_pos (by simp)];obtain ⟨f1,F1⟩:=keep s1;have e1:=Lw T1;obtain ⟨Pv,ePv⟩:∃Pv:Nat→L2.St→Hp→Prop,∀i σ H',Pv i σ H'↔∃(g':Ky→Option Int) (b:Bool) (v4 v5 v6 v7 v8:Option V),σ=[some (.int (p:Int)),some (.ref fl),some (.ref d),some (.bl b),v4,v5,v6,v7,v8]∧ao d H H'∧cz H' d g' (n+cnt (fs.map (fo p)) g')∧SetI p fs g Ok g'∧(b=true→g'=g1∧∀(j:Nat) (f:Pc.Fr),j < i→fs[j]?=some f→M1 p g1 f)∧(b=false→μ g' < μ g1):=⟨_,λ_ _ _=>abh⟩;refine ⟨⟨_,SqL.of f1⟩,gw (xs:=as.map V.ref) Pv ((ePv _ _ _).mpr ⟨g1,true,v4,v5,v6,v7,v8,rfl,s1,T1,I1,λ_=>⟨rfl,λj f h=>absurd h (adb _)⟩,λe=>nomatch e⟩) (λi σ H' _ h=>by obtain ⟨_,_,_,_,_,_,_,_,s,_⟩:=(ePv _ _ _).mp h;exact SqL.of (keep s).1) ?_ ?_⟩
   ·intro i y σ H2 hy hh;refine ob7 ((ePv _ _ _).mp hh) λg2 b v4 v5 v6 v7 v8 hh=>?_;have s2:=hh.2.1;have T2:=hh.2.2.1;have I2:=hh.2.2.2.1;have bt2:=hh.2.2.2.2.1;have bf2:=hh.2.2.2.2.2;obtain rfl:=hh.1;clear hh;rw[aac] at hy;obtain ⟨a,ha,rfl⟩:=Option.map_eq_some_iff.mp hy;have hil:i < fs.length:=by rw[←hal];exact (List.getElem?_eq_some_iff.mp ha).1
    have hfi:fs[i]?=some fs[i]:=aa1 hil;obtain ⟨f2,F2⟩:=keep s2;obtain ⟨a',ha',hl,_,h3,h4⟩:=F2.2 i _ hfi;obtain rfl:a'=a:=aa4 (ha'.symm.trans ha);generalize fs[i]=f at hfi h3 h4;have hfm:=aah hfi;refine Ci h3 rfl ?_;push_cast [and_true];refine Nf h4 T2 ?_;have no:∀H' w4 w5 w6 w7 w8,ak H2 H'→M1 p g2 f→Pv (i+1) [some (.int (p:Int)),some (.ref fl),some (.ref d),some (.bl b),w4,w5,w6,w7,w8] H':=λH' w4 w5 w6 w7 w8 s' so=>(ePv _ _ _).mpr ⟨g2,b,w4,w5,w6,w7,w8,rfl,s2.trans (ao.of s'),T2.same s',I2,λe=>⟨(bt2 e).1,λj f' hj hf'=>by
     obtain ⟨e1',h⟩:=bt2 e;by_cases c:j < i
     ·exact h j f' c hf'
     ·obtain rfl:j=i:=by omega
      obtain rfl:f=f':=aa4 (hfi.symm.trans hf');rw[←e1'];exact so⟩,bf2⟩
    have yes:∀(H':Hp) (b':Addr) (c:Int) w4 w5 w6 w7 w8,ak H2 H'→H' b'=some (kyT (p,f.kind))→cost g2 f.own f.hs=some c→Imp g2 (p,f.kind) c→∃H'',Bn H' d (.ref b') (.int c) H''∧Pv (i+1) [some (.int (p:Int)),some (.ref fl),some (.ref d),some (.bl false),w4,w5,w6,w7,w8] H'':=λH' b' c w4 w5 w6 w7 w8 s' hb hc im=>by
     obtain ⟨o,hput,htb⟩:=(T2.same s').put (v:=c) hb (by have:=cl g2;omega);obtain ⟨ok',lt⟩:=okstep g2 (fo p f) c I2.ok (List.mem_map.mpr ⟨f,hfm,rfl⟩) hc im;refine ⟨upd H' d o,hput,(ePv _ _ _).mpr ⟨iz g2 (p,f.kind) c,false,w4,w5,w6,w7,w8,rfl,(s2.trans (ao.of s')).trans (ao.tb o),htb.mono (cnt_up hfm),I2.put hfm hc im ok',(λe=>nomatch e),λ_=>?_⟩⟩;have lt:μ (iz g2 (p,f.kind) c) < μ g2:=lt;cases b with
     | true=>
      obtain ⟨rfl,_⟩:=bt2 rfl;exact lt
     | false=>
      have:=bf2 rfl;omega
    cases e:cost g2 f.own f.hs with
    | none=>
     push_cast [iy];rw[if_neg (by simp)];exact no H2 _ _ _ _ _ (ak.refl _) (λc hc=>by rw[e] at hc;cases hc)
    | some c=>
     push_cast [iy];rw[if_pos (by simp)];refine ⟨by show (2:Nat)≤sizeLine;decide,λp1 hp1=>⟨_,(T2.same (aa hp1 _)).get (k:=(p,f.kind)) ae,?_⟩⟩;cases e2:g2 (p,f.kind) with
     | none=>
      rw[if_pos (by simp)];exact ⟨by show (2:Nat)≤sizeLine;decide,λp2 hp2=>yes _ p2 c _ _ _ _ _ ((aa hp1 _).trans (aa hp2 _)) ae e (.inl e2)⟩
     | some v=>
      rw[if_neg (by simp)];refine ⟨by show (2:Nat)≤sizeLine;decide,λp2 hp2=>⟨_,(T2.same ((aa hp1 _).trans (aa hp2 _))).val (k:=(p,f.kind)) ae e2,b7 (λlt=>⟨by show (2:Nat)≤sizeLine;decide,λp3 hp3=>yes _ p3 c _ _ _ _ _ ((aa hp1 _).trans ((aa hp2 _).trans (aa hp3 _))) ae e (.inr ⟨v,e2,lt⟩)⟩) λnlt=>no _ _ _ _ _ _ ((aa hp1 _).trans (aa hp2 _)) λc' hc'=>⟨v,e2,?_⟩⟩⟩;rw[e] at hc';have:=aa4 hc';omega
   ·intro σ H2 hh;refine ob7 ((ePv _ _ _).mp hh) λg2 b v4 v5 v6 v7 v8 hh=>?_;have s2:=hh.2.1;have T2:=hh.2.2.1;have I2:=hh.2.2.2.1;have bt2:=hh.2.2.2.2.1;have bf2:=hh.2.2.2.2.2;obtain rfl:=hh.1;clear hh;refine ⟨(eP1 _ _).mpr ⟨g2,b,v4,v5,v6,v7,v8,rfl,s2,T2,I2,λe=>?_⟩,?_⟩
    ·obtain ⟨rfl,h⟩:=bt2 e;exact Hn λj f hf=>h j f (by rw[aa0,hal];exact (List.getElem?_eq_some_iff.mp hf).1) hf
    ·rw[e1,Lw T2];cases b with
     | true=>
      obtain ⟨rfl,_⟩:=bt2 rfl;show 2*μ g2+0 < 2*μ g2+1
      omega
     | false=>
      have:=bf2 rfl;show 2*μ g2+1 < 2*μ g1+1
      omega
 ·intro σ H1 Q1 Q2 h c;simp only[tNot,jl,tB,gz] at c ⊢;obtain ⟨v,hv,cc,e,hq⟩:=c;exact ⟨v,hv,cc,e,h _ _ hq⟩
noncomputable abbrev vv:Stmt:=top 17
theorem Kn:ax ["kind","price","fitting","least"] ["kind","price","fitting","least"] (ag vv):=⟨rfl,rfl,rfl,by decide+kernel,rfl,by decide+kernel,by decide+kernel⟩
theorem hasWith (G:Gs w K mg κ) (h_price_there:Has P w K mg base k "price_there" ["own","holes","least"] ji) (D:Def K mg "rules_with_price" vv ["kind","price","fitting","least"]):Has P w K mg base (k+1) "rules_with_price" ["kind","price","fitting","least"] zv:=by
 refine D.has Kn (λvs H Q E h=>?_) (λf cdv A outer s H vs Q E hr h=>?_)
 ·obtain ⟨_,_,_,_,_,_,_,_,rfl,_,_,_,_,_⟩:=h;rfl
 have nd:=Kn.nd;have hu:=cb hr;have hu0:=aag hu;obtain ⟨k,v,fl,d,as,fs,g,n,rfl,hF,hFs,hn,hT,q⟩:=h;refine ⟨_,(A6 (AD (BT (BI ["name","other","own","holes"] ["kind","least","price"] [0,3,1] (aaj rfl (aaj rfl (aaj rfl trivial))) (aaj (aaj rfl (aaj rfl rfl)) (aaj (aaj rfl (aaj rfl rfl)) (aaj (aaj rfl (aaj rfl rfl)) trivial)))) (BD (A0 2)) (λ_ _ _=>(@G1 _ _ K rfl _ _ _ 4 rfl (AT (B0 0 (show aba (["name","other","own","holes","kind","least","price"]:List Str) by decide+kernel)) (AT (B0 1 (show aba (["name","other","own","holes","kind","least","price"]:List Str) by decide+kernel)) (AT (B0 2 (show aba (["name","other","own","holes","kind","least","price"]:List Str) by decide+kernel)) (AT (B0 3 (show aba (["name","other","own","holes","kind","least","price"]:List Str) by decide+kernel)) (BP 0))))) rfl rfl)) (λ_ _ _=>(BS (B6 (BJ (AB (AR 0) (A0 1) (AA 4) (A9 0)) (BM (AB (AR 0) (AF h_price_there hr (A1 (A0 2) (A1 (A0 3) (A1 (AA 5) (A3 0))))) (AA 6) (A9 0))))))) (λ_ _ _=>(A0 0))))),?_⟩;rw[show start ["kind","price","fitting","least"] [.str k,.int v,.ref fl,.ref d]=[some (.str k),some (.int v),some (.ref fl),some (.ref d)] from rfl];clear hu hu0 nd hr;push_cast [ji];have sz:=sizeLine_eq;have hal:=hFs.1;have one:∀(i:Nat) (t:Addr),as[i]?=some t→∃f hl,fs[i]?=some f∧H t=some (.tup [.str f.name,.str f.kind,.int f.own,.ref hl])∧tq H hl f.hs:=λi t ht=>by
  have hi:i < fs.length:=by rw[←hal];exact (List.getElem?_eq_some_iff.mp ht).1
  obtain ⟨a,h1,hl,_,h3,h4⟩:=hFs.2 i _ (aa1 hi);obtain rfl:a=t:=aa4 (h1.symm.trans ht);exact ⟨_,hl,aa1 hi,h3,h4⟩
 refine ⟨⟨_,SqL.of hF⟩,λD hD=>Cs (as:=as) (λi ys _=>ys=(namesW (fs.take i) g k v).map V.str) (λ_ _ _ _ _ h=>h) rfl (SqL.of hF) (λi t ht=>?_) (by omega) hD rfl (λi t x0 x1 x2 x3 ys H3 G' K' ht hx hP hl2 hS' hG hK'=>?_) λys H3 hP hl2 hS' hD2=>?_⟩
 ·obtain ⟨f,hl,_,h,_⟩:=one i t ht;exact ⟨_,_,_,_,h⟩
 ·obtain ⟨f,hl,hf,h,hh⟩:=one i t ht;rw[hx] at h;simp only[adp,HO.tup.injEq,ace,and_true] at h;obtain ⟨rfl,rfl,rfl,rfl⟩:=h;have et:namesW (fs.take (i+1)) g k v=namesW (fs.take i) g k v++if f.kind=k∧cost g f.own f.hs=some v then [f.name] else []:=by
   unfold namesW;rw[ab6,hf,abf,aa8];congr 1
   show (List.filter _ [f]).map _=_
   rw[aar];by_cases c:f.kind=k∧cost g f.own f.hs=some v
   ·rw[if_pos c,if_pos (decide_eq_true c)];rfl
   ·rw[if_neg c,if_neg (by simpa using c)];rfl
  push_cast [ji];refine ⟨rfl,b7 (λe=>?_) λe=>?_⟩
  ·refine ⟨_,hh.same hS',g,⟨n,hT.same hS'⟩,?_⟩;cases e2:cost g f.own f.hs with
   | none=>
    refine ⟨rfl,?_⟩;rw[if_neg (by intro z;cases z)];refine hG _ (ak.refl _) ?_;rw[et,if_neg (λz=>by rw[e2] at z;cases z.2),ab7];exact hP
   | some c=>
    refine ⟨rfl,b7 (λe3=>?_) λe3=>?_⟩
    ·have e3:c=v:=V.int.inj e3;refine hK' _ _ (ak.refl _) ?_;rw[et,if_pos ⟨e,by rw[e2,e3]⟩,aa8,←hP];rfl
    ·refine hG _ (ak.refl _) ?_;rw[et,if_neg (λz=>e3 (by rw[e2] at z;rw[aa4 z.2])),ab7];exact hP
  ·refine hG _ (ak.refl _) ?_;rw[et,if_neg (λz=>e z.1),ab7];exact hP
 ·rw[abj (by omega)] at hP;exact q D H3 hS' hD (by rw[←hP];exact hD2)
noncomputable abbrev my:Stmt:=top 18
theorem E3:ax ["book","place","fitting","least","rows","kind","price"] ["book","place","fitting","least"] (ag my):=⟨rfl,rfl,rfl,by decide+kernel,rfl,by decide+kernel,by decide+kernel⟩
theorem Mz (G:Gs w K mg κ) (h_rules_with_price:Has P w K mg base k "rules_with_price" ["kind","price","fitting","least"] zv) (D:Def K mg "rows_of_part" my ["book","place","fitting","least"]):Has P w K mg base (k+1) "rows_of_part" ["book","place","fitting","least"] t5:=by
 refine D.has E3 (λvs H Q E h=>?_) (λf cdv A outer s H vs Q E hr h=>?_)
 ·obtain ⟨_,_,_,_,_,_,_,_,_,_,rfl,_,_,_,_,_,_,_⟩:=h;rfl
 have nd:=E3.nd;have hu:=cb hr;have hu0:=aag hu;obtain ⟨b,fl,d,p,kinds,rs,as,fs,g,n,rfl,hB,hkl,hF,hFs,hn,hT,q⟩:=h;have m_sorted:=G.m_sorted;refine ⟨_,(A4 (A7 4 nd (AC (A3 0))) (A4 (AZ (BD (AS (@zm _) m_sorted Lc (A1 (A8 (AG 0) (A0 0) (A2 0)) (A3 0)))) (AM 5 nd (by first | exact aaz rfl | exact ab4 rfl)) (A6 (AE (BC (@L4 _ _ _ _ _ hu (AK (A1 (A0 1) (A1 (A0 5) (A3 0)))) (A0 3)) (by first | exact cq _ (by decide) (by decide) | rfl)) (A4 (A7 6 nd (BN hu (A0 3) (AK (A1 (A0 1) (A1 (A0 5) (A3 0)))))) (A6 (AN (AO PySem.F.plainAttrs_list PySem.F.slot_list_append PySem.F.type_list_append (AV 0) (A0 4) (A1 (AK (A1 (A0 1) (A1 (A0 5) (A1 (A0 6) (A1 (AF h_rules_with_price hr (A1 (A0 5) (A1 (A0 6) (A1 (A0 2) (A1 (A0 3) (A3 0)))))) (A3 0)))))) (A3 0)))))) (AL 0)))) (A6 (AD (A0 4))))),?_⟩;rw[show start ["book","place","fitting","least","rows","kind","price"] [.ref b,.int (p:Int),.ref fl,.ref d]=[some (.ref b),some (.int (p:Int)),some (.ref fl),some (.ref d),none,none,none] from rfl];clear hu hu0 nd hr;push_cast [and_true];have sz:=sizeLine_eq;refine ⟨aa6 _,λrl hrl=>?_⟩;have S1:=aa hrl (.lst []);obtain ⟨kt,rt,ra,hb,hkt,hrt,hRA⟩:=hB;refine au (S1 _ _ hb) rfl ⟨kt,rfl,kinds.map V.str,.inr (SqT.of (S1 _ _ hkt)),by rw[aa0];omega,_,Lj,λkl is hpm hin hk=>?_⟩;rw[zo hpm hin];have S2:=S1.trans (aa hk (.lst ((df kinds).map V.str)));have k2:upd (upd H rl (.lst [])) kl (.lst ((df kinds).map V.str)) kl=some (.lst ((df kinds).map V.str)):=ae;have r2:upd (upd H rl (.lst [])) kl (.lst ((df kinds).map V.str)) rl=some (.lst []):=aa hk _ _ _ ae;generalize upd (upd H rl (.lst [])) kl (.lst ((df kinds).map V.str))=H2 at S2 k2 r2 ⊢;have hks:(df kinds).length≤60:=by rw[qx];exact hkl
 have nrk:rl≠kl:=(af (ae (H:=H) (a:=rl) (o:=.lst [])) hk);obtain ⟨P1,eP1⟩:∃P1:Nat→L2.St→Hp→Prop,∀i σ H',P1 i σ H'↔∃(bs:List Addr) (v5 v6:Option V),σ=[some (.ref b),some (.int (p:Int)),some (.ref fl),some (.ref d),some (.ref rl),v5,v6]∧ak H H'∧H' kl=some (.lst ((df kinds).map V.str))∧H' rl=some (.lst (bs.map V.ref))∧cv H' (λx=>H x≠none∨x=rl) bs (dv ((df kinds).take i) fs p g):=⟨_,λ_ _ _=>abh⟩;refine ⟨⟨_,SqL.of k2⟩,gw (xs:=(df kinds).map V.str) P1 ((eP1 _ _ _).mpr ⟨[],none,none,rfl,S2,k2,r2,cv.nil _ _⟩) (λi σ H' _ h=>by obtain ⟨_,_,_,_,_,hk',_⟩:=(eP1 _ _ _).mp h;exact SqL.of hk') ?_ ?_⟩
 ·intro i y σ H5 hy hh;refine ob3 ((eP1 _ _ _).mp hh) λbs v5 v6 hh=>?_;have s5:=hh.2.1;have k5:=hh.2.2.1;have r5:=hh.2.2.2.1;have R5:=hh.2.2.2.2;obtain rfl:=hh.1;clear hh;rw[aac] at hy;obtain ⟨z,hz,rfl⟩:=Option.map_eq_some_iff.mp hy;have et:dv ((df kinds).take (i+1)) fs p g=dv ((df kinds).take i) fs p g++((g (p,z)).map λv=>(⟨p,z,v,namesW fs g z v⟩:Rw)).toList:=by
   unfold dv;rw[ab6,hz,ae5];congr 1
  have hbl:bs.length≤60:=by
   rw[R5.1];exact aau (abu _ _) (by rw[ab1];omega)
  push_cast [and_true];refine ⟨by show (2:Nat)≤sizeLine;decide,λp1 hp1=>⟨_,(hT.same (s5.trans (aa hp1 _))).get (k:=(p,z)) ae,?_⟩⟩;have s6:=aa hp1 (.tup [V.int (p:Int),V.str z]);generalize upd H5 p1 (.tup [V.int (p:Int),V.str z])=H6 at s6 ⊢;have S6:=s5.trans s6;cases e:g (p,z) with
  | none=>
   rw[if_neg (by simp)];refine (eP1 _ _ _).mpr ⟨bs,_,_,rfl,S6,s6 _ _ k5,s6 _ _ r5,?_⟩;rw[et,e];show cv H6 _ bs (_++[])
   rw[ab7];exact R5.kx (Kx.same s6)
  | some v=>
   rw[if_pos (by simp)];refine ⟨by show (2:Nat)≤sizeLine;decide,λp2 hp2=>⟨_,(hT.same (S6.trans (aa hp2 _))).val (k:=(p,z)) ae e,?_⟩⟩;have s7:=aa hp2 (.tup [V.int (p:Int),V.str z]);generalize upd H6 p2 (.tup [V.int (p:Int),V.str z])=H7 at s7 ⊢;have S7:=S6.trans s7;have s57:=s6.trans s7;refine ⟨aw (s57 _ _ r5),mkWith (S7 _ _ hF) (hFs.kx (Kx.same S7)) hn (hT.same S7) λl H8 s8 hl8 h8=>⟨by show (4:Nat)≤sizeLine;decide,λp3 hp3=>?_⟩⟩;have s9:=aa hp3 (.tup [V.int (p:Int),V.str z,V.int v,V.ref l]);have e9:upd H8 p3 (.tup [V.int (p:Int),V.str z,V.int v,V.ref l]) p3=some (.tup [V.int (p:Int),V.str z,V.int v,V.ref l]):=ae;generalize upd H8 p3 (.tup [V.int (p:Int),V.str z,V.int v,V.ref l])=H9 at s9 e9 ⊢;have s59:=s57.trans (s8.trans s9);have r9:=s59 _ _ r5;refine (ba (K:=K) r9 (by rw[aa0];omega) ((eP1 _ _ _).mpr ⟨bs++[p3],_,_,rfl,(s5.trans s59).upd hrl _,by rw[ah nrk.symm];exact s59 _ _ k5,by rw[ae,aa8];rfl,?_⟩)).2;rw[et,e];refine cv.kx (cv.append (R5.kx (Kx.same s59)) (cv.one ⟨l,?_,e9,s9 _ _ h8⟩)) ((Kx.upd r9).weak λx hx=>.inr hx);rintro (y | y)
   ·exact y (S7.free hl8)
   ·exact (af (s57 _ _ r5) hl8) y.symm
 ·intro σ H5 hh;refine ob3 ((eP1 _ _ _).mp hh) λbs v5 v6 hh=>?_;have s5:=hh.2.1;have k5:=hh.2.2.1;have r5:=hh.2.2.2.1;have R5:=hh.2.2.2.2;obtain rfl:=hh.1;clear hh;push_cast [and_true];rw[aa0,abp] at R5;exact q rl bs H5 s5 hrl r5 (R5.weak λx hx=>.inl hx)
noncomputable abbrev nq:Stmt:=top 19
theorem Gj:ax ["book","words","least","parts","place","fitting","rows","part"] ["book","words"] (ag nq):=⟨rfl,rfl,rfl,by decide+kernel,rfl,by decide+kernel,by decide+kernel⟩
theorem Jt (G:Gs w K mg κ) (h_fitting_rules:Has P w K mg base k "fitting_rules" ["book","words","place"] mf) (h_rows_of_part:Has P w K mg base k "rows_of_part" ["book","place","fitting","least"] t5) (h_settle_part:Has P w K mg base k "settle_part" ["place","fitting","least"] oz) (D:Def K mg "rows_with_all_rules" nq ["book","words"]):Has P w K mg base (k+1) "rows_with_all_rules" ["book","words"] zh:=by
 refine D.has Gj (λvs H Q E h=>?_) (λf cdv A outer s H vs Q E hr h=>?_)
 ·obtain ⟨_,_,_,_,_,rfl,_,_,_,_,_⟩:=h;rfl
 have nd:=Gj.nd;have hu:=cb hr;have hu0:=aag hu;obtain ⟨b,wt,kinds,rs,ws,rfl,hB,hW,bk,tw,q⟩:=h;have m_len:=G.m_len;have m_range:=G.m_range;have m_reversed:=G.m_reversed;refine ⟨_,(A4 (A7 2 nd (@B1 _ _)) (A4 (A7 3 nd (AC (A3 0))) (A4 (AZ (@Hk _ _ _ _ _ _ _ _ rfl m_range (A1 (A5 (B7 0) (AS (AX 0) m_len dr (A1 (A0 1) (A3 0))) (A2 0)) (A1 (CK (@um _) (A2 0)) (A1 (CK (@um _) (A2 0)) (A3 0)))) rfl rfl) (AM 4 nd (by first | exact aaz rfl | exact ab4 rfl)) (A4 (A7 5 nd (AF h_fitting_rules hr (A1 (A0 0) (A1 (A0 1) (A1 (A0 4) (A3 0)))))) (A4 (AN (AF h_settle_part hr (A1 (A0 4) (A1 (A0 5) (A1 (A0 2) (A3 0)))))) (A6 (AN (AO PySem.F.plainAttrs_list PySem.F.slot_list_append PySem.F.type_list_append (AV 0) (A0 3) (A1 (AF h_rows_of_part hr (A1 (A0 0) (A1 (A0 4) (A1 (A0 5) (A1 (A0 2) (A3 0)))))) (A3 0)))))))) (A4 (A7 6 nd (AC (A3 0))) (A4 (AZ (@pi_rev _ _ _ _ _ _ rfl m_reversed (A1 (A0 3) (A3 0)) rfl) (AM 7 nd (by first | exact aaz rfl | exact ab4 rfl)) (A6 (AN (AO PySem.F.plainAttrs_list PySem.F.slot_list_extend PySem.F.type_list_extend (@i5 _) (A0 6) (A1 (A0 7) (A3 0)))))) (A6 (AD (A0 6)))))))),?_⟩;rw[show start ["book","words","least","parts","place","fitting","rows","part"] [.ref b,.ref wt]=[some (.ref b),some (.ref wt),none,none,none,none,none,none] from rfl];clear hu hu0 nd hr;push_cast [and_true];have sz:=sizeLine_eq;have wl:=tw.len;have rl:=bk.len;push_cast [Dr,iDn];intro d hd;refine ⟨aa6 _,λpl hpl=>?_⟩;have S1:=aa hd (.dT []);have S2:=S1.trans (aa hpl (.lst []));have npd:pl≠d:=(af (ae (H:=H) (a:=d) (o:=.dT [])) hpl).symm;have d2:cz (upd (upd H d (.dT [])) pl (.lst [])) d (λ_=>none) 0:=(cz.nil (H:=H) (d:=d)).same (aa hpl _);have p2:upd (upd H d (.dT [])) pl (.lst []) pl=some (.lst []):=ae;have fpl:H pl=none:=S1.free hpl;generalize upd (upd H d (.dT [])) pl (.lst [])=H2 at S2 d2 p2 ⊢;refine ⟨ws,.inr (SqT.of (S2 _ _ hW)),ws.length,rfl,by omega,?_⟩;have fl100:∀i,(bq kinds rs ws i).length≤100:=λi=>aau (Md kinds rs ws i) rl;obtain ⟨P1,eP1⟩:∃P1:Nat→L2.St→Hp→Prop,∀i σ H',P1 i σ H'↔∃(g:Ky→Option Int) (pa:List Addr) (v4 v5:Option V),σ=[some (.ref b),some (.ref wt),some (.ref d),some (.ref pl),v4,v5,none,none]∧ak H H'∧cz H' d g ((ws.length - i)*100)∧xt kinds rs ws i g∧H' pl=some (.lst (pa.map V.ref))∧gr H H' pl pa kinds rs ws i g:=⟨_,λ_ _ _=>abh⟩;refine O2 (n:=ws.length) P1 ((eP1 _ _ _).mpr ⟨λ_=>none,[],none,none,rfl,S2,d2.mono (aa6 _),xt.start kinds rs ws,p2,⟨by simp,λq h1 h2=>by omega⟩⟩) ?_ ?_
 ·intro i σ H5 hi hh;refine ob4 ((eP1 _ _ _).mp hh) λg pa v4 v5 hh=>?_;have s5:=hh.2.1;have T5:=hh.2.2.1;have O5:=hh.2.2.2.1;have p5:=hh.2.2.2.2.1;have P5:=hh.2.2.2.2.2;obtain rfl:=hh.1;clear hh;have fi:=fl100 i;push_cast [and_true];refine Ih (hB.same s5) (s5 _ _ hW) bk tw hi λfl as H6 s6 hfl f6 F6=>?_;refine Kf f6 (F6.weak (λ_ h=>h.elim)) (T5.same s6) (by omega) (λf hf=>(i9 bk hf).1) O5.pos (λk hk=>?_) λH7 g' s7 T7 st7 far7 due7 pos7=>?_
  ·cases e:g k with
   | none=>rfl
   | some v=>
    have:=(O5.at' k v e).1;omega
  have S7:ak H H7:=λc o h=>s7 c o (af h hd) ((s5.trans s6) c o h);have x7:∀{no:Addr→Prop},Kx no H6 H7:=Kx.tb (T5.same s6) s7;have p7:=x7.l (no:=λ_=>False) id (s6 _ _ p5);have f7:=x7.l (no:=λ_=>False) id f6;refine ⟨aw p7,P0 (hB.same S7) bk.kl f7 ((F6.weak (no':=λ_=>False) (λ_ h=>h.elim)).kx x7) (by omega) T7 λl bs H8 s8 hl8 h8 R8=>?_⟩;have p8:=s8 _ _ p7;have pal:=P5.1;refine (ba (K:=K) p8 (by rw[aa0];omega) ((eP1 _ _ _).mpr ⟨g',pa++[l],_,_,rfl,(S7.trans s8).upd fpl _,((T7.same s8).at λo e=>by rw[ah npd.symm];exact e).mono (by omega),xt.step bk O5 hi st7 far7 due7 pos7,by rw[ae,aa8];rfl,?_⟩)).2;refine gr.kx (gr.snoc bk (P5.kx ((Kx.same s6).trans (x7.trans (Kx.same s8)))) hi far7 ?_ h8 (R8.weak λx hx=>?_)) ((Kx.upd p8).weak λx hx=>.inr hx)
  ·rintro (y | y)
   ·exact y (S7.free hl8)
   ·exact (af p7 hl8) y.symm
  ·rcases hx with y | y
   ·intro z;exact y (S7.free z)
   ·intro z;rw[y,p7] at z;cases z
 ·intro σ H5 hh;refine ob4 ((eP1 _ _ _).mp hh) λg pa v4 v5 hh=>?_;have s5:=hh.2.1;have T5:=hh.2.2.1;have O5:=hh.2.2.2.1;have p5:=hh.2.2.2.2.1;have P5:=hh.2.2.2.2.2;obtain rfl:=hh.1;clear hh;have pal:=P5.1;push_cast [and_true];refine ⟨aa6 _,λrl2 hrl=>⟨_,SqL.of (aa hrl _ _ _ p5),?_⟩⟩;refine Mg (xs:=pa.map V.ref) (λi σ H'=>∃(bs:List Addr) (v7:Option V),σ=[some (.ref b),some (.ref wt),some (.ref d),some (.ref pl),v4,v5,some (.ref rl2),v7]∧ak H5 H'∧H' rl2=some (.lst (bs.map V.ref))∧cv H5 (λx=>H x≠none) bs (m6 kinds rs ws g i)) ⟨[],none,rfl,aa hrl _,ae,cv.nil _ _⟩ (λi σ H' _ h=>by obtain ⟨_,_,_,s,_⟩:=h;exact SqL.of (s _ _ p5)) ?_ ?_
  ·rintro i y σ H6 hi hy ⟨bs,v7,rfl,s6,r6,R6⟩;rw[aa0] at hi hy;have hiw:i < ws.length:=by omega
   obtain ⟨a,bs2,g1,g2,g3,g4⟩:=P5.2 i (aa6 _) hiw;rw[aac,pal,show ws.length - 0 - 1 - i=ws.length - 1 - i by omega,g1] at hy;have hy:V.ref a=y:=aa4 hy;subst hy;push_cast [and_true];have bl:bs.length≤60*i:=by rw[R6.1];exact m4 kinds rs ws g bk.kl i
   have bl2:bs2.length≤60:=by rw[g4.1];exact aau (vn _ _ _ _) (by rw[qx];exact bk.kl)
   refine ⟨aw r6,rl2,a,bs.map V.ref,bs2.map V.ref,rfl,rfl,r6,s6 _ _ g3,by rw[aa0,aa0];omega,?_⟩;refine ⟨s6.upd hrl _,bs++bs2,by rw[ae,aa8],?_⟩;rw[kq];exact R6.append (g4.weak λx hx=>.inl hx)
  ·rintro σ H6 ⟨bs,v7,rfl,s6,r6,R6⟩;push_cast [and_true];rw[aa0,pal,ack] at R6;exact q rl2 bs H6 g (s5.trans s6) (s5.free hrl) r6 O5.tbl (R6.kx (Kx.same s6))
noncomputable abbrev jq:Stmt:=top 20
theorem Dc:ax ["book","words"] ["book","words"] (ag jq):=⟨rfl,rfl,rfl,by decide+kernel,rfl,by decide+kernel,by decide+kernel⟩
theorem Il (G:Gs w K mg κ) (h_rows_with_all_rules:Has P w K mg base k "rows_with_all_rules" ["book","words"] zh) (D:Def K mg "prices" jq ["book","words"]):Has P w K mg base (k+1) "prices" ["book","words"] ko:=by
 refine D.has Dc (λvs H Q E h=>?_) (λf cdv A outer s H vs Q E hr h=>?_)
 ·obtain ⟨_,_,_,_,_,rfl,_,_,_,_,_⟩:=h;rfl
 have nd:=Dc.nd;have hu:=cb hr;have hu0:=aag hu;obtain ⟨b,wt,kinds,rs,ws,rfl,hB,hW,bk,tw,q⟩:=h;refine ⟨_,(A6 (AD (BT (BI ["place","kind","price","rules"] [] [] trivial trivial) (BD (AF h_rows_with_all_rules hr (A1 (A0 0) (A1 (A0 1) (A3 0))))) (λ_ _ _=>(@G1 _ _ K rfl _ _ _ 4 rfl (AT (B0 0 (show aba (["place","kind","price","rules"]:List Str) by decide+kernel)) (AT (B0 1 (show aba (["place","kind","price","rules"]:List Str) by decide+kernel)) (AT (B0 2 (show aba (["place","kind","price","rules"]:List Str) by decide+kernel)) (AT (B0 3 (show aba (["place","kind","price","rules"]:List Str) by decide+kernel)) (BP 0))))) rfl rfl)) (λ_ _ _=>(@pif0 _)) (λ_ _ _=>(AK (A1 (A0 0) (A1 (A0 1) (A1 (A0 2) (A1 (A8 (@vm _ K rfl) (A0 3) (A2 0)) (A3 0)))))))))),?_⟩;rw[show start ["book","words"] [.ref b,.ref wt]=[some (.ref b),some (.ref wt)] from rfl];clear hu hu0 nd hr;push_cast [and_true];have sz:=sizeLine_eq;refine ⟨b,wt,kinds,rs,ws,rfl,hB,hW,bk,tw,λl as H1 g s1 hl h1 T R=>⟨l,rfl,⟨_,SqL.of h1⟩,λD hD=>?_⟩⟩;have rl:=nk (g:=g) bk tw;have hal:=R.1;refine Cs (as:=as) (λi ys H'=>∃bs:List Addr,ys=bs.map V.ref∧tm H' bs ((rowsOf kinds rs ws g).take i)) (λi ys H' H'' tk h=>by obtain ⟨bs,h1,h2⟩:=h;exact ⟨bs,h1,h2.tk tk⟩) rfl (SqL.of h1) (λi t ht=>?_) (by omega) hD ⟨[],rfl,rfl,λj r h=>by simp at h⟩ (λi t x0 x1 x2 x3 ys H3 G' K' ht hx hP hl2 hS' hG hK'=>?_) λys H3 hP hl2 hS' hD2=>?_
 ·obtain ⟨r,nl,_,h,_⟩:=R.get ht;exact ⟨_,_,_,_,h⟩
 ·obtain ⟨r,nl,hr,h,hn⟩:=R.get ht;rw[hx] at h;simp only[adp,HO.tup.injEq,ace,and_true] at h;obtain ⟨rfl,rfl,rfl,rfl⟩:=h;obtain ⟨nm,hnm⟩:=m7 T (aah hr);obtain ⟨bs,rfl,hb⟩:=hP;push_cast [and_true];refine ay (v:=.str nm) (hS' _ _ hn) ?_ ⟨by show (4:Nat)≤sizeLine;decide,λpr hpr=>?_⟩
  ·cases e:r.names with
   | nil=>rw[e] at hnm;cases hnm
   | cons y ys=>rw[e] at hnm;cases hnm;exact bb (j:=0) rfl
  ·refine hK' _ _ (aa hpr _) ⟨bs++[pr],by rw[aa8];rfl,?_⟩;rw[ab6,hr];exact (hb.same (aa hpr _)).snoc hnm ae
 ·obtain ⟨bs,rfl,hb⟩:=hP;rw[abj (by omega)] at hb;exact q D bs H3 g (s1.trans hS') (s1.free hD) hD2 T hb
noncomputable abbrev og:Stmt:=top 22
theorem Fl:ax ["book","name","words","place","kind","rule","under"] ["book","name","words","place","kind"] (ag og):=⟨rfl,rfl,rfl,by decide+kernel,rfl,by decide+kernel,by decide+kernel⟩
theorem Ld (G:Gs w K mg κ) (h_laid:Has P w K mg base k "laid" ["shape","kinds","words","place"] (xh K)) (D:Def K mg "laid_rule" og ["book","name","words","place","kind"]):jd P w K mg base (k+1) "laid_rule" ["book","name","words","place","kind"] (ke κ):=by
 refine D.hasX Fl (λvs H Q E h=>?_) (λf cdv A outer s H vs Q E hr h=>?_)
 ·obtain ⟨_,_,_,_,_,_,_,_,rfl,_,_,_,_,_,_,_,_,_⟩:=h;rfl
 have nd:=Fl.nd;have hu:=cb hr;have hu0:=aag hu;obtain ⟨b,wt,kinds,rs,ws,p,nm,kd,rfl,hB,hW,bk,tw,hp,hnm,hkd,q,e⟩:=h;have m_BadCover:=G.er.m_badCover;refine ⟨_,(A4 (@En _ _ _ _ _ _ _ _ (@vo _ _ Aa) rfl (BL (A8 (AG 0) (A0 0) (A2 0))) (AM 5 nd (by first | exact aaz rfl | exact ab4 rfl)) (A6 (AE (B6 (BJ (AB (AR 0) (A8 (AG 0) (A0 5) (A2 0)) (A0 1) (A9 0)) (BM (AB (AR 0) (A8 (AG 0) (A0 5) (A2 0)) (A0 4) (A9 0))))) (A4 (A7 6 nd (AF h_laid hr (A1 (A8 (AG 0) (A0 5) (A2 0)) (A1 (A8 (AG 0) (A0 0) (A2 0)) (A1 (A0 2) (A1 (A0 3) (A3 0))))))) (A6 (AE (BC (CG (A0 6)) (by first | exact cq _ (by decide) (by decide) | rfl)) (A6 (AD (AK (A1 (A0 5) (A1 (A0 6) (A3 0)))))) (AL 0)))) (AL 0))) (by intro _;rfl)) (A6 (CL G.er.x_badCover G.i_BadCover hr m_BadCover (A1 (@Nm _ _ _ _ _ _ _ (@pf_r _ _ _ _ _ _ _ (A0 1) (@pf_c _ _ _ _ _ _ _ (@pf_r _ _ _ _ _ _ _ (A0 4) (@pf_c _ _ _ _ _ _ _ (@pf_i _ _ _ _ _ _ _ (A0 3) (@pf_nil _)) (by decide+kernel))) (by decide+kernel))) (by decide)) (A3 0))))),?_⟩;rw[show start ["book","name","words","place","kind","rule","under"] [.ref b,.str nm,.ref wt,.int (p:Int),.str kd]=[some (.ref b),some (.str nm),some (.ref wt),some (.int (p:Int)),some (.str kd),none,none] from rfl];clear hu hu0 nd hr;push_cast [and_true];have sz:=sizeLine_eq;have rl:=bk.len;have twl:=tw.len;obtain ⟨kt,rt,ra,hb,hkt,hrt,hRA⟩:=id hB;refine au hb rfl ⟨rt,rfl,⟨_,SqT.of hrt⟩,?_⟩;obtain ⟨P1,eP1⟩:∃P1:Nat→L2.St→Hp→Prop,∀j σ H',P1 j σ H'↔∃(v5 v6:Option V),σ=[some (.ref b),some (.str nm),some (.ref wt),some (.int (p:Int)),some (.str kd),v5,v6]∧ak H H'∧∀(i:Nat) (x:Rl),i < j→rs[i]?=some x→x.name=nm→x.kind=kd→bu kinds ws x.shape p ⟨[],[],[]⟩=none:=⟨_,λ_ _ _=>abh⟩;refine gd (xs:=ra.map V.ref) P1 ((eP1 _ _ _).mpr ⟨none,none,rfl,ak.refl _,λi x h=>absurd h (adb _)⟩) (λj σ H' _ h=>by obtain ⟨_,_,_,s,_⟩:=(eP1 _ _ _).mp h;exact SqT.of (s _ _ hrt)) ?_ ?_
 ·intro j y σ H5 hy hh;obtain ⟨v5,v6,rfl,s5,hno⟩:=(eP1 _ _ _).mp hh;rw[aac] at hy;obtain ⟨aj,haj,rfl⟩:=Option.map_eq_some_iff.mp hy;have hjl:j < rs.length:=by rw[←hRA.1];exact (List.getElem?_eq_some_iff.mp haj).1
  have hrj:rs[j]?=some rs[j]:=aa1 hjl;obtain ⟨a',ha',hR⟩:=hRA.2 j _ hrj;obtain rfl:a'=aj:=aa4 (ha'.symm.trans haj);generalize rs[j]=x at hrj hR;have more:(x.name=nm→x.kind=kd→bu kinds ws x.shape p ⟨[],[],[]⟩=none)→∀(i:Nat) (y:Rl),i < j+1→rs[i]?=some y→y.name=nm→y.kind=kd→bu kinds ws y.shape p ⟨[],[],[]⟩=none:=λhx i y hi hyi=>by
   rcases aeh i j with z | z
   ·exact hno i y z hyi
   ·obtain rfl:i=j:=by omega
    obtain rfl:x=y:=aa4 (hrj.symm.trans hyi);exact hx
  obtain ⟨sa,da,ds,g1,g2,g3⟩:=id hR;push_cast [and_true];refine au (s5 _ _ g1) rfl ⟨rfl,?_⟩;by_cases c:x.name=nm
  ·refine ifY (by rw[c]) (au (s5 _ _ g1) rfl ⟨rfl,?_⟩);by_cases c2:x.kind=kd
   ·obtain ⟨n,hn⟩:=tw.eat hp;obtain ⟨w1,w2,w3⟩:=bk.sh x (aah hrj);refine ifY (by rw[c2]) (au (s5 _ _ g1) rfl (au (s5 _ _ hb) rfl (Je (n:=n) (SqT.of (s5 _ _ g2)) (SqT.of (s5 _ _ hkt)) (SqT.of (s5 _ _ hW)) bk.kd w1 (λv hv=>(tw.w v hv).1) w2 hn (by omega) twl λH6 s6=>?_)));cases hu:bu kinds ws x.shape p ⟨[],[],[]⟩ with
    | none=>
     refine ly ?_;push_cast [iy];rw[if_neg (by simp)];exact (eP1 _ _ _).mpr ⟨_,_,rfl,s5.trans s6,more λ_ _=>hu⟩
    | some u=>
     intro t H7 s7 hu7 ok7;push_cast [iy];rw[if_pos (by simp)];refine ⟨by show (2:Nat)≤sizeLine;decide,λpr hpr=>?_⟩;have S7:=(s5.trans s6).trans s7;have s8:=aa hpr (.tup [V.ref a',V.ref t]);refine q (x,u) ?_ pr _ (S7.trans s8) ⟨a',t,ae,hR.same (S7.trans s8),hu7.same s8⟩;rw[←c,←c2,qd bk hrj,hu];rfl
   ·exact ifN (by simpa using c2) ((eP1 _ _ _).mpr ⟨_,_,rfl,s5,more λ_ z=>absurd z c2⟩)
  ·exact ifN (by simpa using c) ((eP1 _ _ _).mpr ⟨_,_,rfl,s5,more λz=>absurd z c⟩)
 ·intro σ H5 hh;obtain ⟨v5,v6,rfl,s5,hno⟩:=(eP1 _ _ _).mp hh;push_cast [ow,tFmts,tFR,tFI,tF0];refine ⟨hnm.1,hnm.2,hkd.1,hkd.2,?_,λm=>⟨by show (1:Nat)≤100;decide,e (Io λi x hi=>hno i x ?_ hi) H5 s5⟩⟩
  ·show p.log2 < 1920
   exact acu (Nat.log2_le_self p) (by omega)
  ·rw[aa0,hRA.1];exact (List.getElem?_eq_some_iff.mp hi).1
noncomputable abbrev ux:Stmt:=top 23
theorem L6:ax ["book","step","rule"] ["book","step"] (ag ux):=⟨rfl,rfl,rfl,by decide+kernel,rfl,by decide+kernel,by decide+kernel⟩
theorem Qm (G:Gs w K mg κ) (h_holes_under:Has P w K mg base k "holes_under" ["shape","kinds","under"] (km K)) (D:Def K mg "last_hole_first" ux ["book","step"]):Has P w K mg base (k+1) "last_hole_first" ["book","step"] xb:=by
 refine D.has L6 (λvs H Q E h=>?_) (λf cdv A outer s H vs Q E hr h=>?_)
 ·obtain ⟨_,_,_,_,_,_,rfl,_,_,_,_,_,_⟩:=h;rfl
 have nd:=L6.nd;have hu:=cb hr;have hu0:=aag hu;obtain ⟨b,t,kinds,rs,r,u,rfl,hB,bk,hr0,hS,hn,q⟩:=h;have m_list:=G.m_list;have m_reversed:=G.m_reversed;refine ⟨_,(A4 (A7 2 nd (A8 (AG 0) (A0 1) (A2 0))) (A6 (AD (@wu _ _ _ _ _ _ _ rfl rfl m_list rfl m_reversed (A1 (AF h_holes_under hr (A1 (A8 (AG 0) (A0 2) (A2 0)) (A1 (A8 (AG 0) (A0 0) (A2 0)) (A1 (A8 (AG 0) (A0 1) (A2 0)) (A3 0))))) (A3 0)) rfl rfl)))),?_⟩;rw[show start ["book","step","rule"] [.ref b,.ref t]=[some (.ref b),some (.ref t),none] from rfl];clear hu hu0 nd hr;push_cast [and_true];have sz:=sizeLine_eq;obtain ⟨kt,rt,ra,hb,hkt,hrt,hRA⟩:=id hB;obtain ⟨ro,ut,t1,hR,hU⟩:=hS;obtain ⟨sa,da,ds,g1,g2,g3⟩:=id hR;obtain ⟨w1,w2,w3⟩:=bk.sh r hr0;refine au t1 rfl ?_;push_cast [tLR];refine au g1 rfl (au hb rfl (au t1 rfl (Cq (SqT.of g2) (SqT.of hkt) hU bk.kd w1 (by omega) hn λl H1 s1 hl h1=>?_)));obtain ⟨as,e1,e2,e3⟩:=h1;refine ⟨l,rfl,_,SqL.of e1,λp hp=>?_⟩;have s2:=aa hp (.lst (as.map V.ref).reverse);refine q p _ (s1.trans s2) (s1.free hp) ⟨as.reverse,by rw[ae,aes],by rw[aaq,aaq,e2],λj k hj=>?_⟩;have hjl:=(List.getElem?_eq_some_iff.mp hj).1;rw[aaq] at hjl;rw[ac4 hjl] at hj;obtain ⟨a,a1,a2⟩:=e3 _ k hj;refine ⟨a,?_,s2 _ _ a2⟩;rw[ac4 (by rw[e2];exact hjl),e2];exact a1
noncomputable abbrev jx:Stmt:=top 24
theorem Ba:ax ["book","words","place","kind","cover","steps","waiting","name","hole","step"] ["book","words","place","kind","cover"] (ag jx):=⟨rfl,rfl,rfl,by decide+kernel,rfl,by decide+kernel,by decide+kernel⟩
theorem G5 (G:Gs w K mg κ) (h_laid_rule:jd P w K mg base k "laid_rule" ["book","name","words","place","kind"] (ke κ)) (h_last_hole_first:Has P w K mg base k "last_hole_first" ["book","step"] xb) (D:Def K mg "laid_cover" jx ["book","words","place","kind","cover"]):jd P w K mg base (k+1) "laid_cover" ["book","words","place","kind","cover"] (qj κ):=by
 refine D.hasX Ba (λvs H Q E h=>?_) (λf cdv A outer s H vs Q E hr h=>?_)
 ·obtain ⟨_,_,_,_,_,_,_,_,_,rfl,_,_,_,_,_,_,_,_,_,_,_,_⟩:=h;rfl
 have nd:=Ba.nd;have hu:=cb hr;have hu0:=aag hu;obtain ⟨b,wt,ct,kinds,rs,ws,p,kd,ns,rfl,hB,hW,hC,bk,tw,hp,hkd,hkz,hnz,hnl,q,e⟩:=h;have m_BadCover:=G.er.m_badCover;have m_len:=G.m_len;refine ⟨_,(A4 (A7 5 nd (AC (A3 0))) (A4 (A7 6 nd (AC (A1 (AK (A1 (A0 2) (A1 (A0 3) (A3 0)))) (A3 0)))) (A4 (@En _ _ _ _ _ _ _ _ (@vo _ _ Aa) rfl (BL (A0 4)) (AM 7 nd (by first | exact aaz rfl | exact ab4 rfl)) (A4 (AE (AB (AR 0) (AS (AX 0) m_len dr (A1 (A0 6) (A3 0))) (A2 0) (A9 0)) (A6 (CL G.er.x_badCover G.i_BadCover hr m_BadCover (A1 (@Pk _ _ _ _ _ _ _ _ (A0 7) (by decide+kernel)) (A3 0)))) (AL 0)) (A4 (A7 8 nd (BW PySem.F.plainAttrs_list PySem.F.slot_list_pop PySem.F.type_list_pop (@mx _) (A0 6))) (A4 (A7 9 nd (CP h_laid_rule hr (A1 (A0 0) (A1 (A0 7) (A1 (A0 1) (A1 (A8 (AG 0) (A0 8) (A2 0)) (A1 (A8 (AG 0) (A0 8) (A2 0)) (A3 0)))))))) (A4 (AN (AO PySem.F.plainAttrs_list PySem.F.slot_list_append PySem.F.type_list_append (AV 0) (A0 5) (A1 (A0 9) (A3 0)))) (A6 (AN (AO PySem.F.plainAttrs_list PySem.F.slot_list_extend PySem.F.type_list_extend (@i5 _) (A0 6) (A1 (AF h_last_hole_first hr (A1 (A0 0) (A1 (A0 9) (A3 0)))) (A3 0))))))))) (by intro _;rfl)) (A4 (AE (AB (BG 0) (AS (AX 0) m_len dr (A1 (A0 6) (A3 0))) (A2 0) (A9 0)) (A6 (CL G.er.x_badCover G.i_BadCover hr m_BadCover (A1 (AJ 0) (A3 0)))) (AL 0)) (A6 (AD (A0 5))))))),?_⟩;rw[show start ["book","words","place","kind","cover","steps","waiting","name","hole","step"] [.ref b,.ref wt,.int (p:Int),.str kd,.ref ct]=[some (.ref b),some (.ref wt),some (.int (p:Int)),some (.str kd),some (.ref ct),none,none,none,none,none] from rfl];clear hu hu0 nd hr;push_cast [and_true];have sz:=sizeLine_eq;refine ⟨aa6 _,λsl hsl=>⟨by show (2:Nat)≤sizeLine;decide,λp2 hp2=>⟨by show (1:Nat)≤sizeLine;decide,λwl hwl=>?_⟩⟩⟩;have s3:=aa hsl (.lst []);have s4:=aa hp2 (.tup [V.int (p:Int),V.str kd]);have s5:=aa hwl (.lst [V.ref p2]);have S5:=s3.trans (s4.trans s5);have fwl:=(s3.trans s4).free hwl;have nsw:sl≠wl:=af (s4 _ _ (ae (H:=H) (a:=sl) (o:=.lst []))) hwl;have c5:=(s4.trans s5) _ _ (ae (H:=H) (a:=sl) (o:=.lst []));have p5:=s5 _ _ (ae (H:=upd H sl (.lst [])) (a:=p2) (o:=.tup [V.int (p:Int),V.str kd]));have w5:upd (upd (upd H sl (.lst [])) p2 (.tup [V.int (p:Int),V.str kd])) wl (.lst [V.ref p2]) wl=some (.lst [V.ref p2]):=ae;generalize upd (upd (upd H sl (.lst [])) p2 (.tup [V.int (p:Int),V.str kd])) wl (.lst [V.ref p2])=H5 at s5 S5 c5 p5 w5 ⊢;obtain ⟨P1,eP1⟩:∃P1:Nat→L2.St→Hp→Prop,∀j σ H',P1 j σ H'↔∃(as bs:List Addr) (ds:List (Rl×Und)) (st:List Ky) (v7 v8 v9:Option V),σ=[some (.ref b),some (.ref wt),some (.int (p:Int)),some (.str kd),some (.ref ct),some (.ref sl),some (.ref wl),v7,v8,v9]∧ak H H'∧H' sl=some (.lst (as.map V.ref))∧gk H' as ds∧H' wl=some (.lst (bs.map V.ref))∧KsL H' bs st.reverse∧KyOk ws st∧st.length≤1+100*j∧ds.length≤j∧bp kinds rs ws ns [(p,kd)]=(bp kinds rs ws (ns.drop j) st).map (ds++·):=⟨_,λ_ _ _=>abh⟩;refine ⟨⟨_,SqT.of (S5 _ _ hC)⟩,gd (xs:=ns.map V.str) P1 ((eP1 _ _ _).mpr ⟨[],[p2],[],[(p,kd)],none,none,none,rfl,S5,c5,gk.nil _,w5,KsL.one p5,λk hk=>by rw[List.mem_singleton.mp hk];exact ⟨hp,hkd⟩,by show (1:Nat)≤_;omega,aa3 _,by rw[List.drop_zero];simp⟩) (λj σ H' _ h=>by obtain ⟨_,_,_,_,_,_,_,_,s,_⟩:=(eP1 _ _ _).mp h;exact SqT.of (s _ _ hC)) ?_ ?_⟩
 ·intro j y σ H6 hy hh;obtain ⟨as,bs,ds,st,v7,v8,v9,rfl,s6,c6,D6,w6,K6,k6,sl6,dl6,cw⟩:=(eP1 _ _ _).mp hh;rw[aac] at hy;obtain ⟨nm,hnm,rfl⟩:=Option.map_eq_some_iff.mp hy;have hjl:j < ns.length:=(List.getElem?_eq_some_iff.mp hnm).1;have ed:ns.drop j=nm::ns.drop (j+1):=by
   rw[aat hjl];congr 1
   exact (List.getElem?_eq_some_iff.mp hnm).2
  rw[ed] at cw;have nmt:=hnz nm (aah hnm);push_cast [ow,Co];have bl:=K6.1;rw[aaq] at bl;refine ⟨_,.inl (SqL.of w6),rfl,?_⟩;rw[aa0,bl];cases st with
  | nil=>
   refine ifY rfl ⟨nmt.1,by have:=nmt.2;omega,λm=>⟨by show (1:Nat)≤100;decide,e ?_ H6 s6⟩⟩;rw[cw];rfl
  | cons k st=>
   obtain ⟨bs',a,rfl,K6',hk⟩:=K6.pop;refine ifN (by rw[aai];omega) ?_;rw[aa8] at w6;refine n6 (xs:=bs'.map V.ref) (y:=.ref a) w6 ?_;have sA:=s6.upd fwl (.lst (bs'.map V.ref));have tkA:TK H6 (upd H6 wl (.lst (bs'.map V.ref))):=TK.put w6 (λ_ z=>nomatch z);have wA:upd H6 wl (.lst (bs'.map V.ref)) wl=some (.lst (bs'.map V.ref)):=ae;have cA:upd H6 wl (.lst (bs'.map V.ref)) sl=some (.lst (as.map V.ref)):=by rw[ah nsw];exact c6
   have hkA:=tkA _ _ hk;have DA:=D6.tk tkA;have KA:=K6'.tk tkA;generalize upd H6 wl (.lst (bs'.map V.ref))=HA at sA tkA wA cA hkA DA KA ⊢;have kk:=k6 k aa7;refine au hkA rfl (au hkA rfl (Bq (hB.same sA) (sA _ _ hW) bk tw kk.1 nmt kk.2 (λd hd t HB sB hst=>?_) λhd HB sB=>?_))
   ·obtain ⟨kO,ul,hl⟩:=k6.step bk tw hkz hd;have cB:=sB _ _ cA;have wB:=sB _ _ wA;have al:=D6.1;have sC:=(sA.trans sB).upd hsl (.lst (as.map V.ref++[V.ref t]));have tkC:TK HB (upd HB sl (.lst (as.map V.ref++[V.ref t]))):=TK.put cB (λ_ z=>nomatch z);have wC:upd HB sl (.lst (as.map V.ref++[V.ref t])) wl=some (.lst (bs'.map V.ref)):=by rw[ah nsw.symm];exact wB
    have cC:upd HB sl (.lst (as.map V.ref++[V.ref t])) sl=some (.lst (as.map V.ref++[V.ref t])):=ae;have stC:=hst.tk tkC;have DC:=((DA.tk (TK.of sB)).tk tkC).snoc stC;have KC:=(KA.tk (TK.of sB)).tk tkC;refine ba cB (by rw[aa0];omega) ?_;generalize upd HB sl (.lst (as.map V.ref++[V.ref t]))=HC at sC tkC wC cC stC DC KC ⊢;refine ⟨aw wC,Ju (hB.same sC) bk (jj (r:=d.1) (u:=d.2) hd).1 stC hl λl2 HD sD hl2 hKs=>?_⟩;obtain ⟨cs,e1,KL⟩:=hKs.l;have csl:=KL.1;have bl':=KA.1;rw[aaq] at csl bl';have ul':(d.2.hs.zip (aq kinds d.1.shape)).length≤100:=ul;rw[aai] at sl6;have wD:=sD _ _ wC;refine ⟨wl,l2,bs'.map V.ref,cs.map V.ref,rfl,rfl,wD,e1,by rw[aa0,aa0];omega,(eP1 _ _ _).mpr ⟨as++[t],bs'++cs,ds++[d],gn kinds d++st,_,_,_,rfl,(sC.trans sD).upd fwl _,?_,(DC.tk (TK.of sD)).tk (TK.put wD (λ_ z=>nomatch z)),by rw[ae,aa8],?_,kO,by rw[aa2];omega,by rw[aa2,aaa];omega,?_⟩⟩
    ·rw[ah nsw,aa8];exact sD _ _ cC
    ·rw[ade];exact ((KC.tk (TK.of sD)).app KL).tk (TK.put wD (λ_ z=>nomatch z))
    ·rw[cw,fw hd,Option.map_map];congr 1
     funext x
     simp
   ·refine e ?_ HB (sA.trans sB);rw[cw,ir hd];rfl
 ·intro σ H6 hh;obtain ⟨as,bs,ds,st,v7,v8,v9,rfl,s6,c6,D6,w6,K6,k6,sl6,dl6,cw⟩:=(eP1 _ _ _).mp hh;push_cast [ow,Co];have bl:=K6.1;rw[aaq] at bl;refine ⟨_,.inl (SqL.of w6),?_⟩;rw[aa0,bl];rw[aa0,aby] at cw;cases st with
  | nil=>exact ifN (by decide) (q ds (by rw[cw];simp[bp]) sl as H6 s6 c6 D6)
  | cons k st=>exact ifY (by rw[aai];omega) ⟨by show (1:Nat)≤100;decide,e (by rw[cw];rfl) H6 s6⟩
noncomputable abbrev jm:Stmt:=top 25
theorem Cd:ax ["book","words","place","kind","cover"] ["book","words","place","kind","cover"] (ag jm):=⟨rfl,rfl,rfl,by decide+kernel,rfl,by decide+kernel,by decide+kernel⟩
theorem Ig (G:Gs w K mg κ) (h_laid_cover:jd P w K mg base k "laid_cover" ["book","words","place","kind","cover"] (qj κ)) (D:Def K mg "cover_price" jm ["book","words","place","kind","cover"]):jd P w K mg base (k+1) "cover_price" ["book","words","place","kind","cover"] (oq κ):=by
 refine D.hasX Cd (λvs H Q E h=>?_) (λf cdv A outer s H vs Q E hr h=>?_)
 ·obtain ⟨_,_,_,_,_,_,_,_,_,rfl,_,_,_,_,_,_,_,_,_,_,_,_⟩:=h;rfl
 have nd:=Cd.nd;have hu:=cb hr;have hu0:=aag hu;obtain ⟨b,wt,ct,kinds,rs,ws,p,kd,ns,rfl,hB,hW,hC,bk,tw,hp,hkd,hkz,hnz,hnl,q,e⟩:=h;have m_sum:=G.m_sum;refine ⟨_,(A6 (AD (AS (@xy _ rfl) m_sum b_sum (A1 (BT (BI ["rule","under"] [] [] trivial trivial) (BD (CP h_laid_cover hr (A1 (A0 0) (A1 (A0 1) (A1 (A0 2) (A1 (A0 3) (A1 (A0 4) (A3 0)))))))) (λ_ _ _=>(@Jh _ _ K rfl _ _ _ _ rfl (AT (B0 0 (show aba (["rule","under"]:List Str) by decide+kernel)) (AT (B0 1 (show aba (["rule","under"]:List Str) by decide+kernel)) (BP 0))) rfl rfl)) (λ_ _ _=>(@pif0 _)) (λ_ _ _=>(A8 (C8 K) (A0 0) (A2 0)))) (A3 0))))),?_⟩;rw[show start ["book","words","place","kind","cover"] [.ref b,.ref wt,.int (p:Int),.str kd,.ref ct]=[some (.ref b),some (.ref wt),some (.int (p:Int)),some (.str kd),some (.ref ct)] from rfl];clear hu hu0 nd hr;push_cast [and_true];have sz:=sizeLine_eq;refine L1 hB hW hC bk tw hp hkd hkz hnz hnl (λds hds l as H1 s1 hl D1=>⟨l,rfl,⟨_,SqL.of hl⟩,λD hD=>?_⟩) e;have al:=D1.1;have dl:=(sr hds).1;refine Ji (as:=as) (λi ys=>ys=(ds.take i).map λd=>V.int d.1.price) rfl (SqL.of hl) (λi t ht=>?_) (by omega) hD rfl (λi t x y ys H2 G' K' ht hx hP hS hG hK=>?_) λys H2 hP hS hd=>?_
 ·have hi:=(List.getElem?_eq_some_iff.mp ht).1;obtain ⟨a,a1,ra,ut,a2,_⟩:=D1.2 i _ (aa1 (show i < ds.length by omega));obtain rfl:a=t:=aa4 (a1.symm.trans ht);exact ⟨_,_,a2⟩
 ·have hi:=(List.getElem?_eq_some_iff.mp ht).1;have hdi:ds[i]?=some ds[i]:=aa1 (show i < ds.length by omega);obtain ⟨a,a1,ra,ut,a2,⟨sa,da,dd,g1,g2,g3⟩,_⟩:=D1.2 i _ hdi;obtain rfl:a=t:=aa4 (a1.symm.trans ht);rw[hx] at a2;obtain ⟨rfl,rfl⟩:x=.ref ra∧y=.ref ut:=by simpa using a2
  push_cast [and_true];refine au (hS _ _ g1) rfl (hK _ _ (ak.refl _) ?_);rw[ab6,hdi,aa8,←hP];rfl
 ·rw[abj (by omega)] at hP;refine ⟨ds.map λd:Rl×Und=>d.1.price,SqL.of (by rw[hd,hP,ac0];rfl),q ds hds H2 (s1.trans hS)⟩
noncomputable abbrev mv:Stmt:=top 26
theorem Fc:ax ["book","words","chosen","place","kind","price","rule"] ["book","words"] (ag mv):=⟨rfl,rfl,rfl,by decide+kernel,rfl,by decide+kernel,by decide+kernel⟩
theorem Jn (G:Gs w K mg κ) (h_prices:Has P w K mg base k "prices" ["book","words"] ko) (D:Def K mg "rules_of_table" mv ["book","words"]):Has P w K mg base (k+1) "rules_of_table" ["book","words"] ug:=by
 refine D.has Fc (λvs H Q E h=>?_) (λf cdv A outer s H vs Q E hr h=>?_)
 ·obtain ⟨_,_,_,_,_,rfl,_,_,_,_,_⟩:=h;rfl
 have nd:=Fc.nd;have hu:=cb hr;have hu0:=aag hu;obtain ⟨b,wt,kinds,rs,ws,rfl,hB,hW,bk,tw,q⟩:=h;refine ⟨_,(A4 (A7 2 nd (@B1 _ _)) (A4 (AZ (BD (AF h_prices hr (A1 (A0 0) (A1 (A0 1) (A3 0))))) (C4 4 (AT (AM 3 nd (by first | exact aaz rfl | exact ab4 rfl)) (AT (AM 4 nd (by first | exact aaz rfl | exact ab4 rfl)) (AT (AM 5 nd (by first | exact aaz rfl | exact ab4 rfl)) (AT (AM 6 nd (by first | exact aaz rfl | exact ab4 rfl)) (BP 0)))))) (A6 (@Gf _ _ _ _ _ _ _ _ _ hu (A0 2) (AK (A1 (A0 3) (A1 (A0 4) (A3 0)))) (A0 6) rfl))) (A6 (AD (A0 2))))),?_⟩;rw[show start ["book","words","chosen","place","kind","price","rule"] [.ref b,.ref wt]=[some (.ref b),some (.ref wt),none,none,none,none,none] from rfl];clear hu hu0 nd hr;push_cast [and_true];have sz:=sizeLine_eq;push_cast [Dr];intro d hd;have s0:=aa hd (.dT []);have d0:upd H d (.dT []) d=some (.dT []):=ae;generalize upd H d (.dT [])=H0 at s0 d0 ⊢;refine Ck (hB.same s0) (s0 _ _ hW) bk tw λfd bs HB g sB hfd hL T R4=>?_;have rl:=nk (g:=g) bk tw;have bl:=R4.1;have dB:=sB _ _ d0;have nfd:fd≠d:=(af d0 hfd).symm;obtain ⟨P1,eP1⟩:∃P1:Nat→L2.St→Hp→Prop,∀i σ H',P1 i σ H'↔∃v3 v4 v5 v6:Option V,σ=[some (.ref b),some (.ref wt),some (.ref d),v3,v4,v5,v6]∧ao d HB H'∧H' d=some (.dT (((rowsOf kinds rs ws g).take i).map ig)):=⟨_,λ_ _ _=>abh⟩;refine ⟨fd,rfl,⟨_,SqL.of hL⟩,gw (xs:=bs.map V.ref) P1 ((eP1 _ _ _).mpr ⟨none,none,none,none,rfl,ao.refl _ _,dB⟩) (λi σ H' _ h=>by obtain ⟨_,_,_,_,_,s,_⟩:=(eP1 _ _ _).mp h;exact SqL.of (s _ _ nfd hL)) ?_ ?_⟩
 ·intro i y σ H5 hy hh;obtain ⟨v3,v4,v5,v6,rfl,s5,d5⟩:=(eP1 _ _ _).mp hh;rw[aac] at hy;obtain ⟨a,ha,rfl⟩:=Option.map_eq_some_iff.mp hy;have hil:i < (rowsOf kinds rs ws g).length:=by rw[←bl];exact (List.getElem?_eq_some_iff.mp ha).1
  have hri:(rowsOf kinds rs ws g)[i]?=some (rowsOf kinds rs ws g)[i]:=aa1 hil;obtain ⟨a',nm,h1,h2,h3⟩:=R4.2 i _ hri;obtain rfl:a'=a:=aa4 (h1.symm.trans ha);generalize (rowsOf kinds rs ws g)[i]=r at hri h2 h3;have new:=Dm bk hri;have en:r.names.headD ""=nm:=by rw[acy,h2];rfl
  refine Ci (s5 _ _ (gq h3 dB (by intro z;cases z)) h3) rfl ?_;push_cast [and_true];refine ⟨by show (2:Nat)≤sizeLine;decide,λp hp=>?_⟩;have s6:=aa hp (.tup [V.int (r.place:Int),V.str r.kind]);have p6:upd H5 p (.tup [V.int (r.place:Int),V.str r.kind]) p=some (.tup ((kyK (gi r)).map kV)):=ae;generalize upd H5 p (.tup [V.int (r.place:Int),V.str r.kind])=H6 at s6 p6 ⊢;refine ⟨_,Bn.t (k:=kyK (gi r)) (s6 _ _ d5) p6 (by rw[aa0,ab1];omega),(eP1 _ _ _).mpr ⟨_,_,_,_,rfl,(s5.trans (ao.of s6)).trans (ao.tb _),?_⟩⟩;rw[ae,Dh _ new,ab6,hri,aa8,←en];rfl
 ·intro σ H5 hh;obtain ⟨v3,v4,v5,v6,rfl,s5,d5⟩:=(eP1 _ _ _).mp hh;rw[aa0,bl,abp] at d5;push_cast [and_true];refine q d H5 g (λc o h=>s5 c o (af h hd) ((s0.trans sB) c o h)) hd T ⟨_,d5,N4 bk T⟩
noncomputable abbrev om:Stmt:=top 27
theorem Ff:ax ["book","words","kind","chosen","cover","waiting","hole"] ["book","words","kind"] (ag om):=⟨rfl,rfl,rfl,by decide+kernel,rfl,by decide+kernel,by decide+kernel⟩
theorem J3 (G:Gs w K mg κ) (h_laid_rule:jd P w K mg base k "laid_rule" ["book","name","words","place","kind"] (ke κ)) (h_last_hole_first:Has P w K mg base k "last_hole_first" ["book","step"] xb) (h_rules_of_table:Has P w K mg base k "rules_of_table" ["book","words"] ug) (D:Def K mg "cheapest" om ["book","words","kind"]):jd P w K mg base (k+1) "cheapest" ["book","words","kind"] (pe κ):=by
 refine D.hasX Ff (λvs H Q E h=>?_) (λf cdv A outer s H vs Q E hr h=>?_)
 ·obtain ⟨_,_,_,_,_,_,rfl,_,_,_,_,_,_,_,_,_⟩:=h;rfl
 have nd:=Ff.nd;have hu:=cb hr;have hu0:=aag hu;obtain ⟨b,wt,kd,kinds,rs,ws,rfl,hB,hW,bk,tw,hkd,kz,rz,q,e⟩:=h;have m_NoCover:=G.er.m_noCover;have m_len:=G.m_len;have m_tuple:=G.m_tuple;refine ⟨_,(A4 (A7 3 nd (AF h_rules_of_table hr (A1 (A0 0) (A1 (A0 1) (A3 0))))) (A4 (AE (BC (CJ hu (AK (A1 (A2 0) (A1 (A0 2) (A3 0)))) (A0 3)) (by first | exact cq _ (by decide) (by decide) | rfl)) (A6 (CL G.er.x_noCover G.i_NoCover hr m_NoCover (A1 (@O7 _ _ _ _ _ _ _ _ (A0 2) (by decide+kernel)) (A3 0)))) (AL 0)) (A4 (A7 4 nd (AC (A3 0))) (A4 (A7 5 nd (AC (A1 (AK (A1 (A2 0) (A1 (A0 2) (A3 0)))) (A3 0)))) (A4 (@Cm _ _ _ _ _ _ (@vo _ _ Aa) (AB (BG 0) (AS (AX 0) m_len dr (A1 (A0 5) (A3 0))) (A2 0) (A9 0)) (A4 (A7 6 nd (BW PySem.F.plainAttrs_list PySem.F.slot_list_pop PySem.F.type_list_pop (@mx _) (A0 5))) (A4 (AN (AO PySem.F.plainAttrs_list PySem.F.slot_list_append PySem.F.type_list_append (AV 0) (A0 4) (A1 (BN hu (A0 3) (A0 6)) (A3 0)))) (A6 (AN (AO PySem.F.plainAttrs_list PySem.F.slot_list_extend PySem.F.type_list_extend (@i5 _) (A0 5) (A1 (AF h_last_hole_first hr (A1 (A0 0) (A1 (CP h_laid_rule hr (A1 (A0 0) (A1 (BN hu (A0 3) (A0 6)) (A1 (A0 1) (A1 (A8 (AG 0) (A0 6) (A2 0)) (A1 (A8 (AG 0) (A0 6) (A2 0)) (A3 0))))))) (A3 0)))) (A3 0)))))))) (A6 (AD (AY (BA 0) m_tuple de (A1 (A0 4) (A3 0)))))))))),?_⟩;rw[show start ["book","words","kind","chosen","cover","waiting","hole"] [.ref b,.ref wt,.str kd]=[some (.ref b),some (.ref wt),some (.str kd),none,none,none,none] from rfl];clear hu hu0 nd hr;push_cast [and_true];have sz:=sizeLine_eq;refine Nz hB hW bk tw λd H1 g s1 hd T C1=>?_;refine ⟨by show (2:Nat)≤sizeLine;decide,λp hp=>⟨d,rfl,_,(C1.same (aa hp _)).get (k:=(0,kd)) ae,?_⟩⟩;have q2:=aa hp (.tup [V.int 0,V.str kd]);have s2:=s1.trans q2;have C2:=C1.same q2;generalize upd H1 p (.tup [V.int 0,V.str kd])=H2 at q2 s2 C2 ⊢;cases ek:g (0,kd) with
 | none=>
  refine ifY rfl ?_;push_cast [ow,Co];exact ⟨hkd.1,by have:=hkd.2;omega,λm=>⟨by show (1:Nat)≤100;decide,e H2 g s2 T ek⟩⟩
 | some v=>
  refine ifN (by simp) ⟨aa6 _,λcl hcl=>⟨by show (2:Nat)≤sizeLine;decide,λp2 hp2=>⟨by show (1:Nat)≤sizeLine;decide,λwl hwl=>?_⟩⟩⟩;have s3:=aa hcl (.lst []);have s4:=aa hp2 (.tup [V.int 0,V.str kd]);have s5:=aa hwl (.lst [V.ref p2]);have S5:=s2.trans (s3.trans (s4.trans s5));have C5:=C2.same (s3.trans (s4.trans s5));have fcl:=s2.free hcl;have fwl:=(s2.trans (s3.trans s4)).free hwl;have ncw:cl≠wl:=af (s4 _ _ (ae (H:=H2) (a:=cl) (o:=.lst []))) hwl;have c5:=(s4.trans s5) _ _ (ae (H:=H2) (a:=cl) (o:=.lst []));have p5:=s5 _ _ (ae (H:=upd H2 cl (.lst [])) (a:=p2) (o:=.tup [V.int 0,V.str kd]));have w5:upd (upd (upd H2 cl (.lst [])) p2 (.tup [V.int 0,V.str kd])) wl (.lst [V.ref p2]) wl=some (.lst [V.ref p2]):=ae;generalize upd (upd (upd H2 cl (.lst [])) p2 (.tup [V.int 0,V.str kd])) wl (.lst [V.ref p2])=H5 at s5 S5 C5 c5 p5 w5 ⊢;have wp:=tw.pos;obtain ⟨P1,eP1⟩:∃P1:L2.St→Hp→Prop,∀σ H',P1 σ H'↔∃(bs:List Addr) (done:List Str) (st:List Ky) (v6:Option V),σ=[some (.ref b),some (.ref wt),some (.str kd),some (.ref d),some (.ref cl),some (.ref wl),v6]∧ak H H'∧mr H' d kinds rs ws g∧H' cl=some (.lst (done.map V.str))∧H' wl=some (.lst (bs.map V.ref))∧KsL H' bs st.reverse∧Prd g st∧done.length+j9 kinds ws g st≤61000∧done++cov kinds rs ws g st=cov kinds rs ws g [(0,kd)]:=⟨_,λ_ _=>abh⟩;refine ja P1 (λ_ H'=>61000 - ml H' cl) ((eP1 _ _).mpr ⟨[p2],[],[(0,kd)],none,rfl,S5,C5,c5,w5,KsL.one p5,λk hk=>?_,by have:=Ct bk tw g kd wp;show 0+_≤_;omega,rfl⟩) ?_ ?_
  ·rw[List.mem_singleton.mp hk];exact ⟨v,ek,T.pos _ _ ek⟩
  ·intro σ H6 hh;obtain ⟨bs,done,st,v6,rfl,s6,C6,c6,w6,K6,pr6,l6,e6⟩:=(eP1 _ _).mp hh;push_cast [and_true];have bl:=K6.1;rw[aaq] at bl;refine ⟨_,.inl (SqL.of w6),?_⟩;rw[aa0,bl];cases st with
   | nil=>
    refine ifN (by decide) ⟨_,.inl ⟨SqL.of c6,λt ht=>?_⟩⟩;have st:=aa ht (.tup (done.map V.str));rw[P4,ab7] at e6;refine q t _ g v (s6.trans st) (s6.free ht) T ek ?_;rw[ae,e6]
   | cons k st=>
    obtain ⟨bs',a,rfl,K6',hk⟩:=K6.pop;obtain ⟨vk,hvk,_⟩:=pr6 k aa7;obtain ⟨i,r,u,h1,h2,h3,h4,h5,h6,h7,h8⟩:=t7 bk T hvk;obtain ⟨pr',_⟩:=pr6.step bk T;have ph:=yi bk tw T pr6;have lp:=Df kinds ws g (zq kinds rs ws (pick kinds rs ws g k) k.1++st);rw[Mh bk T pr6] at e6;refine ifY (by rw[aai];omega) ?_;rw[aa8] at w6;refine n6 (xs:=bs'.map V.ref) (y:=.ref a) w6 ?_;have sA:=s6.upd fwl (.lst (bs'.map V.ref));have tkA:TK H6 (upd H6 wl (.lst (bs'.map V.ref))):=TK.put w6 (λ_ z=>nomatch z);have wA:upd H6 wl (.lst (bs'.map V.ref)) wl=some (.lst (bs'.map V.ref)):=ae;have cA:upd H6 wl (.lst (bs'.map V.ref)) cl=some (.lst (done.map V.str)):=by rw[ah ncw];exact c6
    have CA:mr (upd H6 wl (.lst (bs'.map V.ref))) d kinds rs ws g:=C6.at λo h=>by rw[ah (C6.ne w6)];exact h
    have hkA:upd H6 wl (.lst (bs'.map V.ref)) a=some (kyT k):=tkA _ _ hk;have KA:=K6'.tk tkA;generalize upd H6 wl (.lst (bs'.map V.ref))=HA at sA tkA wA cA CA hkA KA ⊢;have gA:=CA.get hkA;rw[hvk] at gA;have sB:=sA.upd fcl (.lst (done.map V.str++[V.str (pick kinds rs ws g k)]));have tkB:TK HA (upd HA cl (.lst (done.map V.str++[V.str (pick kinds rs ws g k)]))):=TK.put cA (λ_ z=>nomatch z);have wB:upd HA cl (.lst (done.map V.str++[V.str (pick kinds rs ws g k)])) wl=some (.lst (bs'.map V.ref)):=by rw[ah ncw.symm];exact wA
    have cB:upd HA cl (.lst (done.map V.str++[V.str (pick kinds rs ws g k)])) cl=some (.lst (done.map V.str++[V.str (pick kinds rs ws g k)])):=ae;have CB:mr (upd HA cl (.lst (done.map V.str++[V.str (pick kinds rs ws g k)]))) d kinds rs ws g:=CA.at λo h=>by rw[ah (CA.ne cA)];exact h
    have hkB:upd HA cl (.lst (done.map V.str++[V.str (pick kinds rs ws g k)])) a=some (kyT k):=tkB _ _ hkA;have KB:=KA.tk tkB;refine ⟨aw cA,_,gA,(ba (K:=K) cA (by rw[aa0];omega) ?_).2⟩;generalize upd HA cl (.lst (done.map V.str++[V.str (pick kinds rs ws g k)]))=HB at sB tkB wB cB CB hkB KB ⊢;have gB:=CB.get hkB;rw[hvk] at gB;have rm:=aah h1;have hru:bw kinds rs ws (pick kinds rs ws g k) k.2 k.1=some (r,u):=by
     rw[←h2,←h3,qd bk h1,h4];rfl
    refine ⟨aw wB,_,gB,au hkB rfl (au hkB rfl (Bq (hB.same sB) (sB _ _ hW) bk tw h8 (h2 ▸ rz r rm) (h3 ▸ kz _ (bk.rk r rm)) (λdd hdd t HC sC hst=>?_) λhno=>absurd (hno.symm.trans hru) (λz=>nomatch z)))⟩;obtain rfl:(r,u)=dd:=aa4 (hru.symm.trans hdd);have SC:=sB.trans sC;have hl:u.hs.length=(aq kinds r.shape).length:=by
     have:=(ju bk.kd _ _ _ _ (bk.sh r rm).1 h4).1;simpa using this
    refine Ju (r:=r) (u:=u) (hB.same SC) bk rm hst hl λl2 HD sD hl2 hKs=>?_;obtain ⟨cs,e1,KL⟩:=hKs.l;have csl:=KL.1;have bl':=KA.1;rw[aaq] at csl bl';rw[h5] at pr' ph lp e6;rw[aa2] at lp;have sBD:=sC.trans sD;have wD:=sBD _ _ wB;have CD:=CB.same sBD;have tkD:TK HD (upd HD wl (.lst (bs'.map V.ref++cs.map V.ref))):=TK.put wD (λ_ z=>nomatch z);have cD:upd HD wl (.lst (bs'.map V.ref++cs.map V.ref)) cl=some (.lst ((done++[pick kinds rs ws g k]).map V.str)):=by rw[ah ncw,aa8];exact sBD _ _ cB
    have dl:(done++[pick kinds rs ws g k]).length=done.length+1:=by rw[aa2];rfl
    refine ⟨wl,l2,bs'.map V.ref,cs.map V.ref,rfl,rfl,wD,e1,by rw[aa0,aa0];omega,(eP1 _ _).mpr ⟨bs'++cs,done++[pick kinds rs ws g k],u.hs.zip (aq kinds r.shape)++st,_,rfl,(sB.trans sBD).upd fwl _,CD.at λo h=>by rw[ah (CD.ne wD)];exact h,cD,by rw[ae,aa8],?_,pr',by omega,by rw[abn];exact e6⟩,?_⟩
    ·rw[ade];exact ((KB.tk (TK.of sBD)).app KL).tk tkD
    ·rw[gg cD,gg c6,aa0,aa0];omega
  ·intro σ H6 Q1 Q2 h c;exact M7 h c
noncomputable abbrev wa:Stmt:=top 29
theorem Lo:ax ["deck","cells","at"] ["deck"] (ag wa):=⟨rfl,rfl,rfl,by decide+kernel,rfl,by decide+kernel,by decide+kernel⟩
theorem hasNext (G:Gs w K mg κ) (D:Def K mg "_law_next" wa ["deck"]):Has P w K mg base (k+1) "_law_next" ["deck"] iw:=by
 refine D.has Lo (λvs H Q E h=>?_) (λf cdv A outer s H vs Q E hr h=>?_)
 ·obtain ⟨_,_,_,_,rfl,_,_,_⟩:=h;rfl
 have nd:=Lo.nd;have hu:=cb hr;have hu0:=aag hu;obtain ⟨d,b,ns,n,rfl,hD,hn,q⟩:=h;have m_len:=G.m_len;refine ⟨_,(A4 (A7 1 nd (A8 (AW 0) (A0 0) (A2 0))) (A4 (A7 2 nd (A8 (AW 0) (A0 0) (A2 0))) (A4 (CM (A5 (AQ 0) (A0 2) (A2 0)) (@Me _ _ _ _ _ _ _ (A0 0) (A2 0) (@set_list _) (by intro _;rfl))) (A4 (AE (AB (@j6 _) (A0 2) (AS (AX 0) m_len dr (A1 (A0 1) (A3 0))) (A9 0)) (A6 (AD (A8 (AW 0) (A0 1) (A0 2)))) (AL 0)) (A4 (AE (AB (AR 0) (AS (AX 0) m_len dr (A1 (A0 1) (A3 0))) (A2 0) (A9 0)) (A6 (AD (A5 (AQ 0) (A5 (@ue _) (A5 (@ue _) (A0 2) (A0 2)) (A2 0)) (A0 2)))) (AL 0)) (A6 (AD (A5 (AQ 0) (A5 (AU 0) (A8 (AW 0) (A0 1) (A5 (AH 0) (A0 2) (AS (AX 0) m_len dr (A1 (A0 1) (A3 0))))) (A2 0)) (A5 (@ue _) (A0 2) (A0 2)))))))))),?_⟩;rw[show start ["deck","cells","at"] [.ref d]=[some (.ref d),none,none] from rfl];clear hu hu0 nd hr;push_cast [rIxL,gSub,Lz,qp,CMul];have nb:=hD.ne;obtain ⟨h1,h2⟩:=hD;refine ⟨_,SqL.of h1,.ref b,rfl,_,SqL.of h1,.int (n:Int),rfl,?_⟩;push_cast [and_true];have h3:upd H d (.lst [.ref b,.int ((n:Int)+1)]) b=some (.lst (ns.map V.int)):=by rw[ah nb];exact h2
 have hS:ao d H (upd H d (.lst [.ref b,.int ((n:Int)+1)])):=λc o hc ho=>by rw[ah hc];exact ho
 have hD':upd H d (.lst [.ref b,.int ((n:Int)+1)]) d=some (.lst [.ref b,.int ((n+1:Nat):Int)]):=ae;refine ⟨_,h1,1,rfl,ns.map V.int,.inl (SqL.of h3),b7 (λc=>?_) λc=>⟨ns.map V.int,.inl (SqL.of h3),rfl,b7 (λc2=>?_) λc2=>?_⟩⟩
 ·rw[aa0] at c;have hlt:n < ns.length:=by omega
  exact ⟨_,SqL.of h3,.int ns[n],bb (by rw[aac,aa1 hlt];rfl),q _ _ hS hD'⟩
 ·exact ⟨.inl ⟨by omega,by omega⟩,.inr trivial,q _ _ hS hD'⟩
 ·rw[aa0] at c2;have hpos:0 < ns.length:=by omega
  have hlt:n % ns.length < ns.length:=Nat.mod_lt _ hpos;refine ⟨ns.map V.int,.inl (SqL.of h3),by rw[aa0];omega,_,SqL.of h3,.int ns[n % ns.length],?_,by decide,by decide,.inl ⟨by omega,by omega⟩,q _ _ hS hD'⟩;rw[aa0,show (n:Int) % (ns.length:Int)=((n % ns.length:Nat):Int) from (Int.natCast_emod _ _).symm];exact bb (by rw[aac,aa1 hlt];rfl)
noncomputable abbrev vw:Stmt:=top 35
theorem Lu:ax ["words","ends","stack","back","at","end"] ["words"] (ag vw):=⟨rfl,rfl,rfl,by decide+kernel,rfl,by decide+kernel,by decide+kernel⟩
theorem Oa (G:Gs w K mg κ) (D:Def K mg "_law_ends" vw ["words"]):Has P w K mg base (k+1) "_law_ends" ["words"] (vy K):=by
 refine D.has Lu (λvs H Q E h=>?_) (λf cdv A outer s H vs Q E hr h=>?_)
 ·obtain ⟨_,_,rfl,_,_,_,_,_⟩:=h;rfl
 have nd:=Lu.nd;have hu:=cb hr;have hu0:=aag hu;obtain ⟨t,ws,rfl,hT,hw,hTm,hl,q⟩:=h;have m_len:=G.m_len;have m_range:=G.m_range;refine ⟨_,(A4 (A7 1 nd (A5 (@op_rep _) (AC (A1 (A2 0) (A3 0))) (AS (AX 0) m_len dr (A1 (A0 0) (A3 0))))) (A4 (A7 2 nd (AC (A3 0))) (A4 (AZ (BX m_range (A1 (AS (AX 0) m_len dr (A1 (A0 0) (A3 0))) (A3 0))) (AM 3 nd (by first | exact aaz rfl | exact ab4 rfl)) (A4 (A7 4 nd (A5 (B7 0) (A5 (B7 0) (AS (AX 0) m_len dr (A1 (A0 0) (A3 0))) (A2 0)) (A0 3))) (A4 (A7 5 nd (A5 (AQ 0) (A0 4) (A2 0))) (BH (AE (BK (BR 0) (A8 (AG 0) (A0 0) (A0 4)) (AC (BE (AI (AI (AI (BF 0))))))) (A6 (AN (BW PySem.F.plainAttrs_list PySem.F.slot_list_pop PySem.F.type_list_pop (@mx _) (A0 2)))) (AL 0)) (BH (AE (BK (BR 0) (A8 (AG 0) (A0 0) (A0 4)) (AC (BE (AI (AI (AI (AI (BF 0)))))))) (A6 (A7 5 nd (BW PySem.F.plainAttrs_list PySem.F.slot_list_pop PySem.F.type_list_pop (@mx _) (A0 2)))) (AL 0)) (A4 (AN (AO PySem.F.plainAttrs_list PySem.F.slot_list_append PySem.F.type_list_append (AV 0) (A0 2) (A1 (A0 5) (A3 0)))) (A6 (CM (A0 5) (@Me _ _ _ _ _ _ _ (A0 1) (A0 4) (@set_list _) (by intro _;rfl)))))))))) (A6 (AD (A0 1)))))),?_⟩;rw[show start ["words","ends","stack","back","at","end"] [.ref t]=[some (.ref t),none,none,none,none,none] from rfl];clear hu hu0 nd hr;push_cast [and_true];have sz:=sizeLine_eq;refine ⟨by show (1:Nat)≤sizeLine;decide,λp0 hp0=>⟨ws,.inr ((aa hp0 _).tup hT),O6 ae (by omega) (by omega) λel hel=>⟨aa6 _,λsp hsp=>⟨ws,.inr ((((aa hp0 _).trans (aa hel _)).trans (aa hsp _)).tup hT),by omega,by omega,?_⟩⟩⟩⟩;rw[show ((ws.length:Nat):Int).toNat=ws.length by omega] at hsp ⊢;have S1:=aa hp0 (.lst [V.int 0]);have fe:=S1.free hel;have S2:=S1.trans (aa hel (.lst (aal ws.length (V.int 0))));have fs:=S2.free hsp;have S3:=S2.trans (aa hsp (.lst []));have nes:el≠sp:=af ae hsp;have e3:=aa hsp (.lst []) _ _ (ae (H:=upd H p0 (.lst [V.int 0])) (a:=el) (o:=.lst (aal ws.length (V.int 0))));have p3:upd (upd (upd H p0 (.lst [V.int 0])) el (.lst (aal ws.length (V.int 0)))) sp (.lst []) sp=some (.lst []):=ae;generalize upd (upd (upd H p0 (.lst [V.int 0])) el (.lst (aal ws.length (V.int 0)))) sp (.lst [])=H3 at S3 e3 p3 ⊢;obtain ⟨P1,eP1⟩:∃P1:Nat→L2.St→Hp→Prop,∀j σ H',P1 j σ H'↔∃v3 v4 v5:Option V,σ=[some (.ref t),some (.ref el),some (.ref sp),v3,v4,v5]∧ak H H'∧H' sp=some (.lst (((vh ws (ws.length - j)).drop 1).reverse.map plV))∧H' el=some (.lst (aal (ws.length - j) (V.int 0)++(aax j).map λi=>plV (endAt ws (ws.length - j+i)))):=⟨_,λ_ _ _=>abh⟩;refine ij (lo:=0) P1 ?_ ?_ ?_
 ·refine (eP1 _ _ _).mpr ⟨none,none,none,rfl,S3,?_,?_⟩
  ·rw[ack,M3];exact p3
  ·rw[e3];simp
 ·intro j σ H5 hj hh;refine ob3 ((eP1 _ _ _).mp hh) λv3 v4 v5 hh=>?_;have s5:=hh.2.1;have p5:=hh.2.2.1;have e5:=hh.2.2.2;obtain rfl:=hh.1;clear hh;obtain ⟨p,hp⟩:∃p,p+j+1=ws.length:=⟨ws.length - 1 - j,by omega⟩;rw[show ws.length - j=p+1 by omega] at p5 e5;have ej:(λ_:Unit=>ws.length - (j+1))=λ_=>p:=by funext _;omega
  have hpl:p < ws.length:=by omega
  have hx:ws[p]?=some ws[p]:=aa1 hpl;have hxw:=hw _ (ab5 hpl);have hat:atI ws (p:Int)=some ws[p]:=bb hx;generalize ws[p]=x at hx hxw hat;obtain ⟨tp,u,tu⟩:=Pf hTm hx;push_cast [and_true];refine ⟨ws,.inr (s5.tup hT),?_⟩;rw[show ((ws.length:Int) - 1 - (0+(j:Int)))=(p:Int) by omega];obtain ⟨E',hT'⟩:=Hc ws (p:=p+1) (by omega);rw[hT'] at p5 tp tu;have p5:H5 sp=some (.lst (E'.reverse.map plV)):=p5;have three:=Cw hxw;have four:=Am hxw;have ar2:=xf x;have rp:∀(y:Nat) (L:List Nat),((y::L).reverse.map plV)=L.reverse.map plV++[plV y]:=λy L=>by rw[ach,aa8];rfl
  refine eu (λσ' H6=>σ'=[some (.ref t),some (.ref el),some (.ref sp),some (.int (0+(j:Int))),some (.int (p:Int)),some (.int ((p:Int)+1))]∧ak H H6∧H6 el=H5 el∧H6 sp=some (.lst ((if arV x=2 then E'.drop 1 else E').reverse.map plV))) ?_ ?_
  ·push_cast [rIn];refine ⟨t,ws,_,x,rfl,rfl,s5.tup hT,hat,by show (3:Nat)≤sizeLine;decide,λa ha=>⟨_,.inl (SqL.of ae),hxw.flat,rfl,b7 (λc2=>?_) λc2=>?_⟩⟩
   ·have a2:=three.mp c2;rw[a2] at tu;rw[if_pos a2];cases E' with
    | nil=>cases tu
    | cons e1 E2=>
     rw[rp] at p5;exact n6 (aa ha _ _ _ p5) ⟨(s5.trans (aa ha _)).upd fs _,by rw[ah nes,aa ha _ _ _ e5,e5],by rw[ae];rfl⟩
   ·rw[if_neg λe=>c2 (three.mpr e)];exact ⟨s5.trans (aa ha _),by rw[aa ha _ _ _ e5,e5],aa ha _ _ _ p5⟩
  rintro _ H6 ⟨rfl,s6,e6,p6⟩;refine eu (λσ' H7=>σ'=[some (.ref t),some (.ref el),some (.ref sp),some (.int (0+(j:Int))),some (.int (p:Int)),some (plV (endAt ws p))]∧ak H H7∧H7 el=H5 el∧H7 sp=some (.lst (u.reverse.map plV))) ?_ ?_
  ·push_cast [rIn];refine ⟨t,ws,_,x,rfl,rfl,s6.tup hT,hat,by show (4:Nat)≤sizeLine;decide,λa ha=>⟨_,.inl (SqL.of ae),hxw.flat,rfl,b7 (λc2=>?_) λc2=>?_⟩⟩
   ·have a1:=four.mp c2;have hE:(if arV x=2 then E'.drop 1 else E')=endAt ws p::u:=by
     by_cases a2:arV x=2
     ·rw[if_pos a2];rw[a2] at tu;exact tu
     ·rw[if_neg a2];rw[show arV x=1 by omega] at tu;exact tu
    rw[hE,rp] at p6;exact n6 (aa ha _ _ _ p6) ⟨rfl,(s6.trans (aa ha _)).upd fs _,by rw[ah nes,aa ha _ _ _ (e6.trans e5),e5],ae⟩
   ·have a0:arV x=0:=by
     rcases abl (arV x) with h | h
     ·exact h
     ·exact absurd (four.mpr h) c2
    rw[a0] at tu p6;have tu:(p+1)::E'=endAt ws p::u:=tu;obtain ⟨y1,y2⟩:=abi tu;rw[if_neg (by decide),y2] at p6;exact ⟨by omega,s6.trans (aa ha _),by rw[aa ha _ _ _ (e6.trans e5),e5],aa ha _ _ _ p6⟩
  rintro _ H7 ⟨rfl,s7,e7,p7⟩;push_cast [gSub,Lz];have tl:=Ls ws p;rw[tp,tu,aai,aai] at tl;refine ba p7 (by rw[aa0,aaq];omega) ⟨_,by rw[ah nes];exact e7.trans e5,p,Ny (by rw[aa2,abc];omega),(eP1 _ _ _).mpr ⟨_,_,_,rfl,(s7.upd fs _).upd fe _,?_,?_⟩⟩
  ·rw[show ws.length - (j+1)=p from congrFun ej (),ah nes.symm,ae,tp,tu];show _=some (HO.lst ((endAt ws p::u).reverse.map plV))
   rw[rp]
  ·rw[show ws.length - (j+1)=p from congrFun ej (),ae,Mu,List.range_succ_eq_map,aaw,ac0];show some (HO.lst (_++plV (endAt ws p)::ae7 (λi=>plV (endAt ws (p+1+i))) (aax j)))=some (HO.lst (_++plV (endAt ws (p+0))::ae7 ((λi=>plV (endAt ws (p+i))) ∘ Nat.succ) (aax j)))
   have ef:((λi=>plV (endAt ws (p+i))) ∘ Nat.succ)=λi=>plV (endAt ws (p+1+i)):=by
    funext i
    show plV (endAt ws (p+(i+1)))=_
    rw[show p+(i+1)=p+1+i by omega]
   rw[ef];rfl
 ·intro σ H5 hh;refine ob3 ((eP1 _ _ _).mp hh) λv3 v4 v5 hh=>?_;have s5:=hh.2.1;have p5:=hh.2.2.1;have e5:=hh.2.2.2;obtain rfl:=hh.1;clear hh;push_cast [and_true];refine q el H5 s5 fe ?_;rw[e5,acx];simp
noncomputable abbrev oa:Stmt:=top 36
theorem Fn:ax ["kinds","shape","words","ends","place","under","word","there"] ["kinds","shape","words","ends","place"] (ag oa):=⟨rfl,rfl,rfl,by decide+kernel,rfl,by decide+kernel,by decide+kernel⟩
theorem Ka (G:Gs w K mg κ) (D:Def K mg "_law_laid" oa ["kinds","shape","words","ends","place"]):Has P w K mg base (k+1) "_law_laid" ["kinds","shape","words","ends","place"] (qc K):=by
 refine D.has Fn (λvs H Q E h=>?_) (λf cdv A outer s H vs Q E hr h=>?_)
 ·obtain ⟨_,_,_,_,_,_,_,_,rfl,_,_,_,_,_,_,_,_,_,_,_⟩:=h;rfl
 have nd:=Fn.nd;have hu:=cb hr;have hu0:=aag hu;obtain ⟨st,kt,wt,et,sh,kinds,ws,p,rfl,hS,hK,hW,hE,hk,hs,hTm,hl1,tw,hp,q⟩:=h;have m_int:=G.m_int;have m_isinstance:=G.m_isinstance;have m_str:=G.m_str;have m_tuple:=G.m_tuple;refine ⟨_,(A4 (A7 5 nd (AC (A1 (AC (A3 0)) (A1 (AC (A3 0)) (A1 (AC (A3 0)) (A3 0)))))) (A4 (AZ (BL (A0 1)) (AM 6 nd (by first | exact aaz rfl | exact ab4 rfl)) (A4 (A7 7 nd (A8 (AG 0) (A0 2) (A0 4))) (A6 (AE (BK (BR 0) (A0 6) (A0 0)) (A4 (AN (AO PySem.F.plainAttrs_list PySem.F.slot_list_append PySem.F.type_list_append (AV 0) (A8 (AW 0) (A0 5) (A2 0)) (A1 (A0 4) (A3 0)))) (A6 (A7 4 nd (A8 (AW 0) (A0 3) (A0 4))))) (A6 (AE (B6 (BJ (AB (AR 0) (A0 6) (AJ 0) (A9 0)) (BM (C3 (AS (BZ 0) m_isinstance eh (A1 (A0 7) (A1 (C0 m_int wz) (A3 0)))))))) (A4 (AN (AO PySem.F.plainAttrs_list PySem.F.slot_list_append PySem.F.type_list_append (AV 0) (A8 (AW 0) (A0 5) (A2 0)) (A1 (A0 7) (A3 0)))) (A6 (A7 4 nd (A5 (AQ 0) (A0 4) (A2 0))))) (A6 (AE (B6 (BJ (AB (AR 0) (A0 6) (AJ 0) (A9 0)) (BJ (C3 (AS (BZ 0) m_isinstance eh (A1 (A0 7) (A1 (C0 m_str Ge) (A3 0))))) (BM (BK (@qe _) (A0 7) (AC (BE (AI (AI (AI (AI (BF 0)))))))))))) (A4 (AN (AO PySem.F.plainAttrs_list PySem.F.slot_list_append PySem.F.type_list_append (AV 0) (A8 (AW 0) (A0 5) (A2 0)) (A1 (A0 7) (A3 0)))) (A6 (A7 4 nd (A5 (AQ 0) (A0 4) (A2 0))))) (A6 (AE (AB (AR 0) (A0 6) (A0 7) (A9 0)) (A6 (A7 4 nd (A5 (AQ 0) (A0 4) (A2 0)))) (A6 (AD (@qu _ _ _))))))))))))) (A6 (AD (AK (A1 (AY (BA 0) m_tuple de (A1 (A8 (AW 0) (A0 5) (A2 0)) (A3 0))) (A1 (AY (BA 0) m_tuple de (A1 (A8 (AW 0) (A0 5) (A2 0)) (A3 0))) (A1 (AY (BA 0) m_tuple de (A1 (A8 (AW 0) (A0 5) (A2 0)) (A3 0))) (A3 0))))))))),?_⟩;rw[show start ["kinds","shape","words","ends","place","under","word","there"] [.ref kt,.ref st,.ref wt,.ref et,.int (p:Int)]=[some (.ref kt),some (.ref st),some (.ref wt),some (.ref et),some (.int (p:Int)),none,none,none] from rfl];clear hu hu0 nd hr;push_cast [and_true];have sz:=sizeLine_eq;have hw:=λv hv=>(tw.w v hv).1;obtain ⟨n,he⟩:=tw.eat hp;refine ⟨aa6 _,λl1 h1=>⟨aa6 _,λl2 h2=>⟨aa6 _,λl3 h3=>⟨by show (3:Nat)≤sizeLine;decide,λu0 h0=>?_⟩⟩⟩⟩;have n21:l2≠l1:=(af ae h2).symm;have n31:l3≠l1:=(af (aa h2 _ _ _ ae) h3).symm;have n32:l3≠l2:=(af ae h3).symm;have n10:u0≠l1:=(af (aa h3 _ _ _ (aa h2 _ _ _ ae)) h0).symm;have n20:u0≠l2:=(af (aa h3 _ _ _ ae) h0).symm;have n30:u0≠l3:=(af ae h0).symm;have S1:=aa h1 (.lst []);have f2:=S1.free h2;have S2:=S1.trans (aa h2 (.lst []));have f3:=S2.free h3;have S3:=S2.trans (aa h3 (.lst []));have S4:=S3.trans (aa h0 (.lst [.ref l1,.ref l2,.ref l3]));have U4:nr (upd (upd (upd (upd H l1 (.lst [])) l2 (.lst [])) l3 (.lst [])) u0 (.lst [.ref l1,.ref l2,.ref l3])) u0 l1 l2 l3 ⟨[],[],[]⟩:=
  ⟨ae,by rw[ah n10.symm,ah n31.symm,ah n21.symm,ae];rfl,by rw[ah n20.symm,ah n32.symm,ae],by rw[ah n30.symm,ae]⟩
 generalize upd (upd (upd (upd H l1 (.lst [])) l2 (.lst [])) l3 (.lst [])) u0 (.lst [.ref l1,.ref l2,.ref l3])=H4 at S4 U4 ⊢;obtain ⟨P1,eP1⟩:∃P1:Nat→L2.St→Hp→Prop,∀i σ H',P1 i σ H'↔∃(q':Nat) (u:Und) (v6 v7:Option V),σ=[some (.ref kt),some (.ref st),some (.ref wt),some (.ref et),some (.int (q':Int)),some (.ref u0),v6,v7]∧ak H H'∧nr H' u0 l1 l2 l3 u∧bu kinds ws (sh.drop i) q' u=bu kinds ws sh p ⟨[],[],[]⟩∧(u.hs.length≤i∧u.ns.length≤i∧u.vs.length≤i)∧Es u∧∃d m,pend d ((sh.drop i).map arV)=some 0∧eat d ((ws.drop q').map arV)=some m:=⟨_,λ_ _ _=>abh⟩;refine ⟨⟨sh,S4.tup hS⟩,gd (xs:=sh) P1 ((eP1 _ _ _).mpr ⟨p,⟨[],[],[]⟩,none,none,rfl,S4,U4,rfl,⟨aa6 _,aa6 _,aa6 _⟩,⟨(λ_ h=>nomatch h),(λ_ h=>nomatch h)⟩,1,n,hTm,he⟩) (λi σ H' _ h=>by obtain ⟨_,_,_,_,_,s,_⟩:=(eP1 _ _ _).mp h;exact s.tup hS) ?_ ?_⟩
 ·intro i v σ H5 hvi hh;refine ob4 ((eP1 _ _ _).mp hh) λq' u v6 v7 hh=>?_;have s5:=hh.2.1;have U5:=hh.2.2.1;have e5:=hh.2.2.2.1;have hul:=hh.2.2.2.2.1;have huw:=hh.2.2.2.2.2.1;have hdm:=hh.2.2.2.2.2.2;obtain rfl:=hh.1;clear hh;obtain ⟨d,m,hp5,he5⟩:=hdm;have fin:∀(q2:Nat) (z:Int) (u2:Und) (w6 w7:Option V) (H':Hp),z=(q2:Int)→ak H H'→nr H' u0 l1 l2 l3 u2→bu kinds ws (sh.drop (i+1)) q2 u2=bu kinds ws sh p ⟨[],[],[]⟩→(u2.hs.length≤i+1∧u2.ns.length≤i+1∧u2.vs.length≤i+1)→Es u2→(∃d m,pend d ((sh.drop (i+1)).map arV)=some 0∧eat d ((ws.drop q2).map arV)=some m)→P1 (i+1) [some (.ref kt),some (.ref st),some (.ref wt),some (.ref et),some (.int z),some (.ref u0),w6,w7] H':=λq2 z u2 w6 w7 H' ez a1 a2 a3 a4 a5 a6=>(eP1 _ _ _).mpr ⟨q2,u2,w6,w7,by rw[ez],a1,a2,a3,a4,a5,a6⟩;have hil:i < sh.length:=(List.getElem?_eq_some_iff.mp hvi).1;have ed:sh.drop i=v::sh.drop (i+1):=by
   rw[aat hil];congr 1
   rw[aa1 hil] at hvi;exact aa4 hvi
  rw[ed] at e5 hp5;obtain ⟨d',rfl⟩:∃d',d=d'+1:=by
   cases d with
   | zero=>cases hp5
   | succ d'=>exact ⟨d',rfl⟩
  have hq:q' < ws.length:=by
   have a1:=Ag _ _ _ he5;have a2:=qo _ _ _ he5;rw[aa0,aap] at a2;omega
  have hx:ws[q']?=some ws[q']:=aa1 hq;obtain ⟨hxw,hxa,hxv⟩:=tw.w _ (ab5 hq);have hat:atI ws (q':Int)=some ws[q']:=bb hx;have hvw:=hs v (aah hvi);have hgd:ws.getD q' .non=ws[q']:=by rw[aae,hx];rfl
  rw[gb,hgd] at e5;generalize ws[q']=x at hx hxw hxa hxv hat hgd e5;have hul':=u.Fp (br kinds v) q' x hul;have huw':=huw.put hxw (br kinds v) q';obtain ⟨b1,b2,b3,b4,b5,b6⟩:=lets;have fl:(kinds.map V.str).all g6=true:=List.all_eq_true.mpr λx hx=>by obtain ⟨z,_,rfl⟩:=List.mem_map.mp hx;rfl
  push_cast [rIn];refine ⟨wt,ws,_,x,rfl,rfl,s5.tup hW,hat,_,.inr (s5.tup hK),hvw.flat,fl,?_⟩;have nav:¬il=V.str (Str.ofString "var"):=by decide+kernel
  have nva:¬gu=V.str (Str.ofString "any"):=by decide+kernel
  rcases dw (kinds:=kinds) hvw with ⟨rfl,h⟩ | ⟨rfl,h⟩ | ⟨⟨z,hz,rfl⟩,h⟩ | ⟨h,hno⟩
  ·rw[if_neg (by rw[show inV il (kinds.map V.str)=false from hk.out (.inl rfl)];decide)];refine ⟨hvw.sc _,?_⟩;rw[if_pos (show il=V.str (Str.ofString "any") from rfl)];obtain ⟨k',rfl⟩:=hxw;cases k' with
   | inl i0=>
    have hli:lies (br kinds il) il (kV (Sum.inl i0))=true:=by unfold lies;rw[h,if_neg b1,if_pos rfl];rfl
    obtain ⟨d2,m2,hp6,he6⟩:=gy hk hvw hx ⟨_,rfl⟩ hp5 he5 hli;rw[if_pos hli,h,if_neg b1] at e5;rw[h,if_neg b1] at he6;rw[h] at hul' huw';exact ⟨_,.int i0,true,rfl,iteT (ay U5.1 rfl (ba U5.2.2.1 (by omega) (fin (q'+1) _ _ _ _ _ (by omega) (s5.upd f2 _) (U5.put2 n20 n21 n32 q' _) e5 hul' huw' ⟨d2,m2,hp6,he6⟩)))⟩
   | inr y=>
    have hli:¬lies (br kinds il) il (kV (Sum.inr y))=true:=by unfold lies;rw[h,if_neg b1,if_pos rfl];exact aak
    rw[if_neg hli] at e5;have z:=q H5 s5;rw[←e5] at z;refine ⟨_,.str y,false,rfl,iteF ⟨hvw.sc _,?_⟩⟩;rw[if_neg nav];refine ⟨hvw.sc2 ⟨_,rfl⟩,?_⟩;rw[if_neg λe=>hxa e.symm];exact z
  ·rw[if_neg (by rw[show inV gu (kinds.map V.str)=false from hk.out (.inr rfl)];decide)];refine ⟨hvw.sc _,?_⟩;rw[if_neg nva];refine ⟨hvw.sc _,?_⟩;rw[if_pos (show gu=V.str (Str.ofString "var") from rfl)];have hxw':=hxw;obtain ⟨k',rfl⟩:=hxw;cases k' with
   | inl i0=>
    have hli:¬lies (br kinds gu) gu (kV (Sum.inl i0))=true:=by unfold lies;rw[h,if_neg b2,if_neg b4,if_pos rfl];exact aak
    rw[if_neg hli] at e5;have z:=q H5 s5;rw[←e5] at z;refine ⟨_,.int i0,false,rfl,iteF ⟨hvw.sc2 ⟨_,rfl⟩,?_⟩⟩;rw[if_neg λe=>hxv e.symm];exact z
   | inr y=>
    refine ⟨_,.str y,true,rfl,iteT ⟨by show (4:Nat)≤sizeLine;decide,λpl hpl=>⟨_,.inl (SqL.of ae),rfl,rfl,?_⟩⟩⟩;have four:=Am hxw';have s6:=s5.trans (aa hpl (.lst [V.str (Str.ofString "add"),V.str (Str.ofString "sub"),V.str (Str.ofString "mul"),V.str (Str.ofString "neg")]));have U6:=U5.same (aa hpl (.lst [V.str (Str.ofString "add"),V.str (Str.ofString "sub"),V.str (Str.ofString "mul"),V.str (Str.ofString "neg")]));by_cases c:0 < arV (kV (Sum.inr y))
    ·have hli:¬lies (br kinds gu) gu (kV (Sum.inr y))=true:=by
      unfold lies;rw[h,if_neg b2,if_neg b4,if_pos rfl,decide_eq_false (by omega),Bool.and_false];decide
     rw[if_neg hli] at e5;have z:=q _ s6;rw[←e5] at z;rw[if_neg (by rw[show inV (kV (Sum.inr y)) [V.str (Str.ofString "add"),V.str (Str.ofString "sub"),V.str (Str.ofString "mul"),V.str (Str.ofString "neg")]=true from four.mpr c];decide)];refine ⟨hvw.sc2 ⟨_,rfl⟩,?_⟩;rw[if_neg λe=>hxv e.symm];exact z
    ·have hli:lies (br kinds gu) gu (kV (Sum.inr y))=true:=by
      unfold lies;rw[h,if_neg b2,if_neg b4,if_pos rfl,decide_eq_true (by omega),Bool.and_true];rfl
     obtain ⟨d2,m2,hp6,he6⟩:=gy hk hvw hx ⟨_,rfl⟩ hp5 he5 hli;rw[if_pos hli,h,if_neg b2] at e5;rw[h,if_neg b2] at he6;rw[h] at hul' huw';have c':inV (kV (Sum.inr y)) [V.str (Str.ofString "add"),V.str (Str.ofString "sub"),V.str (Str.ofString "mul"),V.str (Str.ofString "neg")]=false:=Bool.eq_false_iff.mpr λe=>c (four.mp e);rw[if_pos (by rw[c'];decide)];exact ay U6.1 rfl (ba U6.2.2.2 (by omega) (fin (q'+1) _ _ _ _ _ (by omega) (s6.upd f3 _) (U6.put3 n30 n31 n32 q' _) e5 hul' huw' ⟨d2,m2,hp6,he6⟩))
  ·rw[if_pos (letH h)];have hli:lies (br kinds (.str z)) (.str z) x=true:=by unfold lies;rw[if_pos h]
   obtain ⟨d2,m2,hp6,he6⟩:=gy hk hvw hx hxw hp5 he5 hli;rw[if_pos hli,if_pos h,h] at e5;rw[if_pos h] at he6;rw[h] at hul' huw';have nel:et≠l1:=af hE h1;refine ay U5.1 rfl (ba U5.2.1 (by rw[aa0];omega) (ay (by rw[ah nel];exact s5 _ _ hE) (bb (by rw[aac,aed hq];rfl)) (fin (endAt ws q') _ _ _ _ _ rfl (s5.upd h1 _) (U5.put1 n10 n21 n31 q' x) e5 hul' huw' ⟨d2,m2,hp6,he6⟩)))
  ·obtain ⟨na,nv⟩:=letO h;rw[if_neg (by rw[hno];decide)];refine ⟨hvw.sc _,?_⟩;rw[if_neg (show ¬v=V.str (Str.ofString "any") from na)];refine ⟨hvw.sc _,?_⟩;rw[if_neg (show ¬v=V.str (Str.ofString "var") from nv)];refine ⟨hvw.sc2 hxw,?_⟩;by_cases c:v=x
   ·have hli:lies (br kinds v) v x=true:=by unfold lies;rw[h,if_neg b3,if_neg b5,if_neg b6];exact decide_eq_true c
    obtain ⟨d2,m2,hp6,he6⟩:=gy hk hvw hx hxw hp5 he5 hli;rw[if_pos hli,h,if_neg b3,u.put0] at e5;rw[h,if_neg b3] at he6;rw[h,u.put0] at hul' huw';rw[if_pos c];exact fin (q'+1) _ _ _ _ _ (by omega) s5 U5 e5 hul' huw' ⟨d2,m2,hp6,he6⟩
   ·have hli:¬lies (br kinds v) v x=true:=by unfold lies;rw[h,if_neg b3,if_neg b5,if_neg b6];exact λe=>c (of_decide_eq_true e)
    rw[if_neg hli] at e5;have z:=q H5 s5;rw[←e5] at z;rw[if_neg c];exact z
 ·intro σ H5 hh;refine ob4 ((eP1 _ _ _).mp hh) λq' u v6 v7 hh=>?_;have s5:=hh.2.1;have U5:=hh.2.2.1;have e5:=hh.2.2.2.1;have hul:=hh.2.2.2.2.1;have huw:=hh.2.2.2.2.2.1;have hdm:=hh.2.2.2.2.2.2;obtain rfl:=hh.1;clear hh;obtain ⟨d,m,hp5,he5⟩:=hdm;rw[aby] at e5;have z:=q H5 s5;rw[←e5] at z;push_cast [and_true];refine ay U5.1 rfl ⟨_,.inl ⟨SqL.of U5.2.1,λt1 ht1=>?_⟩⟩;have U6:=U5.same (aa ht1 (.tup (u.hs.map plV)));refine ay U6.1 rfl ⟨_,.inl ⟨SqL.of U6.2.2.1,λt2 ht2=>?_⟩⟩;have U7:=U6.same (aa ht2 (.tup u.ns));refine ay U7.1 rfl ⟨_,.inl ⟨SqL.of U7.2.2.2,λt3 ht3=>⟨by show (3:Nat)≤sizeLine;decide,λt ht=>?_⟩⟩⟩;exact z t _ ((aa ht1 _).trans ((aa ht2 _).trans ((aa ht3 _).trans (aa ht _)))) ⟨t1,t2,t3,ae,aa ht _ _ _ (aa ht3 _ _ _ (aa ht2 _ _ _ ae)),aa ht _ _ _ (aa ht3 _ _ _ ae),aa ht _ _ _ ae⟩ ⟨⟨huw.1,by omega⟩,⟨huw.2,by omega⟩,by omega⟩
noncomputable abbrev wd:Stmt:=top 34
theorem Ki:ax ["deck","names","most","words","due","cell","more","room","far"] ["deck","names","most"] (ag wd):=⟨rfl,rfl,rfl,by decide+kernel,rfl,by decide+kernel,by decide+kernel⟩
theorem Pd (G:Gs w K mg κ) (h_law_next:Has P w K mg base k "_law_next" ["deck"] iw) (D:Def K mg "_law_term" wd ["deck","names","most"]):Has P w K mg base (k+1) "_law_term" ["deck","names","most"] uj:=by
 refine D.has Ki (λvs H Q E h=>?_) (λf cdv A outer s H vs Q E hr h=>?_)
 ·obtain ⟨_,_,_,_,_,_,_,rfl,_,_,_,_,_,_⟩:=h;rfl
 have nd:=Ki.nd;have hu:=cb hr;have hu0:=aag hu;obtain ⟨d,nl,b,ns,zs,m,n,rfl,hD,hN,h1,h2,hn,q⟩:=h;have m_len:=G.m_len;have m_tuple:=G.m_tuple;refine ⟨_,(A4 (A7 3 nd (AC (A3 0))) (A4 (A7 4 nd (A2 0)) (A4 (CF (AB (BG 0) (A0 4) (A2 0) (A9 0)) (A4 (A7 5 nd (AF h_law_next hr (A1 (A0 0) (A3 0)))) (A4 (A7 6 nd (A5 (AU 0) (A0 5) (A2 0))) (A4 (A7 7 nd (A5 (B7 0) (A5 (B7 0) (A0 2) (AS (AX 0) m_len dr (A1 (A0 3) (A3 0)))) (A0 4))) (A6 (AE (B6 (BJ (AB (@j6 _) (A5 (AH 0) (A0 5) (A2 0)) (A2 0) (A9 0)) (BM (AB (BG 0) (A0 7) (A2 0) (A9 0))))) (A4 (AN (AO PySem.F.plainAttrs_list PySem.F.slot_list_append PySem.F.type_list_append (AV 0) (A0 3) (A1 (A8 (AW 0) (AC (BE (AI (AI (AI (BF 0)))))) (A5 (AH 0) (A0 5) (A2 0))) (A3 0)))) (A6 (A7 4 nd (A5 (AQ 0) (A0 4) (A2 0))))) (A6 (AE (B6 (BJ (AB (AR 0) (A5 (AH 0) (A0 5) (A2 0)) (A2 0) (A9 0)) (BM (AB (BG 0) (A0 7) (A2 0) (A9 0))))) (A6 (AN (AO PySem.F.plainAttrs_list PySem.F.slot_list_append PySem.F.type_list_append (AV 0) (A0 3) (A1 (AJ 0) (A3 0))))) (A4 (A7 4 nd (A5 (B7 0) (A0 4) (A2 0))) (A4 (A7 8 nd (A8 (AW 0) (AC (A1 (A2 0) (A1 (A2 0) (A1 (A2 0) (A1 (A5 (@jt _) (A2 0) (A2 0)) (A1 (A5 (@jt _) (A2 0) (A2 0)) (A1 (A5 (@jt _) (A2 0) (A2 0)) (A3 0)))))))) (A5 (AH 0) (A5 (AU 0) (A0 6) (A2 0)) (A2 0)))) (A4 (A7 8 nd (A8 (AW 0) (AC (A1 (A5 (B7 0) (A5 (AH 0) (A5 (AU 0) (A0 6) (A2 0)) (A5 (@jt _) (A2 0) (A2 0))) (A2 0)) (A1 (A0 8) (A1 (A5 (B7 0) (A2 0) (A0 8)) (A3 0))))) (A5 (AH 0) (A5 (AU 0) (A0 6) (A2 0)) (A2 0)))) (A6 (AN (AO PySem.F.plainAttrs_list PySem.F.slot_list_append PySem.F.type_list_append (AV 0) (A0 3) (A1 (A8 (AW 0) (AC (A1 (A8 (AW 0) (A0 1) (A2 0)) (A1 (A8 (AW 0) (A0 1) (A2 0)) (A1 (A8 (AW 0) (A0 1) (A2 0)) (A1 (A2 0) (A1 (A2 0) (A1 (CK (@um _) (A2 0)) (A1 (A2 0) (A1 (A0 8) (A1 (A0 8) (A3 0))))))))))) (A5 (AH 0) (A0 6) (A2 0))) (A3 0)))))))))))))))) (A6 (AD (AY (BA 0) m_tuple de (A1 (A0 3) (A3 0)))))))),?_⟩;rw[show start ["deck","names","most","words","due","cell","more","room","far"] [.ref d,.ref nl,.int (m:Int)]=[some (.ref d),some (.ref nl),some (.int (m:Int)),none,none,none,none,none,none] from rfl];clear hu hu0 nd hr;push_cast [and_true];have sz:=sizeLine_eq;refine ⟨aa6 _,λp hp=>?_⟩;have npd:p≠d:=(af hD.1 hp).symm;obtain ⟨P1,eP1⟩:∃P1:L2.St→Hp→Prop,∀σ H',P1 σ H'↔∃(ws:List V) (due:Nat) (v1 v2 v3 v4:Option V),σ=[some (.ref d),some (.ref nl),some (.int (m:Int)),some (.ref p),some (.int (due:Int)),v1,v2,v3,v4]∧ao d H H'∧H' d=some (.lst [.ref b,.int ((n+ws.length:Nat):Int)])∧H' p=some (.lst ws)∧(∀v∈ws,twW v)∧pend 1 (ws.map arV)=some due∧ws.length+due≤m:=⟨_,λ_ _=>abh⟩;refine ja P1 (λσ H'=>m - ml H' p) ?_ ?_ ?_
 ·exact (eP1 _ _).mpr ⟨[],1,none,none,none,none,rfl,(ao.refl d H).upd hp _,aa hp _ _ _ hD.1,ae,(λ_ h=>nomatch h),rfl,by show 0+1≤m;omega⟩
 ·intro σ H' hh;refine ob6 ((eP1 _ _).mp hh) λws due v1 v2 v3 v4 hh=>?_;have hS:=hh.2.1;have hD':=hh.2.2.1;have hp':=hh.2.2.2.1;have hw:=hh.2.2.2.2.1;have hpd:=hh.2.2.2.2.2.1;have hr:=hh.2.2.2.2.2.2;obtain rfl:=hh.1;clear hh;push_cast [and_true];have hDk:dq H' d b ns (n+ws.length):=hD.next hS hD'
  refine b7 (λhdue=>kr hDk (by omega) λc H1 s1 d1=>?_) λhdue=>?_
  ·push_cast [qp,CPow];have hp1':H1 p=some (.lst ws):=s1 p _ npd hp';have hN1:=hN.lb hD (hS.trans s1);have at':∀i:Nat,i < 60→atI (zs.map V.str) (i:Int)=some (.str (zs.getD i "")):=λi hi=>bb (by rw[aac,aae,aa1 (by rw[hN.2.1];exact hi)];rfl);have ok':∀i:Nat,i < 60→nmOk (zs.getD i ""):=λi hi=>by
    rw[aae,aa1 (by rw[hN.2.1];exact hi)];exact hN.2.2.2 _ (ab5 _)
   have app:∀(v:V) (H2:Hp) (dd:Int),twW v→dd=(due:Int) - 1+(arV v:Int)→ws.length+due+arV v≤m→ak H1 H2→
     ∀w1 w2 w3 w4,ox (.ref p) [v] H2 λ_ H3=>P1 [some (.ref d),some (.ref nl),some (.int (m:Int)),some (.ref p),some (.int dd),w1,w2,w3,w4] H3∧m - ml H3 p < m - ml H' p:=by
    intro v H2 dd hv hdd hroom s2 w1 w2 w3 w4;have hp2:=s2 _ _ hp1';refine ⟨p,ws,v,rfl,rfl,hp2,by omega,(eP1 _ _).mpr ⟨ws++[v],due - 1+arV v,w1,w2,w3,w4,by rw[show dd=((due - 1+arV v:Nat):Int) by omega],(hS.trans (s1.trans (ao.of s2))).upd hp _,?_,ae,λx hx=>?_,?_,?_⟩,?_⟩
    ·rw[ah npd.symm,aa2];exact s2 _ _ d1
    ·rcases List.mem_append.mp hx with h | h
     ·exact hw x h
     ·rw[List.mem_singleton.mp h];exact hv
    ·rw[aa8];exact yb _ _ _ _ hpd (by omega)
    ·rw[aa2,aaa];omega
    ·rw[gg ae,gg hp',aa2,aaa];omega
   refine ⟨ws,.inl (SqL.of hp1'),b7 (λc3=>b7 (λr1=>⟨aw hp1',by show (3:Nat)≤sizeLine;decide,λp2 hp2=>?_⟩) λr1=>⟨rfl,b7 (λe4=>by omega) λe4=>?_⟩) λc3=>⟨rfl,b7 (λe4=>b7 (λr0=>⟨aw hp1',?_⟩) λr0=>?_) λe4=>?_⟩⟩
   ·obtain ⟨y,hy,hym⟩:=dg [V.str (Str.ofString "add"),V.str (Str.ofString "sub"),V.str (Str.ofString "mul")] (c % 7) (aas _ (by decide)) (by show c % 7 < 3;omega);obtain ⟨z,rfl,a2⟩:∃z,y=V.str z∧arS z=2:=by
     simp only[aan,aa9,or_false] at hym;rcases hym with rfl | rfl | rfl
     ·exact ⟨_,rfl,by decide+kernel⟩
     ·exact ⟨_,rfl,by decide+kernel⟩
     ·exact ⟨_,rfl,by decide+kernel⟩
    have a2':arV (.str z)=2:=a2;exact ay ae hy (app (.str z) _ ((due:Int)+1) (twW_op (by omega)) (by rw[a2'];omega) (by rw[a2'];omega) (aa hp2 _) _ _ _ _)
   ·refine ⟨by decide,by decide,by decide,by show (6:Nat)≤sizeLine;decide,λp1 hp1=>?_⟩;obtain ⟨f1,hf1,hm1⟩:=dg [V.int 3,V.int 7,V.int 41,V.int (10 ^ ab0 3),V.int (10 ^ ab0 9),V.int (10 ^ ab0 29)] (c / 7 / 27 % 6) (aas _ (by decide)) (by show c / 7 / 27 % 6 < 6;omega);obtain ⟨i1,rfl⟩:∃i,f1=V.int i:=by
     simp only[aan,aa9,or_false] at hm1;rcases hm1 with rfl | rfl | rfl | rfl | rfl | rfl <;> exact ⟨_,rfl⟩
    refine ay ae hf1 ⟨by decide,by decide+kernel,by show (3:Nat)≤sizeLine;decide,λp2 hp2=>?_⟩;obtain ⟨f2,hf2,hm2⟩:=dg [V.int (c / 7 / 9 % 10 ^ ab0 20 - 7),V.int i1,V.int (0 - i1)] (c / 7 / 9 % 3) (aas _ (by decide)) (by show c / 7 / 9 % 3 < 3;omega);obtain ⟨i2,rfl⟩:∃i,f2=V.int i:=by
     simp only[aan,aa9,or_false] at hm2;rcases hm2 with rfl | rfl | rfl <;> exact ⟨_,rfl⟩
    have s2:=(aa hp1 (.lst [V.int 3,V.int 7,V.int 41,V.int (10 ^ ab0 3),V.int (10 ^ ab0 9),V.int (10 ^ ab0 29)])).trans (aa hp2 (.lst [V.int (c / 7 / 9 % 10 ^ ab0 20 - 7),V.int i1,V.int (0 - i1)]));refine ay ae hf2 ⟨aw (s2 _ _ hp1'),ay (s2 _ _ hN1.1) (at' 0 (by decide)) (ay (s2 _ _ hN1.1) (at' 50 (by decide)) (ay (s2 _ _ hN1.1) (at' 51 (by decide)) ⟨by show (9:Nat)≤sizeLine;decide,λp3 hp3=>?_⟩))⟩;obtain ⟨f3,hf3,hm3⟩:=dg [V.str (zs.getD 0 ""),V.str (zs.getD 50 ""),V.str (zs.getD 51 ""),V.int 0,V.int 2,V.int (-1),V.int 5,V.int i2,V.int i2] (c / 7 % 9) (aas _ (by decide)) (by show c / 7 % 9 < 9;omega);obtain ⟨t3,a3⟩:twW f3∧arV f3=0:=by
     simp only[aan,aa9,or_false] at hm3;rcases hm3 with rfl | rfl | rfl | rfl | rfl | rfl | rfl | rfl | rfl
     ·exact ⟨twW_name (ok' 0 (by decide)),(ok' 0 (by decide)).1⟩
     ·exact ⟨twW_name (ok' 50 (by decide)),(ok' 50 (by decide)).1⟩
     ·exact ⟨twW_name (ok' 51 (by decide)),(ok' 51 (by decide)).1⟩
     all_goals exact ⟨twW_int _,rfl⟩
    exact ay ae hf3 (app f3 _ ((due:Int) - 1) t3 (by rw[a3];omega) (by rw[a3];omega) (s2.trans (aa hp3 _)) _ _ _ _)
   ·have an:arV (.str (Str.ofString "neg"))=1:=zx;exact app (.str (Str.ofString "neg")) H1 (due:Int) (twW_op (by decide+kernel)) (by rw[an];omega) (by rw[an];omega) (ak.refl _) _ _ _ _
   ·refine ⟨by decide,by decide,by decide,by show (6:Nat)≤sizeLine;decide,λp1 hp1=>?_⟩;obtain ⟨f1,hf1,hm1⟩:=dg [V.int 3,V.int 7,V.int 41,V.int (10 ^ ab0 3),V.int (10 ^ ab0 9),V.int (10 ^ ab0 29)] (c / 7 / 27 % 6) (aas _ (by decide)) (by show c / 7 / 27 % 6 < 6;omega);obtain ⟨i1,rfl⟩:∃i,f1=V.int i:=by
     simp only[aan,aa9,or_false] at hm1;rcases hm1 with rfl | rfl | rfl | rfl | rfl | rfl <;> exact ⟨_,rfl⟩
    refine ay ae hf1 ⟨by decide,by decide+kernel,by show (3:Nat)≤sizeLine;decide,λp2 hp2=>?_⟩;obtain ⟨f2,hf2,hm2⟩:=dg [V.int (c / 7 / 9 % 10 ^ ab0 20 - 7),V.int i1,V.int (0 - i1)] (c / 7 / 9 % 3) (aas _ (by decide)) (by show c / 7 / 9 % 3 < 3;omega);obtain ⟨i2,rfl⟩:∃i,f2=V.int i:=by
     simp only[aan,aa9,or_false] at hm2;rcases hm2 with rfl | rfl | rfl <;> exact ⟨_,rfl⟩
    have s2:=(aa hp1 (.lst [V.int 3,V.int 7,V.int 41,V.int (10 ^ ab0 3),V.int (10 ^ ab0 9),V.int (10 ^ ab0 29)])).trans (aa hp2 (.lst [V.int (c / 7 / 9 % 10 ^ ab0 20 - 7),V.int i1,V.int (0 - i1)]));refine ay ae hf2 ⟨aw (s2 _ _ hp1'),ay (s2 _ _ hN1.1) (at' 0 (by decide)) (ay (s2 _ _ hN1.1) (at' 50 (by decide)) (ay (s2 _ _ hN1.1) (at' 51 (by decide)) ⟨by show (9:Nat)≤sizeLine;decide,λp3 hp3=>?_⟩))⟩;obtain ⟨f3,hf3,hm3⟩:=dg [V.str (zs.getD 0 ""),V.str (zs.getD 50 ""),V.str (zs.getD 51 ""),V.int 0,V.int 2,V.int (-1),V.int 5,V.int i2,V.int i2] (c / 7 % 9) (aas _ (by decide)) (by show c / 7 % 9 < 9;omega);obtain ⟨t3,a3⟩:twW f3∧arV f3=0:=by
     simp only[aan,aa9,or_false] at hm3;rcases hm3 with rfl | rfl | rfl | rfl | rfl | rfl | rfl | rfl | rfl
     ·exact ⟨twW_name (ok' 0 (by decide)),(ok' 0 (by decide)).1⟩
     ·exact ⟨twW_name (ok' 50 (by decide)),(ok' 50 (by decide)).1⟩
     ·exact ⟨twW_name (ok' 51 (by decide)),(ok' 51 (by decide)).1⟩
     all_goals exact ⟨twW_int _,rfl⟩
    exact ay ae hf3 (app f3 _ ((due:Int) - 1) t3 (by rw[a3];omega) (by rw[a3];omega) (s2.trans (aa hp3 _)) _ _ _ _)
   ·refine ⟨by decide,by decide,by decide,by show (6:Nat)≤sizeLine;decide,λp1 hp1=>?_⟩;obtain ⟨f1,hf1,hm1⟩:=dg [V.int 3,V.int 7,V.int 41,V.int (10 ^ ab0 3),V.int (10 ^ ab0 9),V.int (10 ^ ab0 29)] (c / 7 / 27 % 6) (aas _ (by decide)) (by show c / 7 / 27 % 6 < 6;omega);obtain ⟨i1,rfl⟩:∃i,f1=V.int i:=by
     simp only[aan,aa9,or_false] at hm1;rcases hm1 with rfl | rfl | rfl | rfl | rfl | rfl <;> exact ⟨_,rfl⟩
    refine ay ae hf1 ⟨by decide,by decide+kernel,by show (3:Nat)≤sizeLine;decide,λp2 hp2=>?_⟩;obtain ⟨f2,hf2,hm2⟩:=dg [V.int (c / 7 / 9 % 10 ^ ab0 20 - 7),V.int i1,V.int (0 - i1)] (c / 7 / 9 % 3) (aas _ (by decide)) (by show c / 7 / 9 % 3 < 3;omega);obtain ⟨i2,rfl⟩:∃i,f2=V.int i:=by
     simp only[aan,aa9,or_false] at hm2;rcases hm2 with rfl | rfl | rfl <;> exact ⟨_,rfl⟩
    have s2:=(aa hp1 (.lst [V.int 3,V.int 7,V.int 41,V.int (10 ^ ab0 3),V.int (10 ^ ab0 9),V.int (10 ^ ab0 29)])).trans (aa hp2 (.lst [V.int (c / 7 / 9 % 10 ^ ab0 20 - 7),V.int i1,V.int (0 - i1)]));refine ay ae hf2 ⟨aw (s2 _ _ hp1'),ay (s2 _ _ hN1.1) (at' 0 (by decide)) (ay (s2 _ _ hN1.1) (at' 50 (by decide)) (ay (s2 _ _ hN1.1) (at' 51 (by decide)) ⟨by show (9:Nat)≤sizeLine;decide,λp3 hp3=>?_⟩))⟩;obtain ⟨f3,hf3,hm3⟩:=dg [V.str (zs.getD 0 ""),V.str (zs.getD 50 ""),V.str (zs.getD 51 ""),V.int 0,V.int 2,V.int (-1),V.int 5,V.int i2,V.int i2] (c / 7 % 9) (aas _ (by decide)) (by show c / 7 % 9 < 9;omega);obtain ⟨t3,a3⟩:twW f3∧arV f3=0:=by
     simp only[aan,aa9,or_false] at hm3;rcases hm3 with rfl | rfl | rfl | rfl | rfl | rfl | rfl | rfl | rfl
     ·exact ⟨twW_name (ok' 0 (by decide)),(ok' 0 (by decide)).1⟩
     ·exact ⟨twW_name (ok' 50 (by decide)),(ok' 50 (by decide)).1⟩
     ·exact ⟨twW_name (ok' 51 (by decide)),(ok' 51 (by decide)).1⟩
     all_goals exact ⟨twW_int _,rfl⟩
    exact ay ae hf3 (app f3 _ ((due:Int) - 1) t3 (by rw[a3];omega) (by rw[a3];omega) (s2.trans (aa hp3 _)) _ _ _ _)
  ·have d0:due=0:=by omega
   subst d0;refine ⟨ws,.inl ⟨SqL.of hp',λt ht=>?_⟩⟩;have htn:=hS.free hD' ht;exact q t (n+ws.length) _ ws (hS.upd htn _) (by rw[ah (af hD' ht)];exact hD') (by omega) htn ae ⟨hw,hpd,by omega⟩ (by omega)
 ·intro σ H' Q1 Q2 hq h;simp only[xi,tOp,rI0,gz,tC,jl,iu,tB] at h ⊢;obtain ⟨v,hv,i,j,e1,e2,k,e3,h⟩:=h;exact ⟨v,hv,i,j,e1,e2,k,e3,hq _ _ h⟩
noncomputable abbrev n0:Stmt:=top 31
theorem Fg:ax ["deck","kinds","words","due","left","wide","cell","more","far","number"] ["deck","kinds"] (ag n0):=⟨rfl,rfl,rfl,by decide+kernel,rfl,by decide+kernel,by decide+kernel⟩
theorem Km (G:Gs w K mg κ) (h_law_next:Has P w K mg base k "_law_next" ["deck"] iw) (D:Def K mg "_law_shape" n0 ["deck","kinds"]):Has P w K mg base (k+1) "_law_shape" ["deck","kinds"] ud:=by
 refine D.has Fg (λvs H Q E h=>?_) (λf cdv A outer s H vs Q E hr h=>?_)
 ·obtain ⟨_,_,_,_,_,_,rfl,_,_,_,_,_,_,_⟩:=h;rfl
 have nd:=Fg.nd;have hu:=cb hr;have hu0:=aag hu;obtain ⟨d,kt,b,ns,kinds,n,rfl,hD,hK,hk,h1,h2,hn,q⟩:=h;have m_int:=G.m_int;have m_len:=G.m_len;have m_tuple:=G.m_tuple;refine ⟨_,(A4 (A7 2 nd (AC (A3 0))) (A4 (A7 3 nd (A2 0)) (A4 (A7 4 nd (AF h_law_next hr (A1 (A0 0) (A3 0)))) (A4 (A7 5 nd (CH (AR 0) (A5 (AH 0) (A5 (AU 0) (A0 4) (A2 0)) (A2 0)) (A2 0) (A9 0))) (A4 (A7 4 nd (A8 (AW 0) (AC (A1 (A5 (AQ 0) (A2 0) (A5 (AH 0) (A0 4) (A2 0))) (A1 (A2 0) (A3 0)))) (AY (@ik _) m_int wz (A1 (A0 5) (A3 0))))) (A4 (CF (AB (BG 0) (A0 3) (A2 0) (A9 0)) (A4 (A7 6 nd (AF h_law_next hr (A1 (A0 0) (A3 0)))) (A4 (A7 7 nd (A5 (AU 0) (A0 6) (A2 0))) (A6 (AE (B6 (BJ (AB (BG 0) (A0 4) (A2 0) (A9 0)) (BM (AB (@j6 _) (A5 (AH 0) (A0 6) (A2 0)) (A5 (AQ 0) (A2 0) (AY (@ik _) m_int wz (A1 (A0 5) (A3 0)))) (A9 0))))) (A4 (A7 4 nd (A5 (B7 0) (A0 4) (A2 0))) (A4 (AN (AO PySem.F.plainAttrs_list PySem.F.slot_list_append PySem.F.type_list_append (AV 0) (A0 2) (A1 (A8 (AW 0) (AC (BE (AI (AI (AI (AI (BF 0))))))) (A5 (AH 0) (A0 7) (A2 0))) (A3 0)))) (A6 (A7 3 nd (A5 (AQ 0) (A0 3) (AY (@ik _) m_int wz (A1 (CH (@j6 _) (A5 (AH 0) (A0 7) (A2 0)) (A2 0) (A9 0)) (A3 0)))))))) (A6 (AE (B6 (BJ (AB (BG 0) (A0 4) (A2 0) (A9 0)) (BM (AB (AR 0) (A5 (AH 0) (A0 6) (A2 0)) (A2 0) (A9 0))))) (A4 (A7 4 nd (A5 (B7 0) (A0 4) (A2 0))) (A4 (A7 3 nd (A5 (B7 0) (A0 3) (A2 0))) (A4 (A7 8 nd (A8 (AW 0) (AC (A1 (A2 0) (A1 (A2 0) (A1 (A2 0) (A1 (A5 (@jt _) (A2 0) (A2 0)) (A1 (A5 (@jt _) (A2 0) (A2 0)) (A1 (A5 (@jt _) (A2 0) (A2 0)) (A3 0)))))))) (A5 (AH 0) (A5 (AU 0) (A0 7) (A2 0)) (A2 0)))) (A4 (A7 9 nd (A8 (AW 0) (AC (A1 (A2 0) (A1 (A2 0) (A1 (CK (@um _) (A2 0)) (A1 (A2 0) (A1 (A0 8) (A1 (A5 (B7 0) (A2 0) (A0 8)) (A3 0)))))))) (A5 (AH 0) (A5 (AU 0) (A0 7) (A2 0)) (A2 0)))) (A6 (AN (AO PySem.F.plainAttrs_list PySem.F.slot_list_append PySem.F.type_list_append (AV 0) (A0 2) (A1 (A8 (AW 0) (AC (A1 (AJ 0) (A1 (AJ 0) (A1 (A0 9) (A3 0))))) (A5 (AH 0) (A0 7) (A2 0))) (A3 0))))))))) (A4 (A7 3 nd (A5 (B7 0) (A0 3) (A2 0))) (A6 (AN (AO PySem.F.plainAttrs_list PySem.F.slot_list_append PySem.F.type_list_append (AV 0) (A0 2) (A1 (A8 (AG 0) (A0 1) (A5 (AH 0) (A0 7) (AS (AX 0) m_len dr (A1 (A0 1) (A3 0))))) (A3 0))))))))))))) (A6 (AD (AY (BA 0) m_tuple de (A1 (A0 2) (A3 0))))))))))),?_⟩;rw[show start ["deck","kinds","words","due","left","wide","cell","more","far","number"] [.ref d,.ref kt]=[some (.ref d),some (.ref kt),none,none,none,none,none,none,none,none] from rfl];clear hu hu0 nd hr;push_cast [and_true];have sz:=sizeLine_eq;refine ⟨aa6 _,λp hp=>?_⟩;have npd:p≠d:=(af hD.1 hp).symm;refine kr (b:=b) (ns:=ns) (n:=n) ⟨aa hp _ _ _ hD.1,aa hp _ _ _ hD.2⟩ (by omega) λc0 H1 s1 d1=>?_;push_cast [qp];refine ⟨rfl,by show (2:Nat)≤sizeLine;decide,λp1 hp1=>?_⟩;have D0:dq (upd H p (.lst [])) d b ns n:=⟨aa hp _ _ _ hD.1,aa hp _ _ _ hD.2⟩;have D1:=D0.next s1 d1
 have S1:ao d H H1:=(ao.of (aa hp _)).trans s1;have hp1':H1 p=some (.lst []):=s1 p _ npd ae;obtain ⟨L0,hL1,hL2,hat⟩:∃L0:Nat,1≤L0∧L0≤5∧atI [V.int (1+c0 % 4),V.int 5] (if c0 / 4 % 8=3 then 1 else 0)=some (.int (L0:Int)):=by
  have a0:0≤c0 % 4:=aas _ (by decide);by_cases e:c0 / 4 % 8=3
  ·rw[if_pos e];exact ⟨5,by decide,by decide,rfl⟩
  ·rw[if_neg e];exact ⟨(1+c0 % 4).toNat,by omega,by omega,(show atI [V.int (1+c0 % 4),V.int 5] 0=some (V.int (1+c0 % 4)) from rfl).trans (by rw[show (((1+c0 % 4).toNat:Nat):Int)=1+c0 % 4 by omega])⟩
 refine ay ae hat ?_;have S2:=S1.upd (S1.free d1 hp1) (.lst [V.int (1+c0 % 4),V.int 5]);have d2:=aa hp1 (.lst [V.int (1+c0 % 4),V.int 5]) _ _ d1;have p2:=aa hp1 (.lst [V.int (1+c0 % 4),V.int 5]) _ _ hp1';generalize upd H1 p1 (.lst [V.int (1+c0 % 4),V.int 5])=H2 at S2 d2 p2 ⊢;obtain ⟨P1,eP1⟩:∃P1:L2.St→Hp→Prop,∀σ H',P1 σ H'↔∃(ws:List V) (due left:Nat) (v6 v7 v8 v9:Option V),σ=[some (.ref d),some (.ref kt),some (.ref p),some (.int (due:Int)),some (.int (left:Int)),some (.bl (decide (c0 / 4 % 8=3))),v6,v7,v8,v9]∧ao d H H'∧H' d=some (.lst [.ref b,.int ((n+1+ws.length:Nat):Int)])∧H' p=some (.lst ws)∧(∀v∈ws,isW v)∧pend 1 (ws.map arV)=some due∧ws.length+due+2*left≤11∧(ws.filter λv=>!inV v (kinds.map V.str)).length+left≤5:=⟨_,λ_ _=>abh⟩;refine ja P1 (λσ H'=>11 - ml H' p) ?_ ?_ ?_
 ·exact (eP1 _ _).mpr ⟨[],1,L0,none,none,none,none,rfl,S2,d2,p2,(λ_ h=>nomatch h),rfl,by show 0+1+2*L0≤11;omega,by show 0+L0≤5;omega⟩
 ·intro σ H' hh;refine ob7 ((eP1 _ _).mp hh) λws due left v6 v7 v8 v9 hh=>?_;have hS:=hh.2.1;have hD':=hh.2.2.1;have hp':=hh.2.2.2.1;have hw:=hh.2.2.2.2.1;have hpd:=hh.2.2.2.2.2.1;have hr:=hh.2.2.2.2.2.2.1;have hfew:=hh.2.2.2.2.2.2.2;obtain rfl:=hh.1;clear hh;push_cast [and_true];have hDk:dq H' d b ns (n+1+ws.length):=hD.next hS hD'
  refine b7 (λhdue=>kr hDk (by omega) λc H3 s3 d3=>?_) λhdue=>?_
  ·push_cast [qp,CPow];have p3:H3 p=some (.lst ws):=s3 p _ npd hp';have k3:H3 kt=some (.tup (kinds.map V.str)):=(hS.trans s3) kt _ (gq hK hD.1 (by intro e;cases e)) hK;have app:∀(v:V) (H4:Hp) (dd:Int) (left':Nat),isW v→dd=(due:Int) - 1+(arV v:Int)→ws.length+due+arV v+2*left'≤11→(left'+1=left∨(left'=left∧inV v (kinds.map V.str)=true))→ak H3 H4→
     ∀w6 w7 w8 w9,ox (.ref p) [v] H4 λ_ H5=>P1 [some (.ref d),some (.ref kt),some (.ref p),some (.int dd),some (.int (left':Int)),some (.bl (decide (c0 / 4 % 8=3))),w6,w7,w8,w9] H5∧11 - ml H5 p < 11 - ml H' p:=by
    intro v H4 dd left' hv hdd hroom hlf s4 w6 w7 w8 w9;have p4:=s4 _ _ p3;refine ⟨p,ws,v,rfl,rfl,p4,by omega,(eP1 _ _).mpr ⟨ws++[v],due - 1+arV v,left',w6,w7,w8,w9,by rw[show dd=((due - 1+arV v:Nat):Int) by omega],(hS.trans (s3.trans (ao.of s4))).upd hp _,?_,ae,λx hx=>?_,?_,?_,?_⟩,?_⟩
    ·rw[ah npd.symm,aa2];exact s4 _ _ d3
    ·rcases List.mem_append.mp hx with h | h
     ·exact hw x h
     ·rw[List.mem_singleton.mp h];exact hv
    ·rw[aa8];exact yb _ _ _ _ hpd (by omega)
    ·rw[aa2,aaa];omega
    ·rw[abf,aa2];rcases hlf with h | ⟨h,hin⟩
     ·have:([v].filter λv=>!inV v (kinds.map V.str)).length≤1:=ab8 _ _;omega
     ·have:[v].filter (λv=>!inV v (kinds.map V.str))=[]:=by rw[aar,hin];rfl
      rw[this,acd];omega
    ·rw[gg ae,gg hp',aa2,aaa];omega
   refine b7 (λl0=>b7 (λa1=>⟨aw p3,by show (4:Nat)≤sizeLine;decide,λp4 hp4=>?_⟩) λa1=>b7 (λ_=>⟨rfl,b7 (λe3=>?_) λe3=>?_⟩) λnl=>absurd l0 nl) λnl=>b7 (λl0=>absurd l0 nl) λ_=>?_
   ·obtain ⟨y,hy,hw2,ha2⟩:∃y,atI [V.str (Str.ofString "add"),V.str (Str.ofString "sub"),V.str (Str.ofString "mul"),V.str (Str.ofString "neg")] (c / 5 % 4)=some y∧isW y∧((due:Int)+if c / 5 % 4 < 3 then 1 else 0)=(due:Int) - 1+(arV y:Int):=by
     rcases (show c / 5 % 4=((0:Nat):Int)∨c / 5 % 4=((1:Nat):Int)∨c / 5 % 4=((2:Nat):Int)∨c / 5 % 4=((3:Nat):Int) by omega) with e | e | e | e
     ·rw[e];exact ⟨_,bb rfl,⟨Sum.inr _,rfl⟩,by rw[show arV (.str (Str.ofString "add"))=2 by decide+kernel,if_pos (by decide)];omega⟩
     ·rw[e];exact ⟨_,bb rfl,⟨Sum.inr _,rfl⟩,by rw[show arV (.str (Str.ofString "sub"))=2 by decide+kernel,if_pos (by decide)];omega⟩
     ·rw[e];exact ⟨_,bb rfl,⟨Sum.inr _,rfl⟩,by rw[show arV (.str (Str.ofString "mul"))=2 by decide+kernel,if_pos (by decide)];omega⟩
     ·rw[e];exact ⟨_,bb rfl,⟨Sum.inr _,rfl⟩,by rw[show arV (.str (Str.ofString "neg"))=1 from zx,if_neg (by decide)];omega⟩
    have ar2:=xf y;obtain ⟨l',rfl⟩:∃l',left=l'+1:=⟨left - 1,by omega⟩;rw[show ((l'+1:Nat):Int) - 1=(l':Int) by omega];exact ay ae hy (app y _ _ l' hw2 ha2 (by omega) (.inl rfl) (aa hp4 _) _ _ _ _)
   ·obtain ⟨l',rfl⟩:∃l',left=l'+1:=⟨left - 1,by omega⟩;rw[show ((l'+1:Nat):Int) - 1=(l':Int) by omega];refine ⟨by decide,by decide,by decide,by show (6:Nat)≤sizeLine;decide,λp4 hp4=>?_⟩;obtain ⟨f1,hf1,hm1⟩:=dg [V.int 3,V.int 7,V.int 41,V.int (10 ^ ab0 3),V.int (10 ^ ab0 9),V.int (10 ^ ab0 29)] (c / 5 / 18 % 6) (aas _ (by decide)) (by show c / 5 / 18 % 6 < 6;omega);obtain ⟨i1,rfl⟩:∃i,f1=V.int i:=by
     simp only[aan,aa9,or_false] at hm1;rcases hm1 with rfl | rfl | rfl | rfl | rfl | rfl <;> exact ⟨_,rfl⟩
    refine ay ae hf1 ⟨by show (6:Nat)≤sizeLine;decide,λp5 hp5=>?_⟩;obtain ⟨f2,hf2,hm2⟩:=dg [V.int 0,V.int 2,V.int (-1),V.int 5,V.int i1,V.int (0 - i1)] (c / 5 / 3 % 6) (aas _ (by decide)) (by show c / 5 / 3 % 6 < 6;omega);obtain ⟨i2,rfl⟩:∃i,f2=V.int i:=by
     simp only[aan,aa9,or_false] at hm2;rcases hm2 with rfl | rfl | rfl | rfl | rfl | rfl <;> exact ⟨_,rfl⟩
    have s5:=(aa hp4 (.lst [V.int 3,V.int 7,V.int 41,V.int (10 ^ ab0 3),V.int (10 ^ ab0 9),V.int (10 ^ ab0 29)])).trans (aa hp5 (.lst [V.int 0,V.int 2,V.int (-1),V.int 5,V.int i1,V.int (0 - i1)]));refine ay ae hf2 ⟨aw (s5 _ _ p3),by show (3:Nat)≤sizeLine;decide,λp6 hp6=>?_⟩;obtain ⟨f3,hf3,hm3⟩:=dg [V.str (Str.ofString "any"),V.str (Str.ofString "var"),V.int i2] (c / 5 % 3) (aas _ (by decide)) (by show c / 5 % 3 < 3;omega);obtain ⟨t3,a3⟩:isW f3∧arV f3=0:=by
     simp only[aan,aa9,or_false] at hm3;rcases hm3 with rfl | rfl | rfl
     ·exact ⟨⟨Sum.inr _,rfl⟩,rq⟩
     ·exact ⟨⟨Sum.inr _,rfl⟩,rg⟩
     ·exact ⟨⟨Sum.inl _,rfl⟩,rfl⟩
    exact ay ae hf3 (app f3 _ ((due:Int) - 1) l' t3 (by rw[a3];omega) (by rw[a3];omega) (.inl rfl) (s5.trans (aa hp6 _)) _ _ _ _)
   ·have hm:=dg (kinds.map V.str) (c / 5 % (((kinds.map V.str).length:Nat):Int)) (aas _ (by rw[aa0];omega)) (ac1 _ (by rw[aa0];omega));obtain ⟨y,hy,hym⟩:=hm;obtain ⟨z,hz,rfl⟩:=List.mem_map.mp hym;have a0:arV (.str z)=0:=(hk z hz).1;have kn:inV (.str z) (kinds.map V.str)=true:=t4 hym;exact ⟨aw p3,_,.inr (SqT.of k3),by rw[aa0];omega,au k3 hy (app (.str z) H3 ((due:Int) - 1) left ⟨Sum.inr z,rfl⟩ (by rw[a0];omega) (by rw[a0];omega) (.inr ⟨rfl,kn⟩) (ak.refl _) _ _ _ _)⟩
   ·have hm:=dg (kinds.map V.str) (c / 5 % (((kinds.map V.str).length:Nat):Int)) (aas _ (by rw[aa0];omega)) (ac1 _ (by rw[aa0];omega));obtain ⟨y,hy,hym⟩:=hm;obtain ⟨z,hz,rfl⟩:=List.mem_map.mp hym;have a0:arV (.str z)=0:=(hk z hz).1;have kn:inV (.str z) (kinds.map V.str)=true:=t4 hym;exact ⟨aw p3,_,.inr (SqT.of k3),by rw[aa0];omega,au k3 hy (app (.str z) H3 ((due:Int) - 1) left ⟨Sum.inr z,rfl⟩ (by rw[a0];omega) (by rw[a0];omega) (.inr ⟨rfl,kn⟩) (ak.refl _) _ _ _ _)⟩
  ·have d0:due=0:=by omega
   subst d0;refine ⟨ws,.inl ⟨SqL.of hp',λt ht=>?_⟩⟩;have htn:=hS.free hD' ht;exact q t (n+1+ws.length) _ ws (hS.upd htn _) (by rw[ah (af hD' ht)];exact hD') (by omega) htn ae ⟨hw,hpd,by omega,by omega⟩
 ·intro σ H' Q1 Q2 hq h;simp only[xi,tOp,rI0,gz,tC,jl,iu,tB] at h ⊢;obtain ⟨v,hv,i,j,e1,e2,k,e3,h⟩:=h;exact ⟨v,hv,i,j,e1,e2,k,e3,hq _ _ h⟩
noncomputable abbrev ni:Stmt:=top 32
theorem E5:ax ["kinds","shape","stack","deeds","free","back","at","word","count","read","turn","box"] ["kinds","shape"] (ag ni):=⟨rfl,rfl,rfl,by decide+kernel,rfl,by decide+kernel,by decide+kernel⟩
theorem Kb (G:Gs w K mg κ) (D:Def K mg "_law_deeds" ni ["kinds","shape"]):Has P w K mg base (k+1) "_law_deeds" ["kinds","shape"] (ub K):=by
 refine D.has E5 (λvs H Q E h=>?_) (λf cdv A outer s H vs Q E hr h=>?_)
 ·obtain ⟨_,_,_,_,rfl,_,_,_,_,_⟩:=h;rfl
 have nd:=E5.nd;have hu:=cb hr;have hu0:=aag hu;obtain ⟨kt,st,kinds,sh,rfl,hK,hS,hk,ok,q⟩:=h;have m_int:=G.m_int;have m_isinstance:=G.m_isinstance;have m_len:=G.m_len;have m_range:=G.m_range;have m_str:=G.m_str;have m_tuple:=G.m_tuple;refine ⟨_,(A4 (A7 2 nd (AC (A3 0))) (A4 (A7 3 nd (AC (A3 0))) (A4 (A7 4 nd (AC (BE (AI (AI (AI (BF 0))))))) (A4 (AZ (BX m_range (A1 (AS (AX 0) m_len dr (A1 (A0 1) (A3 0))) (A3 0))) (AM 5 nd (by first | exact aaz rfl | exact ab4 rfl)) (A4 (A7 6 nd (A5 (B7 0) (A5 (B7 0) (AS (AX 0) m_len dr (A1 (A0 1) (A3 0))) (A2 0)) (A0 5))) (A4 (BY 7 nd (A8 (AG 0) (A0 1) (A0 6))) (A4 (A7 8 nd (AY (@Ax _) m_str Ge (A1 (AS (AX 0) m_len dr (A1 (BT (BI ["one"] ["word","kinds"] [7,0] (aaj rfl (aaj rfl trivial)) (aaj (aaj rfl (aaj rfl rfl)) (aaj (aaj rfl (aaj rfl rfl)) trivial))) (BL (C9 (@Fd _) (A0 1) (@ll _) (CC (A5 (AQ 0) (A0 6) (A2 0))))) (λ_ _ _=>(B0 0 (show aba (["one","word","kinds"]:List Str) by decide+kernel))) (λ_ _ _=>(BS (B6 (BV (AB (AR 0) (A0 0) (AA 1) (A9 0)) (C7 (B6 (BJ (BK (@oh _ K rfl) (AA 1) (AA 2)) (BM (BK (@oh _ K rfl) (A0 0) (AA 2)))))))))) (λ_ _ _=>(A0 0))) (A3 0))) (A3 0)))) (A4 (AE (BK (BR 0) (AA 7) (AA 0)) (A4 (AN (AO PySem.F.plainAttrs_list PySem.F.slot_list_append PySem.F.type_list_append (AV 0) (A0 2) (A1 (A5 (BQ 0) (AJ 0) (A0 8)) (A3 0)))) (A6 (@Bu _ _))) (AL 0)) (A4 (A7 9 nd (AC (A3 0))) (A4 (AZ (BX m_range (A1 (A5 (AQ 0) (AY (@ik _) m_int wz (A1 (@Az _ _ _ _ _ _ _ _ (BR 0) (AA 7) (AC (BE (AI (AI (AI (AI (BF 0))))))) (by with_unfolding_all rfl)) (A3 0))) (AY (@ik _) m_int wz (A1 (@Az _ _ _ _ _ _ _ _ (BR 0) (AA 7) (AC (BE (AI (AI (AI (BF 0)))))) (by with_unfolding_all rfl)) (A3 0)))) (A3 0))) (AM 10 nd (by first | exact aaz rfl | exact ab4 rfl)) (A6 (AN (AO PySem.F.plainAttrs_list PySem.F.slot_list_append PySem.F.type_list_append (AV 0) (A0 9) (A1 (BW PySem.F.plainAttrs_list PySem.F.slot_list_pop PySem.F.type_list_pop (@mx _) (A0 2)) (A3 0)))))) (A4 (AN (AO PySem.F.plainAttrs_list PySem.F.slot_list_extend PySem.F.type_list_extend (@i5 _) (A0 4) (A1 (BT (BI ["box"] [] [] trivial trivial) (BD (A0 9)) (λ_ _ _=>(B0 0 (show aba (["box"]:List Str) by decide+kernel))) (λ_ _ _=>(BS (AB (AR 0) (A8 (@lh _) (A0 0) (A2 0)) (AJ 0) (A9 0)))) (λ_ _ _=>(A0 0))) (A3 0)))) (A4 (A7 11 nd (AJ 0)) (BH (AE (AB (BG 0) (A0 6) (A2 0) (A9 0)) (A6 (A7 11 nd (BW PySem.F.plainAttrs_list PySem.F.slot_list_pop PySem.F.type_list_pop (@mx _) (A0 4)))) (AL 0)) (BH (AE (AB (AR 0) (AA 7) (AJ 0) (A9 0)) (A6 (AN (AO PySem.F.plainAttrs_list PySem.F.slot_list_append PySem.F.type_list_append (AV 0) (A0 3) (A1 (AK (A1 (AJ 0) (A1 (A0 11) (A1 (A5 (BQ 0) (AJ 0) (A0 8)) (A3 0))))) (A3 0))))) (A6 (AE (AB (AR 0) (AA 7) (AJ 0) (A9 0)) (A6 (AN (AO PySem.F.plainAttrs_list PySem.F.slot_list_append PySem.F.type_list_append (AV 0) (A0 3) (A1 (AK (A1 (AJ 0) (A1 (A0 11) (A1 (A5 (BQ 0) (AJ 0) (A0 8)) (A3 0))))) (A3 0))))) (A6 (AE (C3 (AS (BZ 0) m_isinstance eh (A1 (AA 7) (A1 (C0 m_int wz) (A3 0))))) (A6 (AN (AO PySem.F.plainAttrs_list PySem.F.slot_list_append PySem.F.type_list_append (AV 0) (A0 3) (A1 (AK (A1 (AJ 0) (A1 (A0 11) (A1 (AA 7) (A3 0))))) (A3 0))))) (A6 (AN (AO PySem.F.plainAttrs_list PySem.F.slot_list_append PySem.F.type_list_append (AV 0) (A0 3) (A1 (A5 (@Pj _) (AK (A1 (AA 7) (A1 (A0 11) (A3 0)))) (AY (BA 0) m_tuple de (A1 (A0 9) (A3 0)))) (A3 0)))))))))) (A6 (AN (AO PySem.F.plainAttrs_list PySem.F.slot_list_append PySem.F.type_list_append (AV 0) (A0 2) (A1 (A0 11) (A3 0)))))))))))))))) (A4 (AE (AB (AR 0) (AS (AX 0) m_len dr (A1 (A0 3) (A3 0))) (A2 0) (A9 0)) (A6 (AD (AK (A1 (AK (BE (AI (AI (BU (BF 0)))))) (A1 (AK (BE (AI (AI (AI (AI (BF 0))))))) (A3 0)))))) (AL 0)) (A6 (AD (AY (BA 0) m_tuple de (A1 (A0 3) (A3 0)))))))))),?_⟩;rw[show start ["kinds","shape","stack","deeds","free","back","at","word","count","read","turn","box"] [.ref kt,.ref st]=[some (.ref kt),some (.ref st),none,none,none,none,none,none,none,none,none,none] from rfl];clear hu hu0 nd hr;push_cast [and_true];have sz:=sizeLine_eq;have hlen:=ok.len;refine ⟨aa6 _,λsp h1=>⟨aa6 _,λdp h2=>⟨by show (3:Nat)≤sizeLine;decide,λfp h3=>?_⟩⟩⟩;have nsd:sp≠dp:=af ae h2;have nsf:sp≠fp:=af (aa h2 _ _ _ ae) h3;have ndf:dp≠fp:=af ae h3;have S1:=aa h1 (.lst []);have fd:=S1.free h2;have S2:=S1.trans (aa h2 (.lst []));have ff:=S2.free h3;have S3:=S2.trans (aa h3 (.lst [V.str (Str.ofString "t3"),V.str (Str.ofString "t2"),V.str (Str.ofString "t1")]));have z3:=aa h3 (.lst [V.str (Str.ofString "t3"),V.str (Str.ofString "t2"),V.str (Str.ofString "t1")]) _ _ (aa h2 (.lst []) _ _ (ae (H:=H) (a:=sp) (o:=.lst [])));have d3:=aa h3 (.lst [V.str (Str.ofString "t3"),V.str (Str.ofString "t2"),V.str (Str.ofString "t1")]) _ _ (ae (H:=upd H sp (.lst [])) (a:=dp) (o:=.lst []));have f3:upd (upd (upd H sp (.lst [])) dp (.lst [])) fp (.lst [V.str (Str.ofString "t3"),V.str (Str.ofString "t2"),V.str (Str.ofString "t1")]) fp=some (.lst ([Str.ofString "t3",Str.ofString "t2",Str.ofString "t1"].map V.str)):=ae;generalize upd (upd (upd H sp (.lst [])) dp (.lst [])) fp (.lst [V.str (Str.ofString "t3"),V.str (Str.ofString "t2"),V.str (Str.ofString "t1")])=H3 at S3 z3 d3 f3 ⊢;refine ⟨sh,.inr (SqT.of (S3 _ _ hS)),by omega,by omega,?_⟩;rw[show ((sh.length:Nat):Int).toNat=sh.length by omega];obtain ⟨P1,eP1⟩:∃P1:Nat→L2.St→Hp→Prop,∀j σ H',P1 j σ H'↔∃(zs fs:List Str) (ds:List V) (v5 v6 v7 v8 v9 v10 v11:Option V),σ=[some (.ref kt),some (.ref st),some (.ref sp),some (.ref dp),some (.ref fp),v5,v6,v7,v8,v9,v10,v11]∧ak H H'∧H' sp=some (.lst (zs.map V.str))∧H' dp=some (.lst ds)∧H' fp=some (.lst (fs.map V.str))∧ds.length≤j∧DI kinds sh (sh.length - j) zs fs:=⟨_,λ_ _ _=>abh⟩;refine ij (lo:=0) P1 ((eP1 _ _ _).mpr ⟨[],_,[],none,none,none,none,none,none,none,rfl,S3,z3,d3,f3,aa3 _,DI.start ok⟩) ?_ ?_
 ·intro j σ H5 hj hh;refine ob10 ((eP1 _ _ _).mp hh) λzs fs ds v5 v6 v7 v8 v9 v10 v11 hh=>?_;have s5:=hh.2.1;have z5:=hh.2.2.1;have d5:=hh.2.2.2.1;have f5:=hh.2.2.2.2.1;have hdl:=hh.2.2.2.2.2.1;have di:=hh.2.2.2.2.2.2;obtain rfl:=hh.1;clear hh;obtain ⟨p,hp⟩:∃p,p+j+1=sh.length:=⟨sh.length - 1 - j,by omega⟩;rw[show sh.length - j=p+1 by omega] at di;have ej:(λ_:Unit=>sh.length - (j+1))=λ_=>p:=by funext _;omega
  have hpl:p < sh.length:=by omega
  have hv:sh[p]?=some sh[p]:=aa1 hpl;have hvw:=ok.w _ (ab5 hpl);have hat:atI sh (p:Int)=some sh[p]:=bb hv;generalize sh[p]=v at hv hvw hat;have fl:(kinds.map V.str).all g6=true:=List.all_eq_true.mpr λx hx=>by obtain ⟨z,_,rfl⟩:=List.mem_map.mp hx;rfl
  have zll:=Gv _ _ di.pd;rw[aa0,aap] at zll;push_cast [and_true];refine ⟨sh,.inr (SqT.of (s5 _ _ hS)),?_⟩;rw[show ((sh.length:Int) - 1 - (0+(j:Int)))=(p:Int) by omega];refine au (s5 _ _ hS) hat (Nh (s5 _ _ hS) λa H6 s6 h6=>⟨a,rfl,⟨_,SqT.of h6⟩,λD hD=>?_⟩);have e6:(p:Int)+1=((p+1:Nat):Int):=by omega
  rw[e6,pf sh (p+1) (by omega)] at h6;have S6:=s5.trans s6;refine Eo (λi ys=>True) (SqT.of h6) (by rw[ab1];omega) hD trivial (λi x ys H1 G' K' hx hP hl2 hS' hG hK'=>?_) λys H7 hP hl2 s7 hD2=>?_
  ·have hxw:=ok.w x (abt (aah hx));have kk:=SqT.of (K:=K) (hS' _ _ (S6 _ _ hK));push_cast [rIn];exact ⟨hxw.sc2 hvw,b7 (λ_=>hK' _ _ (ak.refl _) trivial) λ_=>⟨_,.inr kk,hvw.flat,fl,b7 (λ_=>⟨_,.inr kk,hxw.flat,fl,b7 (λ_=>hK' _ _ (ak.refl _) trivial) λ_=>hG _ (ak.refl _) trivial⟩) λ_=>hG _ (ak.refl _) trivial⟩⟩
  rw[ab1] at hl2;have S7:=S6.trans s7;have z7:=s7 _ _ (s6 _ _ z5);have d7:=s7 _ _ (s6 _ _ d5);have f7:=s7 _ _ (s6 _ _ f5);obtain ⟨tx1,tx2⟩:=Dw (n:=ys.length) (by omega);refine ⟨ys,.inl (SqL.of hD2),tx2,kt,_,rfl,.inr (SqT.of (S7 _ _ hK)),hvw.flat,fl,?_⟩;generalize Gu (V.int (ys.length:Int))=tx at tx1 ⊢;clear hD hD2 hl2 tx2 s7 s6 h6 S6 hP;rw[show ∀x y:Bool,(if false=true then x else y)=y from λ_ _=>rfl];have h1l:(Str.ofString "h").length=1:=by decide+kernel
  cases hin:inV v (kinds.map V.str) with
  | true=>
   refine ifY rfl ?_;refine ⟨aw z7,by omega,(ba (K:=K) z7 (by rw[aa0];omega) ?_).2⟩;push_cast [tCont];exact (eP1 _ _ _).mpr ⟨zs++[Str.ofString "h"++tx],fs,ds,_,_,_,_,_,_,_,rfl,S7.upd h1 _,by rw[ae,aa8];rfl,by rw[ah nsd.symm];exact d7,by rw[ah nsf.symm];exact f7,by omega,by rw[show sh.length - (j+1)=p from congrFun ej ()];exact di.hole hv (Qc hk hvw hin) (isT_h tx) (by rw[Str.length_append,h1l];omega)⟩
  | false=>
   refine ifN aak ?_;push_cast [and_true];refine ⟨aa6 _,λrp hrp=>⟨by show (4:Nat)≤sizeLine;decide,λp1 hp1=>⟨p1,_,rfl,.inl (SqL.of ae),hvw.flat,rfl,by show (3:Nat)≤sizeLine;decide,λp2 hp2=>⟨p2,_,rfl,.inl (SqL.of ae),hvw.flat,rfl,?_⟩⟩⟩⟩;dsimp only;rw[show ∀x y:Bool,(if false=true then x else y)=y from λ_ _=>rfl,show ∀x y:Bool,(if false=true then x else y)=y from λ_ _=>rfl];have oc:=Iq hvw;rw[show ((if inV v [V.str (Str.ofString "add"),V.str (Str.ofString "sub"),V.str (Str.ofString "mul"),V.str (Str.ofString "neg")]=true then (1:Int) else 0)+if inV v [V.str (Str.ofString "add"),V.str (Str.ofString "sub"),V.str (Str.ofString "mul")]=true then 1 else 0)=(arV v:Int) from oc];have ar2:=xf v;refine ⟨by omega,by omega,?_⟩;rw[show ((arV v:Nat):Int).toNat=arV v by omega];have frp:=S7.free hrp;have nrs:rp≠sp:=(af z7 hrp).symm;have nrd:rp≠dp:=(af d7 hrp).symm;have nrf:rp≠fp:=(af f7 hrp).symm;have q8:=(aa hrp (.lst [])).trans ((aa hp1 (.lst [V.str (Str.ofString "add"),V.str (Str.ofString "sub"),V.str (Str.ofString "mul"),V.str (Str.ofString "neg")])).trans (aa hp2 (.lst [V.str (Str.ofString "add"),V.str (Str.ofString "sub"),V.str (Str.ofString "mul")])));have r8:=aa hp2 (.lst [V.str (Str.ofString "add"),V.str (Str.ofString "sub"),V.str (Str.ofString "mul")]) _ _ (aa hp1 (.lst [V.str (Str.ofString "add"),V.str (Str.ofString "sub"),V.str (Str.ofString "mul"),V.str (Str.ofString "neg")]) _ _ (ae (H:=H7) (a:=rp) (o:=.lst [])));have S8:=S7.trans q8;have z8:=q8 _ _ z7;have d8:=q8 _ _ d7;have f8:=q8 _ _ f7;generalize upd (upd (upd H7 rp (.lst [])) p1 (.lst [V.str (Str.ofString "add"),V.str (Str.ofString "sub"),V.str (Str.ofString "mul"),V.str (Str.ofString "neg")])) p2 (.lst [V.str (Str.ofString "add"),V.str (Str.ofString "sub"),V.str (Str.ofString "mul")])=H8 at q8 r8 S8 z8 d8 f8 ⊢;obtain ⟨hale,_,_,_⟩:=di.less hv;obtain ⟨P2,eP2⟩:∃P2:Nat→L2.St→Hp→Prop,∀k σ H',P2 k σ H'↔∃v10:Option V,σ=[some (.ref kt),some (.ref st),some (.ref sp),some (.ref dp),some (.ref fp),some (.int (0+(j:Int))),some (.int (p:Int)),some v,some (.str tx),some (.ref rp),v10,v11]∧ak H H'∧H' sp=some (.lst ((zs.take (zs.length - k)).map V.str))∧H' rp=some (.lst ((zs.drop (zs.length - k)).reverse.map V.str))∧H' dp=some (.lst ds)∧H' fp=some (.lst (fs.map V.str)):=⟨_,λ_ _ _=>abh⟩;refine ij (lo:=0) P2 ?_ ?_ ?_
   ·refine (eP2 _ _ _).mpr ⟨v10,rfl,S8,?_,?_,d8,f8⟩
    ·rw[ack,abp];exact z8
    ·rw[ack,aby];exact r8
   ·intro k σ H9 hk9 hh;obtain ⟨w10,hh⟩:=(eP2 _ _ _).mp hh;have s9:=hh.2.1;have z9:=hh.2.2.1;have r9:=hh.2.2.2.1;have d9:=hh.2.2.2.2.1;have f9:=hh.2.2.2.2.2;obtain rfl:=hh.1;clear hh;push_cast [and_true];obtain ⟨m,hm⟩:∃m,m+1=zs.length - k:=⟨zs.length - k - 1,by omega⟩;rw[←hm] at z9 r9;have ek:(λ_:Unit=>zs.length - (k+1))=λ_=>m:=by funext _;omega
    have hml:m < zs.length:=by omega
    have et:zs.take (m+1)=zs.take m++[zs[m]]:=by rw[ab6,aa1 hml];rfl
    have ed9:zs.drop m=zs[m]::zs.drop (m+1):=aat hml;rw[et,aa8] at z9;refine ⟨aw r9,n6 z9 (ba (K:=K) (by rw[ah nrs];exact r9) (by rw[aa0,aaq,aap];omega) ((eP2 _ _ _).mpr ⟨_,rfl,(s9.upd h1 _).upd frp _,by rw[show zs.length - (k+1)=m from congrFun ek (),ah nrs.symm,ae],?_,by rw[ah nrd.symm,ah nsd.symm];exact d9,by rw[ah nrf.symm,ah nsf.symm];exact f9⟩)).2⟩;rw[show zs.length - (k+1)=m from congrFun ek (),ae,ed9,ach,aa8];rfl
   ·intro σ H9 hh;obtain ⟨w10,hh⟩:=(eP2 _ _ _).mp hh;have s9:=hh.2.1;have z9:=hh.2.2.1;have r9:=hh.2.2.2.1;have d9:=hh.2.2.2.2.1;have f9:=hh.2.2.2.2.2;obtain rfl:=hh.1;clear hh;obtain ⟨rd,hrd⟩:∃rd,rd=zs.drop (zs.length - arV v):=⟨_,rfl⟩;obtain ⟨zs0,hz0⟩:∃zs0,zs0=zs.take (zs.length - arV v):=⟨_,rfl⟩;rw[←hrd] at r9;rw[←hz0] at z9;have ezs:zs=zs0++rd:=by rw[hrd,hz0,ac3]
    have rdl:rd.length=arV v:=by rw[hrd,aap];omega
    obtain ⟨dp1,dp2,dp3⟩:=di.put hk ok hv hin ezs rdl;push_cast [and_true];refine ⟨aw f9,⟨_,SqL.of r9⟩,λD hD=>?_⟩;refine Ai (λi ys=>ys=((rd.reverse.take i).filter isT).map V.str) (SqL.of r9) (by rw[aa0,aaq];omega) hD rfl (λi x ys H1 G' K' hx hP hl2 hS' hG hK'=>?_) λys H10 hP hl2 s10 hD2=>?_
    ·rw[aac] at hx;obtain ⟨z,hz,rfl⟩:=Option.map_eq_some_iff.mp hx;have hzr:z∈rd:=List.mem_reverse.mp (aah hz);obtain ⟨zl1,zl2⟩:=di.zl z (by rw[ezs];exact aav _ hzr);obtain ⟨c,hc,hct⟩:=Ln zl1;have tk:rd.reverse.take (i+1)=rd.reverse.take i++[z]:=by rw[ab6,hz];rfl
     push_cast [rIxS];refine ⟨by omega,c,hc,rfl,b7 (λe=>hK' _ _ (ak.refl _) ?_) λe=>hG _ (ak.refl _) ?_⟩
     ·have e':isT z=true:=hct.mp (by rw[e]);rw[tk,abf,aa8,hP,aar,e'];rfl
     ·have e':isT z=false:=Bool.eq_false_iff.mpr λe2=>e (V.str.inj (hct.mpr e2));rw[tk,abf,aa8,hP,aar,e'];show _=_++[]
      rw[ab7]
    ·rw[aa0,abp] at hP;obtain ⟨gs,hgs⟩:∃gs,gs=rd.reverse.filter isT:=⟨_,rfl⟩;rw[←hgs] at hP;have gl:gs.length=tc rd:=by rw[hgs];unfold tc;rw[List.filter_reverse,aaq]
     have gt:∀y∈gs,isT y=true∧1≤y.length∧y.length≤100:=λy hy=>by
      rw[hgs] at hy;obtain ⟨y1,y2⟩:=List.mem_filter.mp hy;exact ⟨y2,di.zl y (by rw[ezs];exact aav _ (List.mem_reverse.mp y1))⟩
     have tl:tc rd≤rd.length:=ab8 _ _;have fl3:fs.length≤3:=by have:=di.three;omega
     subst hP;refine ⟨fp,D,fs.map V.str,gs.map V.str,rfl,rfl,s10 _ _ f9,hD2,by rw[aa0,aa0];omega,?_⟩;have S11:=(s9.trans s10).upd ff (.lst (fs.map V.str++gs.map V.str));have z11:upd H10 fp (.lst (fs.map V.str++gs.map V.str)) sp=some (.lst (zs0.map V.str)):=by rw[ah nsf];exact s10 _ _ z9
     have r11:upd H10 fp (.lst (fs.map V.str++gs.map V.str)) rp=some (.lst (rd.reverse.map V.str)):=by rw[ah nrf];exact s10 _ _ r9
     have d11:upd H10 fp (.lst (fs.map V.str++gs.map V.str)) dp=some (.lst ds):=by rw[ah ndf];exact s10 _ _ d9
     have f11:upd H10 fp (.lst (fs.map V.str++gs.map V.str)) fp=some (.lst ((fs++gs).map V.str)):=by rw[ae,aa8]
     generalize upd H10 fp (.lst (fs.map V.str++gs.map V.str))=H11 at S11 z11 r11 d11 f11 ⊢;have ft:∀y∈fs++gs,isT y=true∧1≤y.length∧y.length≤100:=λy hy=>by
      rcases List.mem_append.mp hy with g | g
      ·exact di.fl y g
      ·exact gt y g
     have fgl:(fs++gs).length=fs.length+tc rd:=by rw[aa2,gl]
     generalize fs++gs=fg at f11 ft fgl;refine eu (λσ' H12=>∃(box:Str) (fs2:List Str),σ'=[some (.ref kt),some (.ref st),some (.ref sp),some (.ref dp),some (.ref fp),some (.int (0+(j:Int))),some (.int (p:Int)),some v,some (.str tx),some (.ref rp),w10,some (.str box)]∧ak H H12∧H12 sp=some (.lst (zs0.map V.str))∧H12 rp=some (.lst (rd.reverse.map V.str))∧H12 dp=some (.lst ds)∧H12 fp=some (.lst (fs2.map V.str))∧DI kinds sh p (zs0++[box]) fs2) ?_ ?_
     ·push_cast [and_true];refine b7 (λp0=>?_) λp0=>⟨S11,z11,r11,d11,fg,f11,dp2 _ fg fgl Oj (by decide+kernel) (by decide+kernel) ft⟩;have ne:fg≠[]:=by
       intro e;rw[e] at fgl;have:=dp3 (by omega);simp at fgl;omega
      have ec:fg.dropLast++[fg.getLast ne]=fg:=adi ne;rw[←ec,aa8] at f11;have hb:=ft _ (List.getLast_mem ne);have el:fg.dropLast.length+1=fg.length:=by rw[ad7];have:=List.length_pos_iff.mpr ne;omega
      refine n6 f11 ⟨_,rfl,S11.upd ff _,by rw[ah nsf];exact z11,by rw[ah nrf];exact r11,by rw[ah ndf];exact d11,fg.dropLast,ae,?_⟩;exact dp1 _ _ (by omega) hb.1 hb.2.1 hb.2.2 λy hy=>ft y ((List.dropLast_sublist fg).subset hy)
     rintro _ H12 ⟨box,fs2,rfl,s12,z12,r12,d12,f12,di12⟩;have hbl:=di12.zl box (aav _ aa7);refine eu (λσ' H13=>∃ds2:List V,σ'=[some (.ref kt),some (.ref st),some (.ref sp),some (.ref dp),some (.ref fp),some (.int (0+(j:Int))),some (.int (p:Int)),some v,some (.str tx),some (.ref rp),w10,some (.str box)]∧ak H H13∧H13 sp=some (.lst (zs0.map V.str))∧H13 dp=some (.lst ds2)∧H13 fp=some (.lst (fs2.map V.str))∧ds2.length≤j+1) ?_ ?_
     ·push_cast [and_true];have nl1:(Str.ofString "n").length=1:=by decide+kernel
      have vl1:(Str.ofString "v").length=1:=by decide+kernel
      have app:∀(y:V) (H':Hp),ak H12 H'→ox (.ref dp) [y] H' λ_ H1=>ak H H1∧H1 sp=some (.lst (zs0.map V.str))∧∃x:List V,H1 dp=some (.lst x)∧H1 fp=some (.lst (fs2.map V.str))∧x.length≤j+1:=λy H' s'=>
       (ba (K:=K) (s' _ _ d12) (by omega) ⟨(s12.trans s').upd fd _,by rw[ah nsd];exact s' _ _ z12,ds++[y],ae,by rw[ah ndf.symm];exact s' _ _ f12,by rw[aa2,aaa];omega⟩).2
      refine ⟨hvw.sc _,b7 (λ_=>⟨aw d12,by omega,by show (3:Nat)≤sizeLine;decide,λp3 hp3=>app _ _ (aa hp3 _)⟩) λ_=>⟨hvw.sc _,b7 (λ_=>⟨aw d12,by omega,by show (3:Nat)≤sizeLine;decide,λp3 hp3=>app _ _ (aa hp3 _)⟩) λ_=>?_⟩⟩;obtain ⟨k',rfl⟩:=hvw;cases k' with
      | inl i0=>exact ⟨_,.int i0,true,rfl,iteT ⟨aw d12,by show (3:Nat)≤sizeLine;decide,λp3 hp3=>app _ _ (aa hp3 _)⟩⟩
      | inr z0=>exact ⟨_,.str z0,false,rfl,iteF ⟨aw d12,by show (2:Nat)≤sizeLine;decide,λp3 hp3=>⟨_,.inl ⟨SqL.of (aa hp3 _ _ _ r12),λl hl=>L9 (aa hl _ _ _ ae) ae (by rw[aa0,aaq];show 2+rd.length≤_;omega) λb H14 s14 h14=>app _ _ ((aa hp3 _).trans ((aa hl _).trans s14))⟩⟩⟩⟩
     ·rintro _ H13 ⟨ds2,rfl,s13,z13,d13,f13,hd13⟩;push_cast [and_true];have z0l:zs0.length≤zs.length:=by rw[hz0,ab1];omega
      exact ba z13 (by rw[aa0];omega) ((eP1 _ _ _).mpr ⟨zs0++[box],fs2,ds2,_,_,_,_,_,_,_,rfl,s13.upd h1 _,by rw[ae,aa8];rfl,by rw[ah nsd.symm];exact d13,by rw[ah nsf.symm];exact f13,hd13,by rw[show sh.length - (j+1)=p from congrFun ej ()];exact di12⟩)
 ·intro σ H5 hh;refine ob10 ((eP1 _ _ _).mp hh) λzs fs ds v5 v6 v7 v8 v9 v10 v11 hh=>?_;have s5:=hh.2.1;have z5:=hh.2.2.1;have d5:=hh.2.2.2.1;have f5:=hh.2.2.2.2.1;have hdl:=hh.2.2.2.2.2.1;have di:=hh.2.2.2.2.2.2;obtain rfl:=hh.1;clear hh;push_cast [and_true];refine ⟨ds,.inl (SqL.of d5),rfl,b7 (λ_=>⟨by show (3:Nat)≤sizeLine;decide,λp1 hp1=>⟨by show (4:Nat)≤sizeLine;decide,λp2 hp2=>⟨by show (2:Nat)≤sizeLine;decide,λp3 hp3=>?_⟩⟩⟩) λ_=>⟨ds,.inl ⟨SqL.of d5,λl hl=>q l _ _ (s5.trans (aa hl _)) ae⟩⟩⟩;exact q p3 _ _ (((s5.trans (aa hp1 _)).trans (aa hp2 _)).trans (aa hp3 _)) ae
noncomputable abbrev wo:Stmt:=top 33
theorem K8:ax ["deck","names","cell","many","drawn","kinds","first","shapes","k","one","shape","rules","kind","price","at"] ["deck","names"] (ag wo):=⟨rfl,rfl,rfl,by decide+kernel,rfl,by decide+kernel,by decide+kernel⟩
theorem Px (G:Gs w K mg κ) (h_law_deeds:Has P w K mg base k "_law_deeds" ["kinds","shape"] (ub K)) (h_law_next:Has P w K mg base k "_law_next" ["deck"] iw) (h_law_shape:Has P w K mg base k "_law_shape" ["deck","kinds"] ud) (D:Def K mg "_law_book" wo ["deck","names"]):Has P w K mg base (k+1) "_law_book" ["deck","names"] Ah:=by
 refine D.has K8 (λvs H Q E h=>?_) (λf cdv A outer s H vs Q E hr h=>?_)
 ·obtain ⟨_,_,_,_,_,_,rfl,_,_,_,_⟩:=h;rfl
 have nd:=K8.nd;have hu:=cb hr;have hu0:=aag hu;obtain ⟨d,nl,b,ns,zs,n,rfl,hD,hN,hn,q⟩:=h;have m_len:=G.m_len;have m_range:=G.m_range;have m_tuple:=G.m_tuple;refine ⟨_,(A4 (BY 2 nd (AF h_law_next hr (A1 (A0 0) (A3 0)))) (A4 (A7 3 nd (A5 (AQ 0) (A2 0) (A5 (AH 0) (AA 2) (A2 0)))) (A4 (A7 4 nd (A5 (AQ 0) (A2 0) (A5 (AH 0) (A5 (AU 0) (AA 2) (A2 0)) (A2 0)))) (BH (AE (AB (AR 0) (A5 (AH 0) (A5 (AU 0) (AA 2) (A2 0)) (A2 0)) (A2 0) (A9 0)) (A4 (A7 3 nd (A5 (AQ 0) (A2 0) (A5 (AH 0) (A5 (AU 0) (AA 2) (A2 0)) (A2 0)))) (A6 (A7 4 nd (A2 0)))) (AL 0)) (A4 (A7 5 nd (AY (BA 0) m_tuple de (A1 (C9 (@t6 _) (A0 1) (@ll _) (CC (A0 3))) (A3 0)))) (A4 (A7 6 nd (A8 (AG 0) (A0 5) (A2 0))) (BH (BY 7 nd (AC (A1 (AK (A1 (A0 6) (A1 (AK (A1 (AJ 0) (A3 0))) (A3 0)))) (A1 (AK (A1 (A0 6) (A1 (AK (A1 (AJ 0) (A3 0))) (A3 0)))) (A1 (AK (A1 (A0 6) (A1 (AK (A1 (AJ 0) (A1 (A0 6) (A1 (A0 6) (A3 0))))) (A3 0)))) (A1 (AK (A1 (A0 6) (A1 (AK (A1 (AJ 0) (A1 (A0 6) (A3 0)))) (A3 0)))) (A3 0))))))) (A4 (BY 7 nd (BT (BI ["k"] ["cell","shapes"] [2,7] (aaj rfl (aaj rfl trivial)) (aaj (aaj rfl (aaj rfl rfl)) (aaj (aaj rfl (aaj rfl rfl)) trivial))) (BX m_range (A1 (A2 0) (A3 0))) (λ_ _ _=>(B0 0 (show aba (["k","cell","shapes"]:List Str) by decide+kernel))) (λ_ _ _=>(BS (AB (@G3 _) (A5 (AH 0) (A5 (AU 0) (A5 (AU 0) (AA 1) (A2 0)) (A8 (@vm _ K rfl) (AC (BE (BU (BU (BU (BU (BF 0))))))) (A0 0))) (A2 0)) (A2 0) (A9 0)))) (λ_ _ _=>(A8 (@vm _ K rfl) (AA 2) (A0 0))))) (A4 (AZ (BX m_range (A1 (A0 4) (A3 0))) (AM 8 nd (by first | exact aaz rfl | exact ab4 rfl)) (A4 (A7 9 nd (AF h_law_next hr (A1 (A0 0) (A3 0)))) (A4 (A7 10 nd (AF h_law_shape hr (A1 (A0 0) (A1 (A0 5) (A3 0))))) (BH (AE (AB (AR 0) (A5 (AH 0) (A0 9) (A2 0)) (A2 0) (A9 0)) (A6 (A7 10 nd (AK (A1 (A8 (AG 0) (A0 5) (A5 (AH 0) (A5 (AU 0) (A0 9) (A2 0)) (AS (AX 0) m_len dr (A1 (A0 5) (A3 0))))) (A3 0))))) (AL 0)) (A6 (AN (AO PySem.F.plainAttrs_list PySem.F.slot_list_append PySem.F.type_list_append (AV 0) (AA 7) (A1 (AK (A1 (A8 (AG 0) (A0 5) (A5 (AH 0) (A5 (AU 0) (A0 9) (A2 0)) (AS (AX 0) m_len dr (A1 (A0 5) (A3 0))))) (A1 (A0 10) (A3 0)))) (A3 0))))))))) (A4 (A7 11 nd (AC (A3 0))) (A4 (AZ (BD (AA 7)) (C4 2 (AT (AM 12 nd (by first | exact aaz rfl | exact ab4 rfl)) (AT (AM 10 nd (by first | exact aaz rfl | exact ab4 rfl)) (BP 0)))) (A4 (A7 9 nd (AF h_law_next hr (A1 (A0 0) (A3 0)))) (A4 (A7 13 nd (A8 (AW 0) (AC (A1 (A5 (AQ 0) (A2 0) (A5 (AH 0) (A5 (AU 0) (A0 9) (A2 0)) (A2 0))) (A1 (A5 (AQ 0) (A2 0) (A5 (AH 0) (A5 (AU 0) (A0 9) (A2 0)) (A2 0))) (A1 (A5 (AQ 0) (A2 0) (A5 (AH 0) (A5 (AU 0) (A0 9) (A2 0)) (A2 0))) (A3 0))))) (A5 (AH 0) (A0 9) (A2 0)))) (A6 (AN (AO PySem.F.plainAttrs_list PySem.F.slot_list_append PySem.F.type_list_append (AV 0) (A0 11) (A1 (AK (A1 (A8 (AW 0) (A0 1) (A5 (AQ 0) (A2 0) (AS (AX 0) m_len dr (A1 (A0 11) (A3 0))))) (A1 (A0 12) (A1 (A0 13) (A1 (A0 10) (A1 (AF h_law_deeds hr (A1 (A0 5) (A1 (A0 10) (A3 0)))) (A3 0))))))) (A3 0)))))))) (A4 (A7 14 nd (A5 (AH 0) (A5 (AU 0) (AA 2) (A2 0)) (AS (AX 0) m_len dr (A1 (A0 11) (A3 0))))) (A6 (AD (AK (A1 (A0 5) (A1 (AY (BA 0) m_tuple de (A1 (A5 (@op_cat _) (C9 (@t6 _) (A0 11) (CC (A0 14)) (@ll _)) (C9 (@t6 _) (A0 11) (@ll _) (CC (A0 14)))) (A3 0))) (A3 0)))))))))))))))))),?_⟩;rw[show start ["deck","names","cell","many","drawn","kinds","first","shapes","k","one","shape","rules","kind","price","at"] [.ref d,.ref nl]=[some (.ref d),some (.ref nl),none,none,none,none,none,none,none,none,none,none,none,none,none] from rfl];clear hu hu0 nd hr;push_cast [and_true];have sz:=sizeLine_eq;refine kr hD (by omega) λc H1 s1 d1=>?_;push_cast [and_true];have D1:=hD.next s1 d1
 have N1:=hN.lb hD s1;refine eu (λσ' H2=>∃many drawn:Nat,σ'=[some (.ref d),some (.ref nl),some (.int c),some (.int (many:Int)),some (.int (drawn:Int)),none,none,none,none,none,none,none,none,none,none]∧H1=H2∧1≤many∧many≤8∧3≤drawn∧drawn≤36) ?_ ?_
 ·push_cast [and_true];refine ⟨rfl,b7 (λe=>⟨(1+c / 448 % 8).toNat,by omega,36,by rfl,by omega,by omega,by decide,by decide⟩) λe=>⟨(1+c % 3).toNat,by omega,(3+c / 7 % 8).toNat,by omega,by omega,by omega,by omega,by omega⟩⟩
 rintro _ _ ⟨many,drawn,rfl,rfl,m1,m2,r1,r2⟩;push_cast [and_true];have ct:jh (zs.map V.str) none (some (many:Int))=(zs.take many).map V.str:=by rw[pf _ many (by rw[aa0,hN.2.1];omega),aec]
 refine ⟨zs.map V.str,SqL.of N1.1,λp1 hp1=>?_⟩;rw[ct];refine ⟨_,.inl ⟨SqL.of ae,λkt hkt=>?_⟩⟩;obtain ⟨kinds,hkd⟩:∃kinds,kinds=zs.take many:=⟨_,rfl⟩;rw[←hkd];have kl:kinds.length=many:=by rw[hkd,ab1,hN.2.1];omega
 have hk:Kinds kinds:=λz hz=>hN.2.2.2 z (abt (by rw[←hkd];exact hz));have q2:=(aa hp1 (.lst (kinds.map V.str))).trans (aa (by rw[←hkd] at hkt;exact hkt) (.tup (kinds.map V.str)));rw[←hkd] at hkt;have S2:ao d H (upd (upd H1 p1 (.lst (kinds.map V.str))) kt (.tup (kinds.map V.str))):=s1.trans (ao.of q2);have d2:=q2 _ _ d1;have k2:upd (upd H1 p1 (.lst (kinds.map V.str))) kt (.tup (kinds.map V.str)) kt=some (.tup (kinds.map V.str)):=ae;have N2:=N1.same q2;generalize upd (upd H1 p1 (.lst (kinds.map V.str))) kt (.tup (kinds.map V.str))=H2 at S2 d2 k2 N2 q2 ⊢;obtain ⟨z0,hz0,hk0⟩:∃z,atI (kinds.map V.str) 0=some (.str z)∧z∈kinds:=by
  cases kinds with
  | nil=>simp at kl;omega
  | cons z r=>exact ⟨z,bb (j:=0) rfl,aa7⟩
 refine au k2 hz0 ?_;refine eu (λσ' I9=>∃sl b1 b2 b3 b4:Addr,σ'=[some (.ref d),some (.ref nl),some (.int c),some (.int (many:Int)),some (.int (drawn:Int)),some (.ref kt),some (.str z0),some (.ref sl),none,none,none,none,none,none,none]∧ak H2 I9∧I9 sl=some (.lst [V.ref b1,V.ref b2,V.ref b3,V.ref b4])∧∀k':Nat,k' < 4→∃(a s:Addr) (sh:List V),atI [V.ref b1,V.ref b2,V.ref b3,V.ref b4] (k':Int)=some (.ref a)∧I9 a=some (.tup [.str z0,.ref s])∧I9 s=some (.tup sh)∧j8 kinds sh) ?_ λσ' I9 hh=>?_
 ·push_cast [and_true];refine ⟨by show (1:Nat)≤sizeLine;decide,λa1 ha1=>?_⟩;have sa1:=aa ha1 (.tup [V.str (Str.ofString "any")]);have ea1:upd H2 a1 (.tup [V.str (Str.ofString "any")]) a1=some (.tup [V.str (Str.ofString "any")]):=ae;generalize upd H2 a1 (.tup [V.str (Str.ofString "any")])=I1 at sa1 ea1 ⊢;refine ⟨by show (2:Nat)≤sizeLine;decide,λb1 hb1=>?_⟩;have sb1:=aa hb1 (.tup [V.str z0,V.ref a1]);have eb1:upd I1 b1 (.tup [V.str z0,V.ref a1]) b1=some (.tup [V.str z0,V.ref a1]):=ae;generalize upd I1 b1 (.tup [V.str z0,V.ref a1])=I2 at sb1 eb1 ⊢;refine ⟨by show (1:Nat)≤sizeLine;decide,λa2 ha2=>?_⟩;have sa2:=aa ha2 (.tup [V.str (Str.ofString "var")]);have ea2:upd I2 a2 (.tup [V.str (Str.ofString "var")]) a2=some (.tup [V.str (Str.ofString "var")]):=ae;generalize upd I2 a2 (.tup [V.str (Str.ofString "var")])=I3 at sa2 ea2 ⊢;refine ⟨by show (2:Nat)≤sizeLine;decide,λb2 hb2=>?_⟩;have sb2:=aa hb2 (.tup [V.str z0,V.ref a2]);have eb2:upd I3 b2 (.tup [V.str z0,V.ref a2]) b2=some (.tup [V.str z0,V.ref a2]):=ae;generalize upd I3 b2 (.tup [V.str z0,V.ref a2])=I4 at sb2 eb2 ⊢;refine ⟨by show (3:Nat)≤sizeLine;decide,λa3 ha3=>?_⟩;have sa3:=aa ha3 (.tup [V.str (Str.ofString "add"),V.str z0,V.str z0]);have ea3:upd I4 a3 (.tup [V.str (Str.ofString "add"),V.str z0,V.str z0]) a3=some (.tup [V.str (Str.ofString "add"),V.str z0,V.str z0]):=ae;generalize upd I4 a3 (.tup [V.str (Str.ofString "add"),V.str z0,V.str z0])=I5 at sa3 ea3 ⊢;refine ⟨by show (2:Nat)≤sizeLine;decide,λb3 hb3=>?_⟩;have sb3:=aa hb3 (.tup [V.str z0,V.ref a3]);have eb3:upd I5 b3 (.tup [V.str z0,V.ref a3]) b3=some (.tup [V.str z0,V.ref a3]):=ae;generalize upd I5 b3 (.tup [V.str z0,V.ref a3])=I6 at sb3 eb3 ⊢;refine ⟨by show (2:Nat)≤sizeLine;decide,λa4 ha4=>?_⟩;have sa4:=aa ha4 (.tup [V.str (Str.ofString "neg"),V.str z0]);have ea4:upd I6 a4 (.tup [V.str (Str.ofString "neg"),V.str z0]) a4=some (.tup [V.str (Str.ofString "neg"),V.str z0]):=ae;generalize upd I6 a4 (.tup [V.str (Str.ofString "neg"),V.str z0])=I7 at sa4 ea4 ⊢;refine ⟨by show (2:Nat)≤sizeLine;decide,λb4 hb4=>?_⟩;have sb4:=aa hb4 (.tup [V.str z0,V.ref a4]);have eb4:upd I7 b4 (.tup [V.str z0,V.ref a4]) b4=some (.tup [V.str z0,V.ref a4]):=ae;generalize upd I7 b4 (.tup [V.str z0,V.ref a4])=I8 at sb4 eb4 ⊢;refine ⟨by show (4:Nat)≤sizeLine;decide,λsl hsl=>?_⟩;have ssl:=aa hsl (.lst [V.ref b1,V.ref b2,V.ref b3,V.ref b4]);have esl:upd I8 sl (.lst [V.ref b1,V.ref b2,V.ref b3,V.ref b4]) sl=some (.lst [V.ref b1,V.ref b2,V.ref b3,V.ref b4]):=ae;generalize upd I8 sl (.lst [V.ref b1,V.ref b2,V.ref b3,V.ref b4])=I9 at ssl esl ⊢;have u8:=sb4.trans ssl;have u7:=sa4.trans u8;have u6:=sb3.trans u7;have u5:=sa3.trans u6;have u4:=sb2.trans u5;have u3:=sa2.trans u4;have u2:=sb1.trans u3;have u1:=sa1.trans u2;have sh4:∀k':Nat,k' < 4→∃(a s:Addr) (sh:List V),atI [V.ref b1,V.ref b2,V.ref b3,V.ref b4] (k':Int)=some (.ref a)∧I9 a=some (.tup [.str z0,.ref s])∧I9 s=some (.tup sh)∧j8 kinds sh:=λk' hk'=>by
   rcases k' with _ | _ | _ | _ | k'
   ·exact ⟨b1,a1,_,bb rfl,u3 _ _ eb1,u2 _ _ ea1,Lb kinds⟩
   ·exact ⟨b2,a2,_,bb rfl,u5 _ _ eb2,u4 _ _ ea2,M0 kinds⟩
   ·exact ⟨b3,a3,_,bb rfl,u7 _ _ eb3,u6 _ _ ea3,Lh hk hk0⟩
   ·exact ⟨b4,a4,_,bb rfl,ssl _ _ eb4,u8 _ _ ea4,Jm hk hk0⟩
   ·omega
  exact ⟨u1,b1,b2,b3,b4,esl,λk' hk'=>by obtain ⟨a,s,sh,h1,h2,h3,h4⟩:=sh4 k' hk';exact ⟨a,h1,s,h2,sh,h3,h4⟩⟩
 refine ob5 (hh) λsl b1 b2 b3 b4 hh=>?_;have u1:=hh.2.1;have esl:=hh.2.2.1;have sh4:=hh.2.2.2;obtain rfl:=hh.1;clear hh;have S9:ao d H I9:=S2.trans (ao.of u1);have d9:=u1 _ _ d2;have k9:=u1 _ _ k2;have N9:=N2.same u1;clear u1 q2 hkt N2 d2 k2 S2;push_cast [and_true];intro D hD';refine Ml (n:=4) (λj ys=>∃(sa:List Addr) (ps:List (Str×List V)),ys=sa.map V.ref∧fq I9 sa kinds ps∧ps.length≤j) (by omega) hD' ⟨[],[],rfl,fq.nil _ _,aa3 _⟩ (λj ys H3 G' K' hj hP hl2 hS' hG hK'=>?_) λys H3 hP hl2 hS' hD2=>?_
 ·obtain ⟨sa,ps,rfl,hsh,hpl⟩:=hP;obtain ⟨a,s,sh,g1,g2,g3,g4⟩:=sh4 j hj;obtain ⟨y,hy,hym⟩:=dg [V.int 1,V.int 3,V.int 9,V.int 27] (0+(j:Int)) (by omega) (by show 0+(j:Int) < 4;omega);obtain ⟨y',rfl,hy0,hy1⟩:∃y':Int,y=.int y'∧0 < y'∧y' < 1073741824:=by
   simp only[aan,aa9,or_false] at hym;rcases hym with rfl | rfl | rfl | rfl <;> exact ⟨_,rfl,by decide,by decide⟩
  push_cast [qp];refine ⟨by show (4:Nat)≤sizeLine;decide,λp4 hp4=>ay ae hy ⟨hy0,hy1,rfl,b7 (λe=>?_) λe=>hG _ (aa hp4 _) ⟨sa,ps,rfl,hsh,by omega⟩⟩⟩;refine ay (aa hp4 _ _ _ (hS' _ _ esl)) (by rw[show (0+(j:Int))=((j:Nat):Int) by omega];exact g1) (hK' _ _ (aa hp4 _) ⟨sa++[a],ps++[(z0,sh)],by rw[aa8];rfl,hsh.snoc ⟨g4,hk0⟩ g2 g3,by rw[aa2,aaa];omega⟩)
 ·obtain ⟨sa,ps,rfl,hsh,hpl⟩:=hP;have S10:=S9.trans (ao.of hS');have d10:=hS' _ _ d9;have k10:=hS' _ _ k9;have N10:=N9.same hS';have hsh10:=hsh.same hS';have fD:=S9.free d9 hD';have nDd:D≠d:=(af d9 hD').symm;have nt:∀{a:Addr} {xs:List V} {H':Hp} {n':Nat},H' d=some (.lst [.ref b,.int (n':Int)])→H' a=some (.tup xs)→a≠d:=λh1 h2=>gq h2 h1 (by intro e;cases e);refine ⟨by omega,by omega,?_⟩;rw[show ((drawn:Nat):Int).toNat=drawn by omega];obtain ⟨P1,eP1⟩:∃P1:Nat→L2.St→Hp→Prop,∀j σ H',P1 j σ H'↔∃(sa:List Addr) (ps:List (Str×List V)) (n':Nat) (v8 v9 v10:Option V),σ=[some (.ref d),some (.ref nl),some (.int c),some (.int (many:Int)),some (.int (drawn:Int)),some (.ref kt),some (.str z0),some (.ref D),v8,v9,v10,none,none,none,none]∧ao d H H'∧H' d=some (.lst [.ref b,.int (n':Int)])∧n'≤n+1+13*j∧H' D=some (.lst (sa.map V.ref))∧H' kt=some (.tup (kinds.map V.str))∧dc H' nl zs∧fq H' sa kinds ps∧ps.length≤4+j∧j≤ps.length:=⟨_,λ_ _ _=>abh⟩;refine ij (lo:=0) P1 ((eP1 _ _ _).mpr ⟨sa,ps,n+1,none,none,none,rfl,S10,d10,by omega,hD2,k10,N10,hsh10,by omega,aa6 _⟩) ?_ ?_
  ·intro j σ H5 hj hh;refine ob6 ((eP1 _ _ _).mp hh) λsa ps n' v8 v9 v10 hh=>?_;have s5:=hh.2.1;have d5:=hh.2.2.1;have hn5:=hh.2.2.2.1;have D5:=hh.2.2.2.2.1;have k5:=hh.2.2.2.2.2.1;have N5:=hh.2.2.2.2.2.2.1;have sh5:=hh.2.2.2.2.2.2.2.1;have pl5:=hh.2.2.2.2.2.2.2.2.1;have pj5:=hh.2.2.2.2.2.2.2.2.2;obtain rfl:=hh.1;clear hh;push_cast [and_true];refine kr (hD.next s5 d5) (by omega) λone H6 s6 d6=>?_;have S6:=s5.trans s6;have D6:=s6 D _ nDd D5;have k6:=s6 kt _ (nt d5 k5) k5;have N6:=N5.lb (hD.next s5 d5) s6;have sh6:=sh5.lb (hD.next s5 d5) s6;refine O0 (hD.next S6 d6) k6 hk (by omega) (by omega) (by omega) λt n2 H7 sh s7 d7 hn7 ht h7 ok7=>?_;push_cast [and_true];have Dk6:=hD.next S6 d6
   have S7:=S6.trans s7;have D7:=s7 D _ nDd D6;have k7:=s7 kt _ (nt d6 k6) k6;have N7:=N6.lb Dk6 s7;have sh7:=sh6.lb Dk6 s7;have kat:∀i:Int,∃z,atI (kinds.map V.str) (i % (((kinds.map V.str).length:Nat):Int))=some (.str z)∧z∈kinds:=λi=>by
    obtain ⟨y,hy,hym⟩:=dg (kinds.map V.str) (i % (((kinds.map V.str).length:Nat):Int)) (aas _ (by rw[aa0];omega)) (ac1 _ (by rw[aa0];omega));obtain ⟨z,hz,rfl⟩:=List.mem_map.mp hym;exact ⟨z,hy,hz⟩
   refine eu (λσ' H8=>∃(t':Addr) (sh':List V),σ'=[some (.ref d),some (.ref nl),some (.int c),some (.int (many:Int)),some (.int (drawn:Int)),some (.ref kt),some (.str z0),some (.ref D),some (.int (0+(j:Int))),some (.int one),some (.ref t'),none,none,none,none]∧ak H7 H8∧H8 t'=some (.tup sh')∧j8 kinds sh') ?_ ?_
   ·push_cast [qp];refine ⟨rfl,b7 (λe=>⟨_,.inr (SqT.of k7),by rw[aa0];omega,?_⟩) λe=>⟨ak.refl _,_,h7,ok7⟩⟩;obtain ⟨z,hz,hzk⟩:=kat (one / 5);exact au k7 hz ⟨by show (1:Nat)≤sizeLine;decide,λt' ht'=>⟨aa ht' _,_,ae,Hm hk hzk⟩⟩
   rintro _ H8 ⟨t',sh',rfl,s8,h8,ok8⟩;push_cast [qp];obtain ⟨z,hz,hzk⟩:=kat (one / 15);refine ⟨aw (s8 _ _ D7),_,.inr (SqT.of (s8 _ _ k7)),by rw[aa0];omega,au (s8 _ _ k7) hz ⟨by show (2:Nat)≤sizeLine;decide,λpr hpr=>?_⟩⟩;have s9:=s8.trans (aa hpr (.tup [V.str z,V.ref t']));have S9':=S7.trans (ao.of s9);have e9:upd H8 pr (.tup [V.str z,V.ref t']) pr=some (.tup [V.str z,V.ref t']):=ae;have h9:=aa hpr (.tup [V.str z,V.ref t']) _ _ h8;generalize upd H8 pr (.tup [V.str z,V.ref t'])=H9 at s9 S9' e9 h9 ⊢;have sal:sa.length=ps.length:=sh5.1;have uD:ak H9 (upd H9 D (.lst (sa.map V.ref++[V.ref pr])))∨True:=.inr trivial;have tD:∀{a:Addr} {xs:List V},H9 a=some (.tup xs)→upd H9 D (.lst (sa.map V.ref++[V.ref pr])) a=some (.tup xs):=λh=>by rw[ah (gq h (s9 _ _ D7) (by intro e;cases e))];exact h
   have sh9:=(sh7.same s9).snoc ⟨ok8,hzk⟩ e9 h9;refine (ba (K:=K) (s9 _ _ D7) (by rw[aa0];omega) ((eP1 _ _ _).mpr ⟨sa++[pr],ps++[(z,sh')],n2,_,_,_,rfl,S9'.upd fD _,by rw[ah nDd.symm];exact s9 _ _ d7,by omega,by rw[ae,aa8];rfl,tD (s9 _ _ k7),⟨?_,N7.2⟩,⟨sh9.1,λi k' s' hi=>?_⟩,by rw[aa2,aaa];omega,by rw[aa2,aaa];omega⟩)).2
   ·rw[ah (af hN.1 fD)];exact s9 _ _ N7.1
   ·obtain ⟨o1,a,t,x1,x2,x3⟩:=sh9.2 i k' s' hi;exact ⟨o1,a,t,x1,tD x2,tD x3⟩
  ·intro σ H5 hh;refine ob6 ((eP1 _ _ _).mp hh) λsa ps n' v8 v9 v10 hh=>?_;have s5:=hh.2.1;have d5:=hh.2.2.1;have hn5:=hh.2.2.2.1;have D5:=hh.2.2.2.2.1;have k5:=hh.2.2.2.2.2.1;have N5:=hh.2.2.2.2.2.2.1;have sh5:=hh.2.2.2.2.2.2.2.1;have pl5:=hh.2.2.2.2.2.2.2.2.1;have pj5:=hh.2.2.2.2.2.2.2.2.2;obtain rfl:=hh.1;clear hh;push_cast [and_true];refine ⟨aa6 _,λrl hrl=>⟨⟨_,SqL.of (aa hrl _ _ _ D5)⟩,?_⟩⟩;have frl:=s5.free d5 hrl;have nrd:rl≠d:=(af d5 hrl).symm;have S6:=s5.trans (ao.of (aa hrl (.lst [])));have d6:=aa hrl (.lst []) _ _ d5;have D6:=aa hrl (.lst []) _ _ D5;have k6:=aa hrl (.lst []) _ _ k5;have N6:=N5.same (aa hrl (.lst []));have sh6:=sh5.same (aa hrl (.lst []));have r6:upd H5 rl (.lst []) rl=some (.lst []):=ae;have nrD:rl≠D:=(af D5 hrl).symm;generalize upd H5 rl (.lst [])=H6 at S6 d6 D6 k6 N6 sh6 r6 ⊢;have sal:sa.length=ps.length:=sh5.1;obtain ⟨P2,eP2⟩:∃P2:Nat→L2.St→Hp→Prop,∀i σ H',P2 i σ H'↔∃(ra:List Addr) (rs:List Rl) (m:Nat) (w8 w9 w10 w12 w13:Option V),σ=[some (.ref d),some (.ref nl),some (.int c),some (.int (many:Int)),some (.int (drawn:Int)),some (.ref kt),some (.str z0),some (.ref D),w8,w9,w10,some (.ref rl),w12,w13,none]∧ao d H H'∧H' d=some (.lst [.ref b,.int (m:Int)])∧m≤n'+i∧H' D=some (.lst (sa.map V.ref))∧H' kt=some (.tup (kinds.map V.str))∧dc H' nl zs∧fq H' sa kinds ps∧H' rl=some (.lst (ra.map V.ref))∧dm H' ra rs∧rs.length=i∧rs.map (·.name)=(zs.drop 8).take i∧∀r∈rs,j8 kinds r.shape∧1≤r.price∧r.kind∈kinds:=⟨_,λ_ _ _=>abh⟩;refine gw (xs:=sa.map V.ref) P2 ((eP2 _ _ _).mpr ⟨[],[],n',v8,v9,v10,none,none,rfl,S6,d6,by omega,D6,k6,N6,sh6,r6,⟨rfl,λi r h=>by simp at h⟩,rfl,rfl,λ_ h=>nomatch h⟩) (λi σ H' _ h=>by obtain ⟨_,_,_,_,_,_,_,_,_,_,_,_,hd,_⟩:=(eP2 _ _ _).mp h;exact SqL.of hd) ?_ ?_
   ·intro i y σ H7 hy hh;refine ob8 ((eP2 _ _ _).mp hh) λra rs m w8 w9 w10 w12 w13 hh=>?_;have s7:=hh.2.1;have d7:=hh.2.2.1;have hm7:=hh.2.2.2.1;have D7:=hh.2.2.2.2.1;have k7:=hh.2.2.2.2.2.1;have N7:=hh.2.2.2.2.2.2.1;have sh7:=hh.2.2.2.2.2.2.2.1;have r7:=hh.2.2.2.2.2.2.2.2.1;have R7:=hh.2.2.2.2.2.2.2.2.2.1;have rl7:=hh.2.2.2.2.2.2.2.2.2.2.1;have nm7:=hh.2.2.2.2.2.2.2.2.2.2.2.1;have so7:=hh.2.2.2.2.2.2.2.2.2.2.2.2;obtain rfl:=hh.1;clear hh;rw[aac] at hy;obtain ⟨ai,hai,rfl⟩:=Option.map_eq_some_iff.mp hy;have hil:i < ps.length:=by rw[←sal];exact (List.getElem?_eq_some_iff.mp hai).1
    obtain ⟨⟨ki,shi⟩,hpi⟩:∃t,ps[i]?=some t:=⟨_,aa1 hil⟩;obtain ⟨oki,a',si,x1,x2,x3⟩:=sh7.2 i ki shi hpi;obtain rfl:a'=ai:=aa4 (x1.symm.trans hai);have hD7:=hD.next s7 d7
    refine xl x2 rfl ?_;push_cast [and_true];refine kr hD7 (by omega) λone H8 s8 d8=>?_;push_cast [qp];refine ⟨by show (3:Nat)≤sizeLine;decide,λp hp=>?_⟩;obtain ⟨y,hy,hym⟩:=dg [V.int (1+one / 3 % 4),V.int (1+one / 3 % 30),V.int (1+one / 3 % 999999)] (one % 3) (aas _ (by decide)) (ac1 _ (by decide));obtain ⟨y',rfl,hy1⟩:∃y':Int,y=.int y'∧1≤y':=by
     simp only[aan,aa9,or_false] at hym;rcases hym with rfl | rfl | rfl <;> exact ⟨_,rfl,by omega⟩
    refine ay ae hy ?_;have S8:=s7.trans (s8.trans (ao.of (aa hp (.lst [V.int (1+one / 3 % 4),V.int (1+one / 3 % 30),V.int (1+one / 3 % 999999)]))));have s8':=s8.trans (ao.of (d:=d) (aa hp (.lst [V.int (1+one / 3 % 4),V.int (1+one / 3 % 30),V.int (1+one / 3 % 999999)])));have d8':=aa hp (.lst [V.int (1+one / 3 % 4),V.int (1+one / 3 % 30),V.int (1+one / 3 % 999999)]) _ _ d8;generalize upd H8 p (.lst [V.int (1+one / 3 % 4),V.int (1+one / 3 % 30),V.int (1+one / 3 % 999999)])=H9 at S8 s8' d8' ⊢;have r9:=s8' rl _ nrd r7;have D9:=s8' D _ nDd D7;have k9':=bx hD7 s8' k7;have N9':=N7.lb hD7 s8';have sh9:=sh7.lb hD7 s8';have R9:=R7.keep (bx hD7 s8');have x39:=bx hD7 s8' x3;have ral:ra.length=i:=by rw[R7.1,rl7]
    have hzl:=hN.2.1;have hz8:zs[8+i]?=some zs[8+i]:=aa1 (by omega);refine ⟨aw r9,_,.inl (SqL.of r9),ay (v:=.str zs[8+i]) N9'.1 ?_ (Np k9' x39 hk oki.1 λt ds H10 s10 h10=>⟨by show (5:Nat)≤sizeLine;decide,λpr hpr=>?_⟩)⟩
    ·rw[aa0,ral,show (8:Int)+(i:Int)=((8+i:Nat):Int) by omega];exact bb (by rw[aac,hz8];rfl)
    have e11:upd H10 pr (.tup [V.str zs[8+i],V.str ki,V.int y',V.ref si,V.ref t]) pr=some (.tup [V.str zs[8+i],V.str ki,V.int y',V.ref si,V.ref t]):=ae;have q11:=aa hpr (.tup [V.str zs[8+i],V.str ki,V.int y',V.ref si,V.ref t]);have s11:=s10.trans q11;have h11:=q11 _ _ h10;clear q11;generalize upd H10 pr (.tup [V.str zs[8+i],V.str ki,V.int y',V.ref si,V.ref t])=H11 at e11 s11 h11 ⊢;have S11:=S8.trans (ao.of s11);have r11:=s11 _ _ r9;have R11:=(R9.same s11).snoc (r:=⟨zs[8+i],ki,y',shi⟩) ⟨si,t,ds,e11,s11 _ _ x39,h11⟩;have tD:∀{a:Addr} {xs:List V},H11 a=some (.tup xs)→upd H11 rl (.lst (ra.map V.ref++[V.ref pr])) a=some (.tup xs):=λh=>by rw[ah (gq h r11 (by intro e;cases e))];exact h
    refine (ba (K:=K) r11 (by rw[aa0];omega) ((eP2 _ _ _).mpr ⟨ra++[pr],rs++[⟨zs[8+i],ki,y',shi⟩],m+1,_,_,_,_,_,rfl,S11.upd frl _,by rw[ah nrd.symm];exact s11 _ _ d8',by omega,by rw[ah nrD.symm];exact s11 _ _ D9,tD (s11 _ _ k9'),⟨?_,hN.2⟩,(sh9.same s11).keep tD,by rw[ae,aa8];rfl,R11.keep tD,by rw[aa2,aaa,rl7],Er nm7 hz8,λr' hr'=>?_⟩)).2
    ·rw[ah (af hN.1 frl)];exact s11 _ _ N9'.1
    ·rcases List.mem_append.mp hr' with g | g
     ·exact so7 r' g
     ·rw[List.mem_singleton.mp g];exact ⟨oki.1,hy1,oki.2⟩
   ·intro σ H7 hh;refine ob8 ((eP2 _ _ _).mp hh) λra rs m w8 w9 w10 w12 w13 hh=>?_;have s7:=hh.2.1;have d7:=hh.2.2.1;have hm7:=hh.2.2.2.1;have D7:=hh.2.2.2.2.1;have k7:=hh.2.2.2.2.2.1;have N7:=hh.2.2.2.2.2.2.1;have sh7:=hh.2.2.2.2.2.2.2.1;have r7:=hh.2.2.2.2.2.2.2.2.1;have R7:=hh.2.2.2.2.2.2.2.2.2.1;have rl7:=hh.2.2.2.2.2.2.2.2.2.2.1;have nm7:=hh.2.2.2.2.2.2.2.2.2.2.2.1;have so7:=hh.2.2.2.2.2.2.2.2.2.2.2.2;obtain rfl:=hh.1;clear hh;push_cast [and_true];have ral:ra.length=rs.length:=R7.1;rw[aa0] at hm7 rl7 nm7;rw[←rl7] at nm7;have rsl:rs.length=ps.length:=by rw[rl7,sal]
    obtain ⟨at',hat,hlt⟩:∃a:Nat,c / 11 % (((ra.map V.ref).length:Nat):Int)=(a:Int)∧a < ra.length:=⟨(c / 11 % (((ra.map V.ref).length:Nat):Int)).toNat,by
     rw[aa0];have h1:=aas (c / 11) (show ((ra.length:Nat):Int)≠0 by omega);omega,by
     rw[aa0];have h1:=aas (c / 11) (show ((ra.length:Nat):Int)≠0 by omega);have h2:=ac1 (c / 11) (show (0:Int) < ((ra.length:Nat):Int) by omega);omega⟩
    refine ⟨_,.inl (SqL.of r7),by rw[aa0];omega,_,SqL.of r7,λp hp=>?_⟩;rw[hat];have c1:jh (ra.map V.ref) (some (at':Int)) none=(ra.drop at').map V.ref:=by
     have:=Kh (ra.map V.ref) at' 0 (by rw[aa0];omega);rw[show ((at':Int)+((0:Nat):Int))=(at':Int) by omega,Nat.add_zero] at this;rw[this,ac5]
    have c2:jh (ra.map V.ref) none (some (at':Int))=(ra.take at').map V.ref:=by rw[pf _ _ (by rw[aa0];omega),aec]
    rw[c1] at*;refine ⟨_,SqL.of (aa hp _ _ _ r7),λp2 hp2=>?_⟩;rw[c2];refine Nu (aa hp2 _ _ _ ae) ae (by rw[aa0,aa0,aap,ab1];omega) λp3 hp3=>⟨_,.inl ⟨SqL.of ae,λt ht=>⟨by show (2:Nat)≤sizeLine;decide,λbt hbt=>?_⟩⟩⟩;have s8:=(aa hp (.lst ((ra.drop at').map V.ref))).trans ((aa hp2 (.lst ((ra.take at').map V.ref))).trans ((aa hp3 (.lst ((ra.drop at').map V.ref++(ra.take at').map V.ref))).trans ((aa ht (.tup ((ra.drop at').map V.ref++(ra.take at').map V.ref))).trans (aa hbt (.tup [V.ref kt,V.ref t])))));refine q bt m _ kinds (rs.drop at'++rs.take at') (s7.trans (ao.of s8)) (s8 _ _ d7) (by omega) ⟨kt,t,ra.drop at'++ra.take at',ae,s8 _ _ k7,?_,(R7.rot at').same s8⟩ (bk_rot hk (by rw[hkd];exact hN.2.2.1.sublist (adn _ _)) (by omega) hN.2.2.1 nm7 so7 (by omega) at') (by rw[aa2,aap,ab1];omega) (Hq nm7 at') (λz hz=>abt (hkd ▸ hz));rw[aa8];exact aa hbt _ _ _ ae
noncomputable abbrev nj:Stmt:=top 30
theorem Fq:ax ["deck","own","letters","cell","more","tail","names","k","sign","name"] ["deck"] (ag nj):=⟨rfl,rfl,rfl,by decide+kernel,rfl,by decide+kernel,by decide+kernel⟩
theorem Kc (G:Gs w K mg κ) (h_law_next:Has P w K mg base k "_law_next" ["deck"] iw) (D:Def K mg "_law_names" nj ["deck"]):Has P w K mg base (k+1) "_law_names" ["deck"] ql:=by
 refine D.has Fq (λvs H Q E h=>?_) (λf cdv A outer s H vs Q E hr h=>?_)
 ·obtain ⟨_,_,_,_,rfl,_,_,_⟩:=h;rfl
 have nd:=Fq.nd;have hu:=cb hr;have hu0:=aag hu;obtain ⟨d,b,ns,n,rfl,hD,hn,q⟩:=h;have m_range:=G.m_range;refine ⟨_,(A4 (A7 1 nd (AC (BE (AI (AI (AI (AI (AI (AI (AI (AI (AI (BF 0))))))))))))) (A4 (A7 2 nd (AJ 0)) (A4 (A7 3 nd (AF h_law_next hr (A1 (A0 0) (A3 0)))) (A4 (A7 4 nd (A5 (AU 0) (A0 3) (A2 0))) (A4 (A7 5 nd (A5 (@oo _) (A8 (@lh _) (A0 2) (A5 (AH 0) (A5 (AU 0) (A0 4) (A2 0)) (A2 0))) (A5 (AH 0) (A5 (AU 0) (A0 4) (A2 0)) (A2 0)))) (A4 (A7 6 nd (AC (A3 0))) (A4 (AZ (BX m_range (A1 (A2 0) (A3 0))) (AM 7 nd (by first | exact aaz rfl | exact ab4 rfl)) (A4 (A7 8 nd (A8 (@lh _) (A0 2) (A5 (AH 0) (A5 (AQ 0) (A0 4) (A0 7)) (A2 0)))) (A4 (A7 9 nd (A5 (BQ 0) (A5 (BQ 0) (A0 8) (A8 (@lh _) (A0 2) (A5 (AH 0) (A5 (AQ 0) (A5 (AU 0) (A0 4) (A2 0)) (A5 (AU 0) (A0 7) (A2 0))) (A2 0)))) (A0 5))) (BH (AE (AB (AR 0) (A5 (AH 0) (A0 3) (A2 0)) (A2 0) (A9 0)) (A6 (A7 9 nd (A5 (BQ 0) (A8 (AW 0) (A0 1) (A5 (AH 0) (A5 (AQ 0) (A0 7) (A0 4)) (A2 0))) (A8 (@lh _) (A0 2) (A5 (AH 0) (A5 (AQ 0) (A5 (AU 0) (A0 4) (A2 0)) (A5 (AU 0) (A0 7) (A2 0))) (A2 0)))))) (AL 0)) (BH (AE (AB (AR 0) (A5 (AH 0) (A0 3) (A2 0)) (A2 0) (A9 0)) (A4 (A7 9 nd (A5 (@oo _) (A8 (@lh _) (A0 2) (A5 (AH 0) (A0 4) (A2 0))) (A5 (AQ 0) (A2 0) (A5 (AH 0) (A0 7) (A2 0))))) (A4 (A7 9 nd (A5 (BQ 0) (A0 9) (A5 (@oo _) (A8 (@lh _) (A0 2) (A5 (AH 0) (A5 (AQ 0) (A0 4) (A2 0)) (A2 0))) (A5 (AH 0) (A5 (AU 0) (A0 7) (A2 0)) (A2 0))))) (A6 (A7 9 nd (A5 (BQ 0) (A0 9) (A8 (@lh _) (A0 2) (A5 (AH 0) (A5 (AQ 0) (A5 (AQ 0) (A0 4) (A2 0)) (A5 (AU 0) (A0 7) (A2 0))) (A2 0)))))))) (AL 0)) (BH (AE (BK (BR 0) (A0 9) (A0 1)) (A6 (A7 9 nd (A5 (BQ 0) (A0 9) (AJ 0)))) (AL 0)) (A6 (AN (AO PySem.F.plainAttrs_list PySem.F.slot_list_append PySem.F.type_list_append (AV 0) (A0 6) (A1 (A0 9) (A3 0))))))))))) (A6 (AD (A0 6)))))))))),?_⟩;rw[show start ["deck","own","letters","cell","more","tail","names","k","sign","name"] [.ref d]=[some (.ref d),none,none,none,none,none,none,none,none,none] from rfl];clear hu hu0 nd hr;push_cast [and_true];have sz:=sizeLine_eq;refine ⟨by show (9:Nat)≤sizeLine;decide,λp hp=>kr (hD.same (aa hp _)) (by omega) λc H1 s1 d1=>?_⟩;push_cast [qp];refine ib ⟨_,rfl,by omega,by omega,by show (1:Nat)≤1000;decide,aa6 _,λl hl=>?_⟩;have npd:p≠d:=(af hD.1 hp).symm;have p1:H1 p=some (.lst (dn.map V.str)):=s1 p _ npd ae;have S1:ao d H H1:=(ao.of (aa hp (.lst (dn.map V.str)))).trans s1;have fl:=S1.free d1 hl;have nld:l≠d:=(af d1 hl).symm;have nlp:l≠p:=(af p1 hl).symm;obtain ⟨P1,eP1⟩:∃P1:Nat→L2.St→Hp→Prop,∀j σ H',P1 j σ H'↔∃v7 v8 v9:Option V,σ=[some (.ref d),some (.ref p),some (.str Bg),some (.int c),some (.int (c / 3)),some (.str (sf (c / 3))),some (.ref l),v7,v8,v9]∧ao d H H'∧H' d=some (.lst [.ref b,.int ((n+1:Nat):Int)])∧H' p=some (.lst (dn.map V.str))∧H' l=some (.lst ((aax j).map λk=>V.str (nmP c k))):=⟨_,λ_ _ _=>abh⟩;refine ij (lo:=0) P1 ((eP1 _ _ _).mpr ⟨none,none,none,rfl,S1.upd fl _,aa hl _ _ _ d1,aa hl _ _ _ p1,ae⟩) ?_ ?_
 ·intro j σ H5 hj hh;refine ob3 ((eP1 _ _ _).mp hh) λv7 v8 v9 hh=>?_;have s5:=hh.2.1;have d5:=hh.2.2.1;have p5:=hh.2.2.2.1;have l5:=hh.2.2.2.2;obtain rfl:=hh.1;clear hh;push_cast [and_true];simp only[Int.zero_add];refine ib (ib ⟨_,rfl,_,rfl,by rw[ee,ee];omega,by have:=G2 (c / 3) (c / 3) j;unfold nm0 at this;rw[Str.length_append] at this;omega,?_⟩);refine eu (λσ' H6=>σ'=[some (.ref d),some (.ref p),some (.str Bg),some (.int c),some (.int (c / 3)),some (.str (sf (c / 3))),some (.ref l),some (.int (j:Int)),some (.str (ltr (c / 3+(j:Int)))),some (.str (if c % 3=1 then nm1 (c / 3) j else nm0 (c / 3) (sf (c / 3)) j))]∧H5=H6) ?_ ?_
  ·push_cast [and_true];refine ⟨rfl,b7 (λe=>?_) λe=>?_⟩
   ·rw[if_pos e];have b1:(((j:Int)+c / 3) % 9).toNat < dn.length:=by show _ < 9;omega
    have g:=Fz (c / 3) j;have g2:nm1 (c / 3) j=dn[(((j:Int)+c / 3) % 9).toNat]++ltr (c / 3 / 9+(j:Int) / 9):=by
     unfold nm1;rw[aae,aa1 b1];rfl
    refine ay (v:=.str dn[(((j:Int)+c / 3) % 9).toNat]) p5 ?_ (ib ⟨_,rfl,_,rfl,?_,g2.symm,rfl⟩)
    ·have g3:((((j:Int)+c / 3) % 9).toNat:Int)=((j:Int)+c / 3) % 9:=by omega
     have g4:=bb (xs:=dn.map V.str) (j:=(((j:Int)+c / 3) % 9).toNat) (v:=.str dn[(((j:Int)+c / 3) % 9).toNat]) (by rw[aac,aa1 b1];rfl);rw[g3] at g4;exact g4
    ·rw[g2,Str.length_append] at g;omega
   ·rw[if_neg e];rfl
  rintro _ _ ⟨rfl,rfl⟩;refine eu (λσ' H6=>∃v8:Option V,σ'=[some (.ref d),some (.ref p),some (.str Bg),some (.int c),some (.int (c / 3)),some (.str (sf (c / 3))),some (.ref l),some (.int (j:Int)),v8,some (.str (nmX c j))]∧H5=H6) ?_ ?_
  ·push_cast [and_true];refine ⟨rfl,b7 (λe=>?_) λe=>?_⟩
   ·refine ib ⟨_,rfl,by omega,by omega,by rw[ee];omega,ib ⟨_,rfl,by omega,by omega,by rw[ee];omega,by rw[lu,lu];omega,ib ⟨_,rfl,by rw[Str.length_append,lu,lu,ee];omega,?_,rfl⟩⟩⟩;unfold nmX;rw[if_pos e];rfl
   ·unfold nmX;rw[if_neg e]
  rintro _ _ ⟨v8',rfl,rfl⟩;refine eu (λσ' H6=>∃v8:Option V,σ'=[some (.ref d),some (.ref p),some (.str Bg),some (.int c),some (.int (c / 3)),some (.str (sf (c / 3))),some (.ref l),some (.int (j:Int)),v8,some (.str (nmP c j))]∧H5=H6) ?_ ?_
  ·push_cast [rIn];have g:=E9 c j;have hx:(Str.ofString "xq").length=2:=zg;refine ⟨_,.inl (SqL.of p5),rfl,List.all_eq_true.mpr λx hx=>by obtain ⟨z,_,rfl⟩:=List.mem_map.mp hx;rfl,b7 (λe=>⟨by omega,?_⟩) λe=>?_⟩
   ·unfold nmP;rw[if_pos ((Mt _).mp e)]
   ·unfold nmP;rw[if_neg λh=>e ((Mt _).mpr h)]
  rintro _ _ ⟨v8'',rfl,rfl⟩;push_cast [and_true];refine ba l5 (by rw[aa0,ac6];omega) ((eP1 _ _ _).mpr ⟨_,_,_,rfl,s5.upd fl _,by rw[ah nld.symm];exact d5,by rw[ah nlp.symm];exact p5,?_⟩);rw[ae,aex,aa8];rfl
 ·intro σ H5 hh;refine ob3 ((eP1 _ _ _).mp hh) λv7 v8 v9 hh=>?_;have s5:=hh.2.1;have d5:=hh.2.2.1;have p5:=hh.2.2.2.1;have l5:=hh.2.2.2.2;obtain rfl:=hh.1;clear hh;push_cast [and_true];exact q l H5 _ s5 d5 (Ee l5) (Ll c)
noncomputable abbrev jr:Stmt:=top 37
theorem Bo:ax ["kinds","shape"] ["kinds","shape"] (ag jr):=⟨rfl,rfl,rfl,by decide+kernel,rfl,by decide+kernel,by decide+kernel⟩
theorem Ho (G:Gs w K mg κ) (D:Def K mg "_law_holes" jr ["kinds","shape"]):Has P w K mg base (k+1) "_law_holes" ["kinds","shape"] (ku K):=by
 refine D.has Bo (λvs H Q E h=>?_) (λf cdv A outer s H vs Q E hr h=>?_)
 ·obtain ⟨_,_,_,_,rfl,_,_,_,_,_⟩:=h;rfl
 have nd:=Bo.nd;have hu:=cb hr;have hu0:=aag hu;obtain ⟨kt,st,kinds,sh,rfl,hK,hS,hw,hl,q⟩:=h;refine ⟨_,(A6 (AD (BT (BI ["word"] ["kinds"] [0] (aaj rfl trivial) (aaj (aaj rfl (aaj rfl rfl)) trivial)) (BL (A0 1)) (λ_ _ _=>(B0 0 (show aba (["word","kinds"]:List Str) by decide+kernel))) (λ_ _ _=>(BS (BK (@oh _ K rfl) (A0 0) (AA 1)))) (λ_ _ _=>(A0 0))))),?_⟩;rw[show start ["kinds","shape"] [.ref kt,.ref st]=[some (.ref kt),some (.ref st)] from rfl];clear hu hu0 nd hr;push_cast [and_true];have sz:=sizeLine_eq;have fl:(kinds.map V.str).all g6=true:=List.all_eq_true.mpr λx hx=>by obtain ⟨z,_,rfl⟩:=List.mem_map.mp hx;rfl
 refine ⟨⟨sh,hS⟩,λD hD=>Eo (xs:=sh) (λi ys=>ys=(sh.take i).filter (isH kinds)) hS (by omega) hD rfl (λi x ys H3 G' K' hx hP hl2 hS' hG hK'=>?_) λys H3 hP hl2 hS' hD2=>?_⟩
 ·have hxw:=hw x (aah hx);have et:sh.take (i+1)=sh.take i++[x]:=by rw[ab6,hx];rfl
  push_cast [rIn];refine ⟨_,.inr (hS'.tup hK),hxw.flat,fl,b7 (λe=>?_) λe=>?_⟩
  ·rw[zz hxw] at e;refine hK' _ _ (ak.refl _) ?_;rw[et,abf,←hP,aar,if_pos e];rfl
  ·rw[zz hxw] at e;refine hG _ (ak.refl _) ?_;rw[et,abf,←hP,aar,if_neg e];exact (ab7 _).symm
 ·rw[abp,←jc] at hP;subst hP;exact q D H3 hS' hD hD2
noncomputable abbrev jo:Stmt:=top 38
theorem Bj:ax ["deck","book","words","place","kind","most","ends","due","found","some","rule","under","plain"] ["deck","book","words","place","kind","most"] (ag jo):=⟨rfl,rfl,rfl,by decide+kernel,rfl,by decide+kernel,by decide+kernel⟩
theorem Ij (G:Gs w K mg κ) (h_law_ends:Has P w K mg base k "_law_ends" ["words"] (vy K)) (h_law_holes:Has P w K mg base k "_law_holes" ["kinds","shape"] (ku K)) (h_law_laid:Has P w K mg base k "_law_laid" ["kinds","shape","words","ends","place"] (qc K)) (h_law_next:Has P w K mg base k "_law_next" ["deck"] iw) (D:Def K mg "_law_cover" jo ["deck","book","words","place","kind","most"]):Has P w K mg base (k+1) "_law_cover" ["deck","book","words","place","kind","most"] qg:=by
 refine D.has Bj (λvs H Q E h=>?_) (λf cdv A outer s H vs Q E hr h=>?_)
 ·obtain ⟨_,_,_,_,_,_,_,_,_,_,_,rfl,_,_,_,_,_,_,_,_,_⟩:=h;rfl
 have nd:=Bj.nd;have hu:=cb hr;have hu0:=aag hu;obtain ⟨d,b,wt,dk,ms,kinds,rs,ws,p,n,kd,rfl,hD,hn,hB,hW,bk,tw,hp,q0,q⟩:=h;have m_len:=G.m_len;have m_list:=G.m_list;have m_reversed:=G.m_reversed;have m_tuple:=G.m_tuple;have m_zip:=G.m_zip;refine ⟨_,(A4 (A7 6 nd (AF h_law_ends hr (A1 (A0 2) (A3 0)))) (A4 (A7 7 nd (AC (A1 (AK (A1 (A0 3) (A1 (A0 4) (A3 0)))) (A3 0)))) (A4 (A7 8 nd (AC (A3 0))) (A4 (CF (AB (@Bl _ hu0) (A0 7) (AC (A3 0)) (A9 0)) (A4 (CM (BW PySem.F.plainAttrs_list PySem.F.slot_list_pop PySem.F.type_list_pop (@mx _) (A0 7)) (C4 2 (AT (AM 3 nd (by first | exact aaz rfl | exact ab4 rfl)) (AT (AM 4 nd (by first | exact aaz rfl | exact ab4 rfl)) (BP 0))))) (A4 (A7 9 nd (AC (A3 0))) (A4 (AZ (BL (A8 (AG 0) (AA 1) (A2 0))) (AM 10 nd (by first | exact aaz rfl | exact ab4 rfl)) (A4 (A7 11 nd (AF h_law_laid hr (A1 (A8 (AG 0) (AA 1) (A2 0)) (A1 (A8 (AG 0) (A0 10) (A2 0)) (A1 (A0 2) (A1 (A0 6) (A1 (A0 3) (A3 0)))))))) (A6 (AE (B6 (BJ (AB (AR 0) (A8 (AG 0) (A0 10) (A2 0)) (A0 4) (A9 0)) (BM (BC (CG (A0 11)) (by first | exact cq _ (by decide) (by decide) | rfl))))) (A6 (AN (AO PySem.F.plainAttrs_list PySem.F.slot_list_append PySem.F.type_list_append (AV 0) (A0 9) (A1 (AK (A1 (A0 10) (A1 (A8 (AG 0) (A0 11) (A2 0)) (A3 0)))) (A3 0))))) (AL 0))))) (A4 (CI 12 nd (BI ["pair"] ["book"] [1] (aaj rfl trivial) (aaj (aaj rfl (aaj rfl rfl)) trivial)) (BD (A0 9)) (λ_ _ _=>(B0 0 (show aba (["pair","book"]:List Str) by decide+kernel))) (λ_ _ _=>(BS (BK (@xw _ K rfl) (A8 (C8 K) (A8 (C8 K) (A8 (C8 K) (A0 0) (A2 0)) (A2 0)) (A2 0)) (A8 (C8 K) (AA 1) (A2 0))))) (λ_ _ _=>(A0 0))) (BH (AE (AB (BG 0) (AS (AX 0) m_len dr (A1 (A0 8) (A3 0))) (A0 5) (A9 0)) (A6 (A7 9 nd (A0 12))) (AL 0)) (A4 (AE (B6 (BV (AB (@Kz _ hu0) (A0 9) (AC (A3 0)) (A9 0)) (C7 (AB (BG 0) (AS (AX 0) m_len dr (A1 (A0 8) (A3 0))) (A5 (@ue _) (A2 0) (A0 5)) (A9 0))))) (A6 (AD (@qu _ _ _))) (AL 0)) (A4 (CM (A8 (AW 0) (A0 9) (A5 (AH 0) (AF h_law_next hr (A1 (A0 0) (A3 0))) (AS (AX 0) m_len dr (A1 (A0 9) (A3 0))))) (C4 2 (AT (AM 10 nd (by first | exact aaz rfl | exact ab4 rfl)) (AT (AM 11 nd (by first | exact aaz rfl | exact ab4 rfl)) (BP 0))))) (A4 (AN (AO PySem.F.plainAttrs_list PySem.F.slot_list_append PySem.F.type_list_append (AV 0) (A0 8) (A1 (A8 (AG 0) (A0 10) (A2 0)) (A3 0)))) (A6 (AN (AO PySem.F.plainAttrs_list PySem.F.slot_list_extend PySem.F.type_list_extend (@i5 _) (A0 7) (A1 (@wu _ _ _ _ _ _ _ rfl rfl m_list rfl m_reversed (A1 (@vc _ _ _ _ _ _ _ _ rfl rfl m_list rfl m_zip (A1 (A0 11) (A1 (AF h_law_holes hr (A1 (A8 (AG 0) (AA 1) (A2 0)) (A1 (A8 (AG 0) (A0 10) (A2 0)) (A3 0)))) (A3 0))) rfl rfl rfl) (A3 0)) rfl rfl) (A3 0)))))))))))))) (A6 (AD (AY (BA 0) m_tuple de (A1 (A0 8) (A3 0))))))))),?_⟩;rw[show start ["deck","book","words","place","kind","most","ends","due","found","some","rule","under","plain"] [.ref d,.ref b,.ref wt,.int (p:Int),.str kd,.int 30]=[some (.ref d),some (.ref b),some (.ref wt),some (.int (p:Int)),some (.str kd),some (.int 30),none,none,none,none,none,none,none] from rfl];clear hu hu0 nd hr;push_cast [and_true];have sz:=sizeLine_eq;have rl:=bk.len;refine Jy (SqT.of hW) (λv hv=>(tw.w v hv).1) tw.one tw.len λet H1 s1 het e1=>⟨by show (2:Nat)≤sizeLine;decide,λp2 hp2=>⟨by show (1:Nat)≤sizeLine;decide,λdl hdl=>⟨aa6 _,λfl hfl=>?_⟩⟩⟩;have s4:=aa hp2 (.tup [V.int (p:Int),V.str kd]);have s5:=aa hdl (.lst [V.ref p2]);have s5':=aa hfl (.lst []);have S5:=s1.trans (s4.trans (s5.trans s5'));have fdl:=(s1.trans s4).free hdl;have ffl:=(s1.trans (s4.trans s5)).free hfl;have ned:et≠dl:=af (s4 _ _ e1) hdl;have nef:et≠fl:=af ((s4.trans s5) _ _ e1) hfl;have ndf:dl≠fl:=af (ae (H:=upd H1 p2 (.tup [V.int (p:Int),V.str kd])) (a:=dl) (o:=.lst [V.ref p2])) hfl;have ndd:dl≠d:=(af hD.1 fdl).symm;have nfd:fl≠d:=(af hD.1 ffl).symm;have ndet:et≠d:=(af hD.1 het).symm;have e5:=(s4.trans (s5.trans s5')) _ _ e1;have p5:=(s5.trans s5') _ _ (ae (H:=H1) (a:=p2) (o:=.tup [V.int (p:Int),V.str kd]));have d5:=s5' _ _ (ae (H:=upd H1 p2 (.tup [V.int (p:Int),V.str kd])) (a:=dl) (o:=.lst [V.ref p2]));have f5:upd (upd (upd H1 p2 (.tup [V.int (p:Int),V.str kd])) dl (.lst [V.ref p2])) fl (.lst []) fl=some (.lst []):=ae;generalize upd (upd (upd H1 p2 (.tup [V.int (p:Int),V.str kd])) dl (.lst [V.ref p2])) fl (.lst [])=H5 at s5' S5 e5 p5 d5 f5 ⊢;obtain ⟨P1,eP1⟩:∃P1:L2.St→Hp→Prop,∀σ H',P1 σ H'↔∃(bs:List Addr) (ns:List Str) (st:List Ky) (m:Nat) (v3 v4 v9 v10 v11 v12:Option V),σ=[some (.ref d),some (.ref b),some (.ref wt),v3,v4,some (.int 30),some (.ref et),some (.ref dl),some (.ref fl),v9,v10,v11,v12]∧ao d H H'∧dq H' d dk ms m∧m≤n+ns.length∧H' et=some (.lst ((aax ws.length).map λq=>plV (endAt ws q)))∧H' dl=some (.lst (bs.map V.ref))∧H' fl=some (.lst (ns.map V.str))∧KsL H' bs st.reverse∧(∀k∈st,k.1 < ws.length)∧st.length≤1+100*ns.length∧ns.length≤62∧(∀z∈ns,∃r∈rs,r.name=z)∧gj kinds rs ws ns [(p,kd)]=some st:=⟨_,λ_ _=>abh⟩;refine ja P1 (λ_ H'=>62 - ml H' fl) ((eP1 _ _).mpr ⟨[p2],[],[(p,kd)],n,_,_,none,none,none,none,rfl,ao.of S5,hD.same S5,aa3 _,e5,d5,f5,KsL.one p5,λk hk=>by rw[List.mem_singleton.mp hk];exact hp,by show (1:Nat)≤_;omega,aa6 _,(λ_ h=>(aa9 h).elim),rfl⟩) ?_ λσ H Q Q' h c=>Jp h c;intro σ H6 hh;obtain ⟨bs,ns,st,m,v3,v4,v9,v10,v11,v12,rfl,s6,D6,hm6,e6,d6,f6,K6,k6,sl6,nl6,nr6,ne6⟩:=(eP1 _ _).mp hh;push_cast [tLR,tLZ,iy];have ndk:dl≠dk:=(af hD.2 fdl).symm;have nfk:fl≠dk:=(af hD.2 ffl).symm;have bl:=K6.1;rw[aaq] at bl;refine ⟨aa6 _,λp3 hp3=>wq (aa hp3 _ _ _ d6) ae ?_⟩;have q3:=aa hp3 (.lst []);cases st with
 | nil=>
  have:bs=[]:=by simpa using bl
  subst this;refine iteF ⟨_,.inl ⟨SqL.of (q3 _ _ f6),λt ht=>?_⟩⟩;have st:=aa ht (.tup (ns.map V.str));obtain ⟨ds,hds⟩:=pz ne6;exact q m t ns ds _ (s6.trans (ao.of (q3.trans st))) (st _ _ (q3 _ _ D6.1)) (by omega) ae (by omega) nr6 hds
 | cons k st=>
  obtain ⟨bs',a2,rfl,K6',hk⟩:=K6.pop;have d7:=q3 _ _ d6;rw[aa8] at d7;rw[show (!((bs'++[a2]).map V.ref).isEmpty)=true by simp];refine iteT (n6 (xs:=bs'.map V.ref) (y:=.ref a2) d7 ?_);generalize upd H6 p3 (.lst [])=H7 at q3 d7 ⊢;have sA:ao d H (upd H7 dl (.lst (bs'.map V.ref))):=(s6.trans (ao.of q3)).upd fdl _;have tkA:TK H6 (upd H7 dl (.lst (bs'.map V.ref))):=(TK.of q3).trans (TK.put d7 (λ_ z=>nomatch z));have DA:dq (upd H7 dl (.lst (bs'.map V.ref))) d dk ms m:=⟨by rw[ah ndd.symm];exact q3 _ _ D6.1,by rw[ah ndk.symm];exact q3 _ _ D6.2⟩;have eA:upd H7 dl (.lst (bs'.map V.ref)) et=some (.lst ((aax ws.length).map λq=>plV (endAt ws q))):=by rw[ah ned];exact q3 _ _ e6
  have dA:upd H7 dl (.lst (bs'.map V.ref)) dl=some (.lst (bs'.map V.ref)):=ae;have fA:upd H7 dl (.lst (bs'.map V.ref)) fl=some (.lst (ns.map V.str)):=by rw[ah ndf.symm];exact q3 _ _ f6
  have hkA:=tkA _ _ hk;have KA:=K6'.tk tkA;generalize upd H7 dl (.lst (bs'.map V.ref))=HA at sA tkA DA eA dA fA hkA KA ⊢;have wA:=bx hD sA hW;obtain ⟨kt,rt,ra,hb,hkt,hrt,hRA⟩:=hB.keep (bx hD sA);have ral:=hRA.1;have kk:=k6 k aa7;refine xl hkA rfl ?_;push_cast [tLR,tLZ,iy];refine ⟨aa6 _,λsm hsm=>au (aa hsm _ _ _ hb) rfl ⟨rt,rfl,⟨_,SqT.of (aa hsm _ _ _ hrt)⟩,?_⟩⟩;obtain ⟨P2,eP2⟩:∃P2:Nat→L2.St→Hp→Prop,∀j σ H',P2 j σ H'↔∃(as:List Addr) (v10 v11:Option V),σ=[some (.ref d),some (.ref b),some (.ref wt),some (.int (k.1:Int)),some (.str k.2),some (.int 30),some (.ref et),some (.ref dl),some (.ref fl),some (.ref sm),v10,v11,v12]∧ak HA H'∧H' sm=some (.lst (as.map V.ref))∧as.length≤j∧∀a∈as,yg H' kinds rs ws k a:=⟨_,λ_ _ _=>abh⟩;refine gd (xs:=ra.map V.ref) P2 ((eP2 _ _ _).mpr ⟨[],v10,v11,rfl,aa hsm _,ae,aa3 _,λ_ h=>(aa9 h).elim⟩) (λj σ H' _ h=>by obtain ⟨_,_,_,_,s,_⟩:=(eP2 _ _ _).mp h;exact SqT.of (s _ _ hrt)) ?_ ?_
  ·intro j y σ H8 hy hh;obtain ⟨as,w10,w11,rfl,s8,m8,al8,c8⟩:=(eP2 _ _ _).mp hh;rw[aac] at hy;obtain ⟨a,ha,rfl⟩:=Option.map_eq_some_iff.mp hy;have hjl:j < rs.length:=by rw[←ral];exact (List.getElem?_eq_some_iff.mp ha).1
   have hrj:rs[j]?=some rs[j]:=aa1 hjl;obtain ⟨a',ha',hR⟩:=hRA.2 j _ hrj;obtain rfl:a'=a:=aa4 (ha'.symm.trans ha);generalize rs[j]=r at hrj hR;obtain ⟨sa,da,dd,g1,g2,g3⟩:=id hR;obtain ⟨w1,w2,w3⟩:=bk.sh r (aah hrj);push_cast [iy];refine au (s8 _ _ hb) rfl (au (s8 _ _ g1) rfl (Gz (SqT.of (s8 _ _ g2)) (SqT.of (s8 _ _ hkt)) (SqT.of (s8 _ _ wA)) (s8 _ _ eA) bk.kd w1 w2 (by omega) tw kk λH9 s9=>?_));have S9:=s8.trans s9;cases hu:bu kinds ws r.shape k.1 ⟨[],[],[]⟩ with
   | none=>
    have z:∀v,P2 (j+1) [some (.ref d),some (.ref b),some (.ref wt),some (.int (k.1:Int)),some (.str k.2),some (.int 30),some (.ref et),some (.ref dl),some (.ref fl),some (.ref sm),some (.ref a'),v,v12] H9:=λv=>(eP2 _ _ _).mpr ⟨as,_,_,rfl,S9,s9 _ _ m8,by omega,λx hx=>(c8 x hx).tk (TK.of s9)⟩;exact ly (au (S9 _ _ g1) rfl ⟨rfl,b7 (λ_=>ifN (by simp) (z _)) λ_=>z _⟩)
   | some u=>
    intro t HC sC hu7 ok7;have SC:=S9.trans sC;have s8C:=s9.trans sC;refine au (SC _ _ g1) rfl ⟨rfl,b7 (λck=>ifY (by simp) ⟨aw (s8C _ _ m8),?_⟩) λ_=>(eP2 _ _ _).mpr ⟨as,_,_,rfl,SC,s8C _ _ m8,by omega,λx hx=>(c8 x hx).tk (TK.of s8C)⟩⟩;obtain ⟨t1,t2,t3,u1,u2,_⟩:=id hu7;refine au u1 rfl ⟨by show (2:Nat)≤sizeLine;decide,λp6 hp6=>?_⟩;have s6':=aa hp6 (.tup [V.ref a',V.ref t1]);have p6':upd HC p6 (.tup [V.ref a',V.ref t1]) p6=some (.tup [V.ref a',V.ref t1]):=ae;generalize upd HC p6 (.tup [V.ref a',V.ref t1])=HD at s6' p6' ⊢;have s8D:=s8C.trans s6';have m9:=s8D _ _ m8;have tk9:TK HD (upd HD sm (.lst (as.map V.ref++[V.ref p6]))):=TK.put m9 (λ_ z=>nomatch z);refine (ba (K:=K) m9 (by rw[aa0];omega) ((eP2 _ _ _).mpr ⟨as++[p6],_,_,rfl,(SC.trans s6').upd hsm _,by rw[ae,aa8];rfl,by rw[aa2,aaa];omega,λx hx=>?_⟩)).2;rcases List.mem_append.mp hx with hx | hx
    ·exact (c8 x hx).tk ((TK.of s8D).trans tk9)
    ·rw[List.mem_singleton.mp hx];refine yg.tk (H:=HD) ⟨a',t1,r,u,p6',?_,hR.same (SC.trans s6'),s6' _ _ u2⟩ tk9;rw[←V.str.inj ck,qd bk hrj,hu];rfl
  ·intro σ H8 hh;obtain ⟨as,w10,w11,rfl,s8,m8,al8,c8⟩:=(eP2 _ _ _).mp hh;rw[aa0] at al8;push_cast [tLR,tLZ,iy];refine ⟨⟨_,SqL.of m8⟩,λpl hpl=>Ai (xs:=as.map V.ref) (λi ys=>∃cs:List Addr,ys=cs.map V.ref∧cs.length≤i∧∀c∈cs,c∈as) (SqL.of m8) (by rw[aa0];omega) hpl ⟨[],rfl,aa3 _,λ_ h=>(aa9 h).elim⟩ (λi x ys H9 G' K' hx hP hl2 hS hG hK=>?_) λys H9 hP hl2 hS hpl2=>?_⟩
   ·rw[aac] at hx;obtain ⟨a,ha,rfl⟩:=Option.map_eq_some_iff.mp hx;have ham:=aah ha;obtain ⟨ra',ua,r,u,h1,hru,⟨sa,da,dd,g1,g2,g3⟩,h4⟩:=(c8 a ham).tk (TK.of hS);have h2:=(jj hru).1;obtain ⟨w1,w2,w3⟩:=bk.sh r h2;obtain ⟨cs,rfl,cl,cm⟩:=hP;obtain ⟨v0,sh0,e0⟩:∃v0 sh0,r.shape=v0::sh0:=by
     cases e:r.shape with
     | nil=>rw[e] at w2;exact absurd rfl w2.ne
     | cons v0 sh0=>exact ⟨v0,sh0,rfl⟩
    have wv:=w1 v0 (by rw[e0];exact aa7);push_cast [rIn];have kf:(kinds.map V.str).all g6=true:=List.all_eq_true.mpr λx hx=>by obtain ⟨z,_,rfl⟩:=List.mem_map.mp hx;rfl
    refine au h1 rfl (au g1 rfl (au (v:=v0) g2 (by rw[e0];exact bb (j:=0) rfl) (au (hS _ _ (s8 _ _ hb)) rfl ⟨kt,rfl,_,.inr (SqT.of (hS _ _ (s8 _ _ hkt))),wv.flat,kf,b7 (λ_=>hK _ _ (ak.refl _) ⟨cs++[a],by rw[aa8];rfl,by rw[aa2,aaa];omega,λc hc=>?_⟩) λ_=>hG _ (ak.refl _) ⟨cs,rfl,by omega,cm⟩⟩)));rcases List.mem_append.mp hc with hc | hc
    ·exact cm c hc
    ·rw[List.mem_singleton.mp hc];exact ham
   ·obtain ⟨cs,rfl,cl,cm⟩:=hP;rw[aa0] at cl;have S9:=s8.trans hS;refine eu (λσ' H'=>∃(sm':Addr) (as':List Addr),σ'=[some (.ref d),some (.ref b),some (.ref wt),some (.int (k.1:Int)),some (.str k.2),some (.int 30),some (.ref et),some (.ref dl),some (.ref fl),some (.ref sm'),w10,w11,some (.ref pl)]∧H9=H'∧H9 sm'=some (.lst (as'.map V.ref))∧HA sm'=none∧as'.length≤100∧∀a∈as',yg H9 kinds rs ws k a) ?_ ?_
    ·push_cast [and_true];exact ⟨_,.inl (SqL.of (S9 _ _ fA)),b7 (λ_=>⟨cs,hpl2,s8.free hpl,by omega,λc hc=>(c8 c (cm c hc)).tk (TK.of hS)⟩) λ_=>⟨as,hS _ _ m8,hsm,by omega,λa ha=>(c8 a ha).tk (TK.of hS)⟩⟩
    rintro _ _ ⟨sm',as',rfl,rfl,m9,hm9,al9,c9⟩;push_cast [tLR,tLZ];refine ⟨aa6 _,λp6 hp6=>wq (aa hp6 _ _ _ m9) ae ?_⟩;have q6:=aa hp6 (.lst []);generalize upd H9 p6 (.lst [])=HB at q6 ⊢;have SB:=S9.trans q6;have DB:=DA.same SB;have z:Q .non HB:=q0 m HB (sA.trans (ao.of SB)) DB.1 (by omega);refine b7 (λ_=>z) λc0=>⟨_,.inl (SqL.of (SB _ _ fA)),by unfold CMul;omega,b7 (λ_=>z) λc1=>kr DB (by omega) λc HE sE dE=>?_⟩;rw[aa0] at c1;have nmd:sm'≠d:=(af DA.1 hm9).symm;have mE:=sE _ _ nmd (q6 _ _ m9);have fE:=sE _ _ nfd (SB _ _ fA);have dlE:=sE _ _ ndd (SB _ _ dA);have eE:=sE _ _ ndet (SB _ _ eA);have DE:=DB.next sE dE
    have tkE:TK HA HE:=(TK.of SB).trans (Ac DB sE);have ap:0 < as'.length:=by
     cases as' with
     | nil=>exact absurd rfl c0
     | cons=>simp
    refine ⟨_,.inl (SqL.of mE),by rw[aa0];omega,?_⟩;obtain ⟨i,hi,ei⟩:∃i:Nat,i < as'.length∧c % (((as'.map V.ref).length:Nat):Int)=(i:Int):=by
     rw[aa0];have h1:=aas c (show ((as'.length:Nat):Int)≠0 by omega);have h2:=ac1 c (show (0:Int) < ((as'.length:Nat):Int) by omega);exact ⟨(c % ((as'.length:Nat):Int)).toNat,by omega,by omega⟩
    rw[ei];obtain ⟨ra',ua,r,u,h1,hru,⟨sa,da,dd,g1,g2,g3⟩,h4⟩:=(c9 as'[i] (ab5 hi)).tk ((TK.of q6).trans (Ac DB sE));obtain ⟨h2,h5,h6⟩:=G8 bk tw kk hru;refine ay mE (bb (v:=.ref as'[i]) (by rw[aac,aa1 hi];rfl)) (xl h1 rfl ?_);obtain ⟨w1,w2,w3⟩:=bk.sh r h2;push_cast [tLR,tLZ];have sF:ao d H (upd HE fl (.lst (ns.map V.str++[V.str r.name]))):=((sA.trans (ao.of SB)).trans sE).upd ffl _;have tkF:TK HE (upd HE fl (.lst (ns.map V.str++[V.str r.name]))):=TK.put fE (λ_ z=>nomatch z);have dlF:upd HE fl (.lst (ns.map V.str++[V.str r.name])) dl=some (.lst (bs'.map V.ref)):=by rw[ah ndf];exact dlE
    have eF:upd HE fl (.lst (ns.map V.str++[V.str r.name])) et=some (.lst ((aax ws.length).map λq=>plV (endAt ws q))):=by rw[ah nef];exact eE
    have DF:dq (upd HE fl (.lst (ns.map V.str++[V.str r.name]))) d dk ms (m+1):=⟨by rw[ah nfd.symm];exact DE.1,by rw[ah nfk.symm];exact DE.2⟩;have fF:upd HE fl (.lst (ns.map V.str++[V.str r.name])) fl=some (.lst (ns.map V.str++[V.str r.name])):=ae;refine ⟨aw fE,au g1 rfl (ba (K:=K) fE (by rw[aa0];omega) ⟨aw dlF,?_⟩).2⟩;generalize upd HE fl (.lst (ns.map V.str++[V.str r.name]))=HF at sF tkF dlF eF DF fF ⊢;refine au (tkF _ _ (tkE _ _ hb)) rfl (au (tkF _ _ g1) rfl (Cn (SqT.of (tkF _ _ (tkE _ _ hkt))) (SqT.of (tkF _ _ g2)) w1 (by omega) λl HG sG hlG h8=>?_));refine ⟨l,rfl,u.hs.map plV,SqT.of (sG _ _ (tkF _ _ h4)),(aq kinds r.shape).map V.str,SqL.of h8,by rw[aa0,aa0];exact h5,λl2 cs' HI sI hl2 hal hL hA=>⟨_,SqL.of hL,λp7 hp7=>?_⟩⟩;have sJ:=aa hp7 (.lst (cs'.map V.ref).reverse);have pJ:upd HI p7 (.lst (cs'.map V.ref).reverse) p7=some (.lst (cs'.map V.ref).reverse):=ae;have KJ:=((KsL.zip h5 hal hA).tk (TK.of sJ)).rev;generalize upd HI p7 (.lst (cs'.map V.ref).reverse)=HJ at sJ pJ KJ ⊢;have sFJ:=sG.trans (sI.trans sJ);have dJ:=sFJ _ _ dlF;have tkJ:TK HJ (upd HJ dl (.lst (bs'.map V.ref++(cs'.map V.ref).reverse))):=TK.put dJ (λ_ z=>nomatch z);have bl':=KA.1;have csl:=KJ.1;rw[aaq] at bl';rw[aaq,aaq,acf] at csl;have hl':=yd kinds r.shape;rw[aai] at sl6;have zl:(ns++[r.name]).length=ns.length+1:=by rw[aa2];rfl
    have fJ:upd HJ dl (.lst (bs'.map V.ref++(cs'.map V.ref).reverse)) fl=some (.lst ((ns++[r.name]).map V.str)):=by rw[ah ndf.symm,aa8];exact sFJ _ _ fF
    refine ⟨dl,p7,bs'.map V.ref,(cs'.map V.ref).reverse,rfl,rfl,dJ,pJ,by rw[aaq,aa0,aa0];omega,(eP1 _ _).mpr ⟨bs'++cs'.reverse,ns++[r.name],u.hs.zip (aq kinds r.shape)++st,m+1,_,_,_,_,_,_,rfl,(sF.trans (ao.of sFJ)).upd fdl _,⟨by rw[ah ndd.symm];exact sFJ _ _ DF.1,by rw[ah ndk.symm];exact sFJ _ _ DF.2⟩,by omega,by rw[ah ned];exact sFJ _ _ eF,by rw[ae,aa8,aes],fJ,?_,λx hx=>?_,by rw[aa2,acf];omega,by omega,λy hy=>?_,?_⟩,?_⟩
    ·rw[ade];exact ((KA.tk ((tkE.trans tkF).trans (TK.of sFJ))).app KJ).tk tkJ
    ·rcases List.mem_append.mp hx with hx | hx
     ·exact h6 _ (ac2 (show (x.1,x.2)∈_ from hx)).1
     ·exact k6 x (aab _ hx)
    ·rcases List.mem_append.mp hy with hy | hy
     ·exact nr6 y hy
     ·exact ⟨r,h2,(List.mem_singleton.mp hy).symm⟩
    ·exact sv ne6 hru
    ·rw[gg fJ,gg f6,aa0,aa0];omega
noncomputable abbrev jw:Stmt:=top 39
theorem Cb:ax ["book","words","kind","found"] ["book","words","kind"] (ag jw):=⟨rfl,rfl,rfl,by decide+kernel,rfl,by decide+kernel,by decide+kernel⟩
theorem Ia (G:Gs w K mg κ) (h_cheapest:jd P w K mg base k "cheapest" ["book","words","kind"] (pe κ)) (D:Def K mg "_law_told" jw ["book","words","kind"]):Has P w K mg base (k+1) "_law_told" ["book","words","kind"] o9:=by
 refine D.has Cb (λvs H Q E h=>?_) (λf cdv A outer s H vs Q E hr h=>?_)
 ·obtain ⟨_,_,_,_,_,_,_,rfl,_,_,_,_,_,_,_,_,_,_⟩:=h;rfl
 have nd:=Cb.nd;have hu:=cb hr;have hu0:=aag hu;obtain ⟨b,wt,kd,kinds,rs,ws,g,rfl,hB,hW,bk,tw,hkd,kz,rz,T,q0,q⟩:=h;have m_NoCover:=G.er.m_noCover;refine ⟨_,(A4 (A7 3 nd (@qu _ _ _)) (A4 (Gp (ac9 _ (ac9 _ (ac9 _ (aaj rfl (aaj rfl rfl))))) G.er.x_noCover m_NoCover (@Ga _ _ _ _ _ _ _ _ _ _ _ 3 _ _ nd rfl (aaz rfl) h_cheapest hr (A1 (A0 0) (A1 (A0 1) (A1 (A0 2) (A3 0)))) rfl (by decide+kernel) rfl rfl rfl (.inl rfl)) (λ_=>(A6 (A7 3 nd (@qu _ _ _))))) (A6 (AD (A0 3))))),?_⟩;rw[show start ["book","words","kind","found"] [.ref b,.ref wt,.str kd]=[some (.ref b),some (.ref wt),some (.str kd),none] from rfl];clear hu hu0 nd hr;push_cast [and_true];have er:=G.er;push_cast [Jd,Li];refine J1 hB hW bk tw hkd kz rz (λt H' g' v s' ht T' hv hT=>?_) λH2 g' s2 T' hg'=>?_
 ·obtain rfl:g=g':=T.eq T' (Bp bk);exact q v t H' hv s' hT
 ·obtain rfl:g=g':=T.eq T' (Bp bk);exact ⟨κ.noCover,rfl,cbm κ,er.x_noCover,by rw[isC,decide_eq_true (rfl:κ.noCover=κ.noCover),aee],q0 hg' H2 s2⟩
noncomputable abbrev j4:Stmt:=top 40
theorem Ce:ax ["book","words","kind","cover","found"] ["book","words","kind","cover"] (ag j4):=⟨rfl,rfl,rfl,by decide+kernel,rfl,by decide+kernel,by decide+kernel⟩
theorem Ir (G:Gs w K mg κ) (h_cover_price:jd P w K mg base k "cover_price" ["book","words","place","kind","cover"] (oq κ)) (D:Def K mg "_law_priced" j4 ["book","words","kind","cover"]):Has P w K mg base (k+1) "_law_priced" ["book","words","kind","cover"] o8:=by
 refine D.has Ce (λvs H Q E h=>?_) (λf cdv A outer s H vs Q E hr h=>?_)
 ·obtain ⟨_,_,_,_,_,_,_,_,rfl,_,_,_,_,_,_,_,_,_,_⟩:=h;rfl
 have nd:=Ce.nd;have hu:=cb hr;have hu0:=aag hu;obtain ⟨b,wt,ct,kd,kinds,rs,ws,ns,rfl,hB,hW,hC,bk,tw,hkd,kz,nz,nl,q⟩:=h;have m_BadCover:=G.er.m_badCover;refine ⟨_,(A4 (A7 4 nd (A2 0)) (A4 (Gp (ac9 _ (ac9 _ (ac9 _ (aaj rfl (aaj rfl rfl))))) G.er.x_badCover m_BadCover (@Ga _ _ _ _ _ _ _ _ _ _ _ 4 _ _ nd rfl (aaz rfl) h_cover_price hr (A1 (A0 0) (A1 (A0 1) (A1 (A2 0) (A1 (A0 2) (A1 (A0 3) (A3 0)))))) rfl (by decide+kernel) rfl rfl rfl (.inl rfl)) (λ_=>(A6 (A7 4 nd (A2 0))))) (A6 (AD (A0 4))))),?_⟩;rw[show start ["book","words","kind","cover","found"] [.ref b,.ref wt,.str kd,.ref ct]=[some (.ref b),some (.ref wt),some (.str kd),some (.ref ct),none] from rfl];clear hu hu0 nd hr;push_cast [and_true];have er:=G.er;push_cast [Jd,Li];refine M6 (p:=0) hB hW hC bk tw tw.pos hkd kz nz nl (λds hds H2 s2=>?_) λhno H2 s2=>?_
 ·have:=q H2 s2;rw[hds] at this;exact this
 ·have:=q H2 s2;rw[hno] at this;exact ⟨κ.badCover,rfl,cbm κ,er.x_badCover,by rw[isC,decide_eq_true (rfl:κ.badCover=κ.badCover),aee],this⟩
noncomputable abbrev n8:Stmt:=top 41
theorem Fs:ax ["book","words","kind","rule","least","ends","under","price","key"] ["book","words","kind","rule","least"] (ag n8):=⟨rfl,rfl,rfl,by decide+kernel,rfl,by decide+kernel,by decide+kernel⟩
theorem J9 (G:Gs w K mg κ) (h_law_ends:Has P w K mg base k "_law_ends" ["words"] (vy K)) (h_law_holes:Has P w K mg base k "_law_holes" ["kinds","shape"] (ku K)) (h_law_laid:Has P w K mg base k "_law_laid" ["kinds","shape","words","ends","place"] (qc K)) (D:Def K mg "_law_other" n8 ["book","words","kind","rule","least"]):Has P w K mg base (k+1) "_law_other" ["book","words","kind","rule","least"] uk:=by
 refine D.has Fs (λvs H Q E h=>?_) (λf cdv A outer s H vs Q E hr h=>?_)
 ·obtain ⟨_,_,_,_,_,_,_,_,_,_,_,rfl,_,_,_,_,_,_,_,_⟩:=h;rfl
 have nd:=Fs.nd;have hu:=cb hr;have hu0:=aag hu;obtain ⟨b,wt,ra,ld,kd,kinds,rs,ws,r,g,n,rfl,hB,hW,hR,hr0,bk,tw,hT,q⟩:=h;have m_zip:=G.m_zip;refine ⟨_,(A4 (A7 5 nd (AF h_law_ends hr (A1 (A0 1) (A3 0)))) (A4 (A7 6 nd (AF h_law_laid hr (A1 (A8 (AG 0) (A0 0) (A2 0)) (A1 (A8 (AG 0) (A0 3) (A2 0)) (A1 (A0 1) (A1 (A0 5) (A1 (A2 0) (A3 0)))))))) (A4 (AE (B6 (BV (BC (@Jx _ _ _ _ _ (A0 6)) (by first | exact cq _ (by decide) (by decide) | rfl)) (C7 (AB (@G3 _) (A8 (AG 0) (A0 3) (A2 0)) (A0 2) (A9 0))))) (A6 (AD (A2 0))) (AL 0)) (A4 (A7 7 nd (A8 (AG 0) (A0 3) (A2 0))) (A4 (AZ (@pi_zip _ true _ _ _ _ _ _ rfl m_zip (aaz (ac9 _ (ac9 _ rfl))) (A1 (A8 (AG 0) (A0 6) (A2 0)) (A1 (AF h_law_holes hr (A1 (A8 (AG 0) (A0 0) (A2 0)) (A1 (A8 (AG 0) (A0 3) (A2 0)) (A3 0)))) (A3 0))) rfl rfl) (AM 8 nd (by first | exact aaz rfl | exact ab4 rfl)) (A4 (AE (BC (CJ hu (A0 8) (A0 4)) (by first | exact cq _ (by decide) (by decide) | rfl)) (A6 (AD (A2 0))) (AL 0)) (A6 (A7 7 nd (A5 (AQ 0) (A0 7) (BN hu (A0 4) (A0 8))))))) (A6 (AD (A0 7)))))))),?_⟩;rw[show start ["book","words","kind","rule","least","ends","under","price","key"] [.ref b,.ref wt,.str kd,.ref ra,.ref ld]=[some (.ref b),some (.ref wt),some (.str kd),some (.ref ra),some (.ref ld),none,none,none,none] from rfl];clear hu hu0 nd hr;push_cast [and_true];have sz:=sizeLine_eq;obtain ⟨kt,rt,ra0,hb,hkt,hrt,hRA⟩:=id hB;obtain ⟨sa,da,ds,r1,r2,r3⟩:=id hR;obtain ⟨w1,w2,w3⟩:=bk.sh r hr0;refine Jy (SqT.of hW) (λv hv=>(tw.w v hv).1) tw.one tw.len λet H1 s1 het e1=>au (s1 _ _ hb) rfl (au (s1 _ _ r1) rfl (Gz (p:=0) (SqT.of (s1 _ _ r2)) (SqT.of (s1 _ _ hkt)) (SqT.of (s1 _ _ hW)) e1 bk.kd w1 w2 (by omega) tw tw.pos λH2 s2=>?_));have S2:=s1.trans s2;cases hu:bu kinds ws r.shape 0 ⟨[],[],[]⟩ with
 | none=>
  have oe:kg kinds ws g kd r=0:=by
   unfold kg;rw[hu];exact ite_self _
  have Q2:=q H2 S2;rw[oe] at Q2;refine ly ?_;push_cast [tIsN];exact Q2
 | some u=>
  intro t H3 s3 hu7 ok7;have S3:=S2.trans s3;push_cast [tIsN,iZip];refine au (S3 _ _ r1) rfl ⟨rfl,?_⟩;by_cases c:r.kind=kd
  ·have oe:kg kinds ws g kd r=(cost g r.price (gn kinds (r,u))).getD 0:=by
    unfold kg;rw[if_pos c,hu]
   rw[oe] at q;have hn:u.hs.length=(aq kinds r.shape).length:=by
    have:=(ju bk.kd _ _ _ _ w1 hu).1;simpa using this
   obtain ⟨t1,t2,t3,u1,u2,_⟩:=id hu7;refine ifN (by simp[c]) (au (S3 _ _ r1) rfl (au u1 rfl (au (S3 _ _ hb) rfl (au (S3 _ _ r1) rfl (Cn (SqT.of (S3 _ _ hkt)) (SqT.of (S3 _ _ r2)) w1 (by omega) λl H4 s4 hl4 h4=>?_)))));have S4:=S3.trans s4;have zl:(gn kinds (r,u)).length=u.hs.length:=by unfold gn;rw[acf,hn,Nat.min_self]
   refine ⟨t1,rfl,l,rfl,⟨u.hs.map plV,SqT.of (s4 _ _ u2)⟩,⟨_,SqL.of h4⟩,M4 (c:=true) (xs:=u.hs.map plV) (ys:=(aq kinds r.shape).map V.str) (λi σ H'=>∃(c:Int) (v8:Option V),σ=[some (.ref b),some (.ref wt),some (.str kd),some (.ref ra),some (.ref ld),some (.ref et),some (.ref t),some (.int c),v8]∧ak H4 H'∧cost g c ((gn kinds (r,u)).drop i)=cost g r.price (gn kinds (r,u))) ⟨r.price,none,rfl,ak.refl _,rfl⟩ (by rw[aa0,aa0,hn]) (λi σ H' _ h=>by obtain ⟨_,_,_,s,_⟩:=h;exact ⟨SqT.of ((s4.trans s) _ _ u2),SqL.of (s _ _ h4)⟩) ?_ ?_⟩
   ·rintro i x y σ H5 p hx hy ⟨c,v8,rfl,s5,hc⟩ hp;rw[aac] at hx hy;obtain ⟨q0,hq,rfl⟩:=Option.map_eq_some_iff.mp hx;obtain ⟨z,hz,rfl⟩:=Option.map_eq_some_iff.mp hy;have hk:(gn kinds (r,u))[i]?=some (q0,z):=List.getElem?_zip_eq_some.mpr ⟨hq,hz⟩;have hil:=(List.getElem?_eq_some_iff.mp hk).1;have ek:(gn kinds (r,u))[i]=(q0,z):=(List.getElem?_eq_some_iff.mp hk).2;rw[aat hil,ek] at hc;have s6:=s5.trans (aa hp (.tup [plV q0,V.str z]));have T6:=(hT.same S4).same s6;have e6:upd H5 p (.tup [plV q0,V.str z]) p=some (kyT (q0,z)):=ae;generalize upd H5 p (.tup [plV q0,V.str z])=H6 at s6 T6 e6 ⊢;push_cast [and_true];refine ⟨_,T6.get e6,?_⟩;have Q6:=q H6 (S4.trans s6);cases e:g (q0,z) with
    | none=>
     rw[gx e] at hc;rw[←hc] at Q6;rw[if_pos (by simp)];exact Q6
    | some v=>
     rw[fk e] at hc;rw[if_neg (by simp)];exact ⟨_,T6.val e6 e,s6,hc⟩
   ·rintro σ H5 ⟨c,v8,rfl,s5,hc⟩;rw[aa0,←zl,aby] at hc;have hc:some c=cost g r.price (gn kinds (r,u)):=hc;have Q6:=q H5 (S4.trans s5);rw[←hc] at Q6;push_cast [and_true];exact Q6
  ·have oe:kg kinds ws g kd r=0:=by
    unfold kg;rw[if_neg c]
   have Q3:=q H3 S3;rw[oe] at Q3;exact ifY (by simp[c]) Q3
noncomputable abbrev An:Stmt:=top 42
theorem scLaw:ax ["script","deck","cell","names","book","words","least","kind","covers","best","price","cover","rule"] ["script"] (ag An):=⟨rfl,rfl,rfl,by decide+kernel,rfl,by decide+kernel,by decide+kernel⟩
theorem hasLaw {f:Addr} {fd:FuncData} (G:Gs w K mg κ) (h_law_book:Has P w K mg base k "_law_book" ["deck","names"] Ah) (h_law_cover:Has P w K mg base k "_law_cover" ["deck","book","words","place","kind","most"] qg) (h_law_names:Has P w K mg base k "_law_names" ["deck"] ql) (h_law_next:Has P w K mg base k "_law_next" ["deck"] iw) (h_law_other:Has P w K mg base k "_law_other" ["book","words","kind","rule","least"] uk) (h_law_priced:Has P w K mg base k "_law_priced" ["book","words","kind","cover"] o8) (h_law_term:Has P w K mg base k "_law_term" ["deck","names","most"] uj) (h_law_told:Has P w K mg base k "_law_told" ["book","words","kind"] o9) (h_prices:Has P w K mg base k "prices" ["book","words"] ko) (F:Fun K "law" "law" An f fd):mi P w K mg base CX0 (k+1) f fd ["script"] (Fh K):=by
 refine F.ok scLaw (λvs H Q E h=>?_) (λcdv A outer s H vs Q E hr h=>?_)
 ·obtain ⟨_,_,rfl,_,_,_⟩:=h;rfl
 have nd:=scLaw.nd;have hu:=cb hr;have hu0:=aag hu;have hu8:=hu8_of hr;obtain ⟨a,ns,rfl,hA,hn,q⟩:=h;have m_dict:=G.m_dict;have m_isinstance:=G.m_isinstance;have m_range:=G.m_range;have m_tuple:=G.m_tuple;refine ⟨_,(A4 (BY 1 nd (AC (A1 (C9 (@t6 _) (A0 0) (@ll _) (CC (A2 0))) (A1 (A2 0) (A3 0))))) (A4 (A7 2 nd (AF h_law_next hr (A1 (AA 1) (A3 0)))) (A4 (A7 3 nd (AF h_law_names hr (A1 (AA 1) (A3 0)))) (A4 (BY 4 nd (AF h_law_book hr (A1 (AA 1) (A1 (A0 3) (A3 0))))) (A4 (BY 5 nd (AF h_law_term hr (A1 (AA 1) (A1 (A0 3) (A1 (A8 (AW 0) (AC (BE (BU (BU (BU (BF 0)))))) (A5 (AH 0) (A0 2) (A2 0))) (A3 0)))))) (A4 (A7 6 nd (AY (@ny _ hu8) m_dict b_dict (A1 (BT (BI ["row"] [] [] trivial trivial) (BD (AF h_prices hr (A1 (AA 4) (A1 (AA 5) (A3 0))))) (λ_ _ _=>(B0 0 (show aba (["row"]:List Str) by decide+kernel))) (λ_ _ _=>(@pif0 _)) (λ_ _ _=>(AK (A1 (C9 (@Fd _) (A0 0) (@ll _) (CC (A2 0))) (A1 (A8 (C8 K) (A0 0) (A2 0)) (A3 0)))))) (A3 0)))) (A4 (AZ (BL (A8 (AG 0) (AA 4) (A2 0))) (AM 7 nd (by first | exact aaz rfl | exact ab4 rfl)) (A4 (CI 8 nd (BI ["k"] ["deck","book","words","kind"] [1,4,5,7] (aaj rfl (aaj rfl (aaj rfl (aaj rfl trivial)))) (aaj (aaj rfl (aaj rfl rfl)) (aaj (aaj rfl (aaj rfl rfl)) (aaj (aaj rfl (aaj rfl rfl)) (aaj (aaj rfl (aaj rfl rfl)) trivial))))) (BX m_range (A1 (A2 0) (A3 0))) (λ_ _ _=>(B0 0 (show aba (["k","deck","book","words","kind"]:List Str) by decide+kernel))) (λ_ _ _=>(@pif0 _)) (λ_ _ _=>(AF h_law_cover hr (A1 (AA 1) (A1 (AA 2) (A1 (AA 3) (A1 (A2 0) (A1 (AA 4) (A1 (A2 0) (A3 0)))))))))) (A4 (CI 8 nd (BI ["cover"] [] [] trivial trivial) (BD (A0 8)) (λ_ _ _=>(B0 0 (show aba (["cover"]:List Str) by decide+kernel))) (λ_ _ _=>(BS (BC (CG (A0 0)) (by first | exact cq _ (by decide) (by decide) | rfl)))) (λ_ _ _=>(A0 0))) (A4 (A7 9 nd (AF h_law_told hr (A1 (AA 4) (A1 (AA 5) (A1 (AA 7) (A3 0)))))) (A6 (AE (BC (@Jx _ _ _ _ _ (A0 9)) (by first | exact cq _ (by decide) (by decide) | rfl)) (A6 (AE (B6 (BV (AB (@Bl _ hu0) (A0 8) (AC (A3 0)) (A9 0)) (C7 (BC (@L4 _ _ _ _ _ hu (AK (A1 (A2 0) (A1 (AA 7) (A3 0)))) (A0 6)) (by first | exact cq _ (by decide) (by decide) | rfl))))) (A6 (AD (BO 0))) (AL 0))) (A4 (A7 10 nd (AF h_law_priced hr (A1 (AA 4) (A1 (AA 5) (A1 (AA 7) (A1 (A0 9) (A3 0))))))) (A4 (AE (B6 (BV (AB (@j6 _) (A0 10) (A2 0) (A9 0)) (BV (AB (@G3 _) (AO PySem.F.plainAttrs_dict PySem.F.slot_dict_get PySem.F.type_dict_get (@K7 _ hu) (A0 6) (A1 (AK (A1 (A2 0) (A1 (AA 7) (A3 0)))) (A1 (A2 0) (A3 0)))) (A0 10) (A9 0)) (C7 (@Ea _ _ _ _ (C3 (AS (BZ 0) m_isinstance eh (A1 (A0 9) (A1 (C0 m_tuple de) (A3 0)))))))))) (A6 (AD (BO 0))) (AL 0)) (A4 (AZ (BD (A0 8)) (AM 11 nd (by first | exact aaz rfl | exact ab4 rfl)) (A6 (AE (AB (@j6 _) (AF h_law_priced hr (A1 (AA 4) (A1 (AA 5) (A1 (AA 7) (A1 (A0 11) (A3 0)))))) (A0 10) (A9 0)) (A6 (AD (BO 0))) (AL 0)))) (A6 (AZ (BL (A8 (AG 0) (AA 4) (A2 0))) (AM 12 nd (by first | exact aaz rfl | exact ab4 rfl)) (A6 (AE (@L3 _ _ _ _ _ _ _ _ _ _ _ _ (@j6 _) (@j6 _) (A2 0) (AF h_law_other hr (A1 (AA 4) (A1 (AA 5) (A1 (AA 7) (A1 (A0 12) (A1 (A0 6) (A3 0))))))) (A0 10) (by with_unfolding_all rfl)) (A6 (AD (BO 0))) (AL 0)))))))))))))) (A6 (AD (BO 0)))))))))),?_⟩;rw[show start ["script","deck","cell","names","book","words","least","kind","covers","best","price","cover","rule"] [.ref a]=[some (.ref a),none,none,none,none,none,none,none,none,none,none,none,none] from rfl];clear hu hu0 nd hr;push_cast [iw,qp];have sz:=sizeLine_eq;obtain ⟨ms,em,hms⟩:=J5 ns none (some 200);refine ⟨ns.map V.int,hA,λp hp=>?_⟩;rw[em];refine ⟨by show (2:Nat)≤sizeLine;decide,λd hd=>⟨p,ms,0,⟨ae,aa hd _ _ _ ae⟩,by decide,λc H1 s1 d1=>?_⟩⟩;have D1:dq H1 d p ms 1:=dq.next ⟨ae,aa hd _ _ _ ae⟩ s1 d1
 refine Jw D1 (by omega) λnl H2 zs s2 d2 N2 tx=>?_;have D2:dq H2 d p ms 2:=D1.next s2 d2
 refine mkBook D2 N2 (by omega) λbt n3 H3 kinds rs s3 d3 hn3 B3 bk hrs hrn hkz=>?_;have D3:=D2.next s3 d3
 have N3:=N2.lb D2 s3;refine ⟨by show (3:Nat)≤sizeLine;decide,λp4 hp4=>?_⟩;obtain ⟨m,hm1,hm2,hat⟩:∃m:Nat,1≤m∧m≤120∧atI [V.int 3,V.int 12,V.int 25] (c % 3)=some (.int (m:Int)):=by
  rcases (show c % 3=((0:Nat):Int)∨c % 3=((1:Nat):Int)∨c % 3=((2:Nat):Int) by omega) with e | e | e
  ·rw[e];exact ⟨3,by decide,by decide,bb rfl⟩
  ·rw[e];exact ⟨12,by decide,by decide,bb rfl⟩
  ·rw[e];exact ⟨25,by decide,by decide,bb rfl⟩
 have q4:=aa hp4 (.lst [V.int 3,V.int 12,V.int 25]);refine ay ae hat (Ow (D3.same q4) (N3.same q4) hm1 hm2 (by omega) λt n5 H5 ws s5 d5 hn5 ht h5 tw hwl=>?_);have B5:=(B3.same q4).keep (bx (D3.same q4) s5);have D5:=(D3.same q4).next s5 d5
 have N5:=(N3.same q4).lb (D3.same q4) s5;clear hd hp4 q4 s1 s2 s3 s5 D1 D2 D3 N2 N3 d1 d2 d3;have twl:=tw.len;have wp:=tw.pos;have kl:=bk.kl;have kz:∀z∈kinds,cx z:=λz hz=>tx z (hkz z hz);have rz:∀r∈rs,cx r.name:=λr hr=>tx _ (hrn r hr);refine Ck B5 h5 bk tw λl bs H6 g s6 hl6 h6 T R4=>⟨l,rfl,⟨_,SqL.of h6⟩,λD hD=>?_⟩;have rl:=nk (g:=g) bk tw;have hbl:=R4.1;refine Jj (xs:=bs.map V.ref) (λi ys H'=>∃cs:List Addr,ys=cs.map V.ref∧uu H' cs ((rowsOf kinds rs ws g).take i)) (λi ys H' H'' tk h=>by obtain ⟨cs,h1,h2⟩:=h;exact ⟨cs,h1,h2.tk tk⟩) (SqL.of h6) (by rw[aa0];omega) hD ⟨[],rfl,rfl,λj r h=>by simp at h⟩ (λi x ys H7 G' K' hx hP hl2 hS' hG hK'=>?_) λys H7 hP hl2 hS' hD2=>?_
 ·rw[aac] at hx;obtain ⟨ai,hai,rfl⟩:=Option.map_eq_some_iff.mp hx;have hil:i < (rowsOf kinds rs ws g).length:=by rw[←hbl];exact (List.getElem?_eq_some_iff.mp hai).1
  have hri:(rowsOf kinds rs ws g)[i]?=some (rowsOf kinds rs ws g)[i]:=aa1 hil;obtain ⟨a',nm,ha',hnm,g1⟩:=R4.2 i _ hri;obtain rfl:a'=ai:=aa4 (ha'.symm.trans hai);obtain ⟨cs,rfl,hc⟩:=hP;push_cast [and_true];refine ⟨a',_,rfl,hS' _ _ g1,λk H8 s8 h8=>au (s8 _ _ (hS' _ _ g1)) rfl ⟨by show (2:Nat)≤sizeLine;decide,λpr hpr=>?_⟩⟩;rw[cut2] at h8;refine hK' _ _ (s8.trans (aa hpr _)) ⟨cs++[pr],by rw[aa8];rfl,?_⟩;rw[ab6,hri];exact (hc.tk (TK.of (s8.trans (aa hpr _)))).snoc ae (aa hpr _ _ _ h8)
 obtain ⟨cs,rfl,hc⟩:=hP;rw[aa0,abj (by omega)] at hc;have S7:=s6.trans hS';have hcl:=hc.1;obtain ⟨tb1,tb2⟩:=P7 bk T;refine ⟨rfl,cs.map V.ref,hD2,(rowsOf kinds rs ws g).map gp,by rw[aa0,aa0,hcl],λi pr hi=>?_,λdd hdd=>?_⟩
 ·rw[aac] at hi;obtain ⟨r,hr,rfl⟩:=Option.map_eq_some_iff.mp hi;obtain ⟨c0,k0,e1,e2,e3⟩:=hc.2 i r hr;exact ⟨c0,by rw[aac,e1];rfl,k0,e2,e3⟩
 rw[tb1];have q8:=aa hdd (.dT ((rowsOf kinds rs ws g).map gp));have e8:upd H7 dd (.dT ((rowsOf kinds rs ws g).map gp)) dd=some (.dT ((rowsOf kinds rs ws g).map gp)):=ae;generalize upd H7 dd (.dT ((rowsOf kinds rs ws g).map gp))=H8 at q8 e8 ⊢;have S8:=S7.trans q8;have T8:cz H8 dd g 60000:=⟨_,e8,by rw[aa0];exact rl,tb2⟩;have B8:=B5.same S8;have w8:=S8 _ _ h5;have D8:=D5.same S8;clear hD2 q8 e8 hc R4 h6 hS' S7 s6 hD hdd S8 B5 h5 D5 N5;obtain ⟨kt,rt,ra,hb,hkt,hrt,hRA⟩:=id B8;refine au hb rfl ⟨kt,rfl,⟨_,SqT.of hkt⟩,?_⟩;obtain ⟨P1,eP1⟩:∃P1:Nat→L2.St→Hp→Prop,∀j σ H',P1 j σ H'↔∃(m':Nat) (v7 v8 v9 v10 v11 v12:Option V),σ=[some (.ref a),some (.ref d),some (.int c),some (.ref nl),some (.ref bt),some (.ref t),some (.ref dd),v7,v8,v9,v10,v11,v12]∧ao d H8 H'∧dq H' d p ms m'∧m'≤n5+700*j:=⟨_,λ_ _ _=>abh⟩;refine gd (xs:=kinds.map V.str) P1 ((eP1 _ _ _).mpr ⟨n5,none,none,none,none,none,none,rfl,ao.refl _ _,D8,by omega⟩) (λj σ H' _ h=>by obtain ⟨_,_,_,_,_,_,_,_,s,_⟩:=(eP1 _ _ _).mp h;exact SqT.of (bx D8 s hkt)) ?_ λσ H' _=>q H';intro j y σ H9 hy hh;obtain ⟨m',v7,v8,v9,v10,v11,v12,rfl,s9,D9,hm9⟩:=(eP1 _ _ _).mp hh;rw[aac] at hy;obtain ⟨kd,hkd,rfl⟩:=Option.map_eq_some_iff.mp hy;have hjl:j < kinds.length:=(List.getElem?_eq_some_iff.mp hkd).1;have tkd:=kz kd (aah hkd);push_cast [tIsN,iy];have ndd:dd≠d:=by
  obtain ⟨kvs,e,_⟩:=T8;exact gq e D8.1 (by intro z;cases z)
 have B9:=B8.keep (bx D8 s9);have w9:=bx D8 s9 w8;have T9:=T8.at λo e=>s9 _ _ ndd e;intro cl hcl;have ncd:cl≠d:=(af D9.1 hcl).symm;have ncp:cl≠p:=(af D9.2 hcl).symm;have up:∀{HA:Hp} (o:HO),ao d H9 HA→ao d H9 (upd HA cl o):=λo s=>s.upd hcl o;refine Ou (λi ys H'=>∃m2:Nat,ao d H9 H'∧dq H' d p ms m2∧m2≤m'+70*i∧∀v∈ys,CvV kinds rs ws kd H' v) (by show (10:Nat) < _;omega) ⟨m',up _ (ao.refl _ _),⟨by rw[ah ncd.symm];exact D9.1,by rw[ah ncp.symm];exact D9.2⟩,by omega,λ_ h=>(aa9 h).elim⟩ (λi ys HA G' K' hi hP hl hcA hG hK=>?_) λys HA hP hl hcA=>?_
 ·obtain ⟨m2,sA,DA,hm2,cvA⟩:=hP;have hi:i < 10:=hi;push_cast [and_true];have put:∀(y:V) (n':Nat) (HB:Hp),ao d HA HB→HB d=some (.lst [.ref p,.int (n':Int)])→n'≤m2+70→CvV kinds rs ws kd HB y→K' y HB:=λy n' HB sB dB hn' hy=>by
   have DB:=DA.next sB dB
   have tk:TK HB (upd HB cl (.lst (ys++[y]))):=TK.put (sB _ _ ncd hcA) (λ_ z=>nomatch z);refine hK y HB (sB _ _ ncd hcA) ⟨n',up _ (sA.trans sB),⟨by rw[ah ncd.symm];exact DB.1,by rw[ah ncp.symm];exact DB.2⟩,by omega,λv hv=>?_⟩;rcases List.mem_append.mp hv with hv | hv
   ·exact (cvA v hv).tk ((Ac DA sB).trans tk)
   ·rw[List.mem_singleton.mp hv];exact hy.tk tk
  exact Kk (p:=0) DA (by omega) (B9.keep (bx D9 sA)) (bx D9 sA w9) bk tw wp (λn' HB sB dB hn'=>put .non n' HB sB dB hn' (.inl rfl)) λn' ct ns' ds HB sB dB hn' hC hl2 hz hcv=>put (.ref ct) n' HB sB dB hn' (.inr ⟨ct,ns',ds,rfl,hC,hl2,hcv⟩)
 obtain ⟨m2,sA,DA,hm2,cvA⟩:=hP;have hm2:m2≤m'+700:=hm2;refine ⟨⟨_,SqL.of hcA⟩,λfl hfl=>Ai (xs:=ys) (λi zs=>∀v∈zs,v∈ys∧v≠.non) (SqL.of hcA) (by have:ys.length≤10:=hl;omega) hfl (λ_ h=>(aa9 h).elim) (λi x zs HB G' K' hx hP hl2 hS hG hK=>?_) λzs HB hP hl2 hS hfl2=>?_⟩
 ·push_cast [iy];refine b7 (λc1=>hK _ _ (ak.refl _) λv hv=>?_) λ_=>hG _ (ak.refl _) hP;rcases List.mem_append.mp hv with hv | hv
  ·exact hP v hv
  ·rw[List.mem_singleton.mp hv];exact ⟨aah hx,by simpa using c1⟩
 have sAB:ao d H9 HB:=sA.trans (ao.of hS);have DB:=DA.same hS;have BB:=B9.keep (bx D9 sAB);have wB:=bx D9 sAB w9;have TB:=T9.at λo e=>sAB _ _ ndd e;have cvB:∀v∈zs,∃(t:Addr) (ns:List Str) (ds:List (Rl×Und)),v=.ref t∧HB t=some (.tup (ns.map V.str))∧ns.length≤70∧bp kinds rs ws ns [(0,kd)]=some ds:=λv hv=>by
  obtain ⟨h1,h2⟩:=hP v hv;rcases (cvA v h1).tk (TK.of hS) with h3 | h3
  ·exact absurd h3 h2
  ·exact h3
 have fin:∀(w8 w9 w10 w11 w12:Option V) (HC:Hp),ak HB HC→P1 (j+1) [some (.ref a),some (.ref d),some (.int c),some (.ref nl),some (.ref bt),some (.ref t),some (.ref dd),some (.str kd),w8,w9,w10,w11,w12] HC:=λw8 w9 w10 w11 w12 HC s=>(eP1 _ _ _).mpr ⟨m2,_,_,_,_,_,_,rfl,s9.trans (sAB.trans (ao.of s)),DB.same s,by omega⟩;refine Lq BB wB bk tw tkd kz rz T (λhg HC sC=>ifY rfl ⟨aa6 _,λp3 hp3=>wq (aa hp3 _ _ _ (sC _ _ hfl2)) ae ?_⟩) λv t' HC hg sC hT=>ifN (by intro z;cases z) ?_
 ·have ze:zs=[]:=by
   cases zs with
   | nil=>rfl
   | cons v0 zs=>
    obtain ⟨_,_,_,_,_,_,hcv⟩:=cvB v0 aa7;obtain ⟨v,hv,_⟩:=uz bk tw T hcv;rw[hg] at hv;cases hv
  subst ze;refine iteF ⟨by show (2:Nat)≤sizeLine;decide,λp4 hp4=>?_⟩;have s4:=sC.trans ((aa hp3 (.lst [])).trans (aa hp4 (.tup [V.int 0,V.str kd])));have g4:=(TB.same s4).get (k:=(0,kd)) ae;rw[hg] at g4;exact ⟨_,g4,ifN (by simp) (fin _ _ _ _ _ _ s4)⟩
 obtain ⟨ds,hcv,hpr⟩:=Ic bk T hg;have vp:=T.pos _ _ hg;have cl':(cov kinds rs ws g [(0,kd)]).length≤61000:=aau (Fx bk tw T _ _ λk hk=>by rw[List.mem_singleton.mp hk];exact ⟨v,hg,vp⟩) (Ct bk tw g kd wp);have tns:∀{ns:List Str} {ds:List (Rl×Und)},bp kinds rs ws ns [(0,kd)]=some ds→∀z∈ns,cx z:=λh z hz=>by
  obtain ⟨r,hr,rfl⟩:=sg h z hz;exact rz r hr
 refine Cc (BB.same sC) (sC _ _ wB) hT bk tw tkd kz (tns hcv) (by omega) λHD sD=>?_;rw[hcv];have SD:=sC.trans sD;show if Gb (some ds) < 1 then _ else _
 rw[show Gb (some ds)=v from hpr];have TD:=TB.same SD;obtain ⟨kvs,e,_⟩:=id TD;refine ifN (by omega) ⟨Iv e,by show (2:Nat)≤sizeLine;decide,λp5 hp5=>?_⟩;have s5:=aa hp5 (.tup [V.int 0,V.str kd]);have k5:upd HD p5 (.tup [V.int 0,V.str kd]) p5=some (kyT (0,kd)):=ae;generalize upd HD p5 (.tup [V.int 0,V.str kd])=HE at s5 k5 ⊢;have SE:=SD.trans s5;refine ⟨dd,_,_,_,rfl,rfl,(TD.same s5).val k5 hg,rfl,ifN (by simp) ⟨_,.tup ((sD.trans s5) _ _ hT),true,rfl,ifN (by decide) ⟨⟨_,SqL.of (SE _ _ hfl2)⟩,?_⟩⟩⟩;obtain ⟨P2,eP2⟩:∃P2:Nat→L2.St→Hp→Prop,∀i σ H',P2 i σ H'↔∃(v11 v12:Option V),σ=[some (.ref a),some (.ref d),some (.int c),some (.ref nl),some (.ref bt),some (.ref t),some (.ref dd),some (.str kd),some (.ref fl),some (.ref t'),some (.int v),v11,v12]∧ak HB H':=⟨_,λ_ _ _=>abh⟩;refine gw (xs:=zs) P2 ((eP2 _ _ _).mpr ⟨_,_,rfl,SE⟩) (λi σ H' _ h=>by obtain ⟨_,_,_,s⟩:=(eP2 _ _ _).mp h;exact SqL.of (s _ _ hfl2)) ?_ ?_
 ·intro i x σ HF hx hh;obtain ⟨v11,v12,rfl,sF⟩:=(eP2 _ _ _).mp hh;obtain ⟨t2,ns2,ds2,rfl,h2,h3,h4⟩:=cvB x (aah hx);obtain ⟨v',hv',le⟩:=uz bk tw T h4;obtain rfl:v=v':=aa4 (hg.symm.trans hv');push_cast [and_true];refine Cc (BB.same sF) (sF _ _ wB) (sF _ _ h2) bk tw tkd kz (tns h4) (by omega) λHG sG=>?_;rw[h4];exact ifN (by show ¬cpr ds2 < v;omega) ((eP2 _ _ _).mpr ⟨_,_,rfl,sF.trans sG⟩)
 ·intro σ HF hh;obtain ⟨v11,v12,rfl,sF⟩:=(eP2 _ _ _).mp hh;push_cast [and_true];obtain ⟨kt',rt',ra',hb',hkt',hrt',hRA'⟩:=id (BB.same sF);have ral:=hRA'.1;refine au hb' rfl ⟨rt',rfl,⟨_,SqT.of hrt'⟩,gd (xs:=ra'.map V.ref) (λi σ H'=>∃v12:Option V,σ=[some (.ref a),some (.ref d),some (.int c),some (.ref nl),some (.ref bt),some (.ref t),some (.ref dd),some (.str kd),some (.ref fl),some (.ref t'),some (.int v),v11,v12]∧ak HF H') ⟨_,rfl,ak.refl _⟩ (λi σ H' _ h=>by obtain ⟨_,_,s⟩:=h;exact SqT.of (s _ _ hrt')) ?_ ?_⟩
  ·rintro i x σ HG hx ⟨v12,rfl,sG⟩;rw[aac] at hx;obtain ⟨ai,hai,rfl⟩:=Option.map_eq_some_iff.mp hx;have hil:i < rs.length:=by rw[←ral];exact (List.getElem?_eq_some_iff.mp hai).1
   have hri:rs[i]?=some rs[i]:=aa1 hil;obtain ⟨a',ha',hR⟩:=hRA'.2 i _ hri;obtain rfl:a'=ai:=aa4 (ha'.symm.trans hai);generalize rs[i]=r at hri hR;have sFG:=sF.trans sG;push_cast [Jg,xi];refine Od (BB.same sFG) (sFG _ _ wB) (hR.same sG) (aah hri) bk tw (TB.same sFG) λHI sI=>?_;rcases P8 T wp (aah hri) hg with h | h
   ·exact ifN (by omega) (sG.trans sI)
   ·exact b7 (λ_=>ifN (by omega) (sG.trans sI)) λ_=>sG.trans sI
  ·rintro σ HG ⟨v12,rfl,sG⟩;exact fin _ _ _ _ _ _ (sF.trans sG)
end
end K53
namespace K53
open PySem PySem.Spec L2 PyProof.Rows Pc
theorem all_mk {l:PySem.W.OpenLaw} {w:World} {K:PySem.W.Frag} {h:Heap} {mg:Str→Option Value} {fa:Addr} (X:K.In h) (G:h.Ns mainGlobals mg) (hfa:mg "law"=some (.ref fa))
  {f0 f1 f2 f3 f4 f5 f6 f7 f8 f9 f10 f11 f12 f13 f14 f15 f16 f17 f18 f19 f20 f21 f22 f23 f24 f25 f26 f27 f28 f29 f30 f31 f32 g0:Addr} {od0 an0 od1 an1 od2 an2 od3 an3 od4 an4 od5 an5 od6 an6 od7 an7 od8 an8 od9 an9 od10 an10 od11 an11 od12 an12 od13 an13 od14 an14 od15 an15 od16 an16 od17 an17 od18 an18 od19 an19 od20 an20 od21 an21 od22 an22 od23 an23 od24 an24 od25 an25 od26 an26 od27 an27 od28 an28 od29 an29 od30 an30 od31 an31 od32 an32:Option Addr} {sl0 sl1 sl2 sl3 sl4 sl5 sl6 sl7 sl8 sl9 sl10 sl11 sl12 sl13 sl14 sl15 sl16 sl17 sl18 sl19 sl20 sl21 sl22 sl23 sl24 sl25 sl26 sl27 sl28 sl29 sl30 sl31 sl32:Array (Option Value)} {oc0 kV0 dc0 pm0 cd0 ct0 oc1 kV1 dc1 pm1 cd1 ct1 oc2 kV2 dc2 pm2 cd2 ct2 oc3 kV3 dc3 pm3 cd3 ct3 oc4 kV4 dc4 pm4 cd4 ct4 oc5 kV5 dc5 pm5 cd5 ct5 oc6 kV6 dc6 pm6 cd6 ct6 oc7 kV7 dc7 pm7 cd7 ct7 oc8 kV8 dc8 pm8 cd8 ct8 oc9 kV9 dc9 pm9 cd9 ct9 oc10 kV10 dc10 pm10 cd10 ct10 oc11 kV11 dc11 pm11 cd11 ct11 oc12 kV12 dc12 pm12 cd12 ct12 oc13 kV13 dc13 pm13 cd13 ct13 oc14 kV14 dc14 pm14 cd14 ct14 oc15 kV15 dc15 pm15 cd15 ct15 oc16 kV16 dc16 pm16 cd16 ct16 oc17 kV17 dc17 pm17 cd17 ct17 oc18 kV18 dc18 pm18 cd18 ct18 oc19 kV19 dc19 pm19 cd19 ct19 oc20 kV20 dc20 pm20 cd20 ct20 oc21 kV21 dc21 pm21 cd21 ct21 oc22 kV22 dc22 pm22 cd22 ct22 oc23 kV23 dc23 pm23 cd23 ct23 oc24 kV24 dc24 pm24 cd24 ct24 oc25 kV25 dc25 pm25 cd25 ct25 oc26 kV26 dc26 pm26 cd26 ct26 oc27 kV27 dc27 pm27 cd27 ct27 oc28 kV28 dc28 pm28 cd28 ct28 oc29 kV29 dc29 pm29 cd29 ct29 oc30 kV30 dc30 pm30 cd30 ct30 oc31 kV31 dc31 pm31 cd31 ct31 oc32 kV32 dc32 pm32 cd32 ct32:Value} {dt0x0 dt0x1 dt0x2 dt0x3 du0x0 du0x1 du0x2 du0x3 dp0:Nat} {dh0x0 dh0x1 dh0x2 dh0x3:Int} {e0 e3 e4 eN0 eN3 eN4:Addr} {enm0 enm3 enm4 eqn0 eqn3 eqn4:Str} {ebs0 ebs3 ebs4 esu0 esu3 esu4:List Value} {esn0 esn3 esn4:List Str} {eab0 eab3 eab4:Bool} {eco0 eco3 eco4:Option Bool} {edd0 edd3 edd4:Option Addr} {eka0 eka3 eka4 ekb0 ekb3 ekb4 ekc0 ekc3 ekc4 ekd0 ekd3 ekd4 eke0 eke3 eke4:Option Value}
  (a0:PySem.W.nsIn K mainGlobals "how_many_below"=some (some (.ref f0)))
  (l0:K.lookup f0=some ⟨oc0,od0,.func (PySem.W.fnOf "how_many_below" "how_many_below" (az Ex) (av Ex) (ag Ex) .none kV0 dc0 pm0 an0 cd0 ct0),sl0⟩)
  (c0:PySem.W.codeIn K cd0 "how_many_below"=true)
  (k0:PySem.W.keepIn K (.ref f0)=true)
  (a1:PySem.W.nsIn K mainGlobals "place_behind"=some (some (.ref f1)))
  (l1:K.lookup f1=some ⟨oc1,od1,.func (PySem.W.fnOf "place_behind" "place_behind" (az j7) (av j7) (ag j7) .none kV1 dc1 pm1 an1 cd1 ct1),sl1⟩)
  (c1:PySem.W.codeIn K cd1 "place_behind"=true)
  (k1:PySem.W.keepIn K (.ref f1)=true)
  (a2:PySem.W.nsIn K mainGlobals "leaf_letter"=some (some (.ref f2)))
  (l2:K.lookup f2=some ⟨oc2,od2,.func (PySem.W.fnOf "leaf_letter" "leaf_letter" (az wc) (av wc) (ag wc) .none kV2 dc2 pm2 an2 cd2 ct2),sl2⟩)
  (c2:PySem.W.codeIn K cd2 "leaf_letter"=true)
  (k2:PySem.W.keepIn K (.ref f2)=true)
  (a3:PySem.W.nsIn K mainGlobals "lies_upon"=some (some (.ref f3)))
  (l3:K.lookup f3=some ⟨oc3,od3,.func (PySem.W.fnOf "lies_upon" "lies_upon" (az vi) (av vi) (ag vi) .none kV3 dc3 pm3 an3 cd3 ct3),sl3⟩)
  (c3:PySem.W.codeIn K cd3 "lies_upon"=true)
  (k3:PySem.W.keepIn K (.ref f3)=true)
  (a4:PySem.W.nsIn K mainGlobals "laid"=some (some (.ref f4)))
  (l4:K.lookup f4=some ⟨oc4,od4,.func (PySem.W.fnOf "laid" "laid" (az xc) (av xc) (ag xc) .none kV4 dc4 pm4 an4 cd4 ct4),sl4⟩)
  (c4:PySem.W.codeIn K cd4 "laid"=true)
  (k4:PySem.W.keepIn K (.ref f4)=true)
  (a5:PySem.W.nsIn K mainGlobals "holes_under"=some (some (.ref f5)))
  (l5:K.lookup f5=some ⟨oc5,od5,.func (PySem.W.fnOf "holes_under" "holes_under" (az jy) (av jy) (ag jy) .none kV5 dc5 pm5 an5 cd5 ct5),sl5⟩)
  (c5:PySem.W.codeIn K cd5 "holes_under"=true)
  (k5:PySem.W.keepIn K (.ref f5)=true)
  (a6:PySem.W.nsIn K mainGlobals "fitting_rules"=some (some (.ref f6)))
  (l6:K.lookup f6=some ⟨oc6,od6,.func (PySem.W.fnOf "fitting_rules" "fitting_rules" (az g8) (av g8) (ag g8) .none kV6 dc6 pm6 an6 cd6 ct6),sl6⟩)
  (c6:PySem.W.codeIn K cd6 "fitting_rules"=true)
  (k6:PySem.W.keepIn K (.ref f6)=true)
  (a7:PySem.W.nsIn K mainGlobals "price_there"=some (some (.ref f7)))
  (l7:K.lookup f7=some ⟨oc7,od7,.func (PySem.W.fnOf "price_there" "price_there" (az m5) (av m5) (ag m5) .none kV7 dc7 pm7 an7 cd7 ct7),sl7⟩)
  (c7:PySem.W.codeIn K cd7 "price_there"=true)
  (k7:PySem.W.keepIn K (.ref f7)=true)
  (a8:PySem.W.nsIn K mainGlobals "settle_part"=some (some (.ref f8)))
  (l8:K.lookup f8=some ⟨oc8,od8,.func (PySem.W.fnOf "settle_part" "settle_part" (az j3) (av j3) (ag j3) .none kV8 dc8 pm8 an8 cd8 ct8),sl8⟩)
  (c8:PySem.W.codeIn K cd8 "settle_part"=true)
  (k8:PySem.W.keepIn K (.ref f8)=true)
  (a9:PySem.W.nsIn K mainGlobals "rules_with_price"=some (some (.ref f9)))
  (l9:K.lookup f9=some ⟨oc9,od9,.func (PySem.W.fnOf "rules_with_price" "rules_with_price" (az vv) (av vv) (ag vv) .none kV9 dc9 pm9 an9 cd9 ct9),sl9⟩)
  (c9:PySem.W.codeIn K cd9 "rules_with_price"=true)
  (k9:PySem.W.keepIn K (.ref f9)=true)
  (a10:PySem.W.nsIn K mainGlobals "rows_of_part"=some (some (.ref f10)))
  (l10:K.lookup f10=some ⟨oc10,od10,.func (PySem.W.fnOf "rows_of_part" "rows_of_part" (az my) (av my) (ag my) .none kV10 dc10 pm10 an10 cd10 ct10),sl10⟩)
  (c10:PySem.W.codeIn K cd10 "rows_of_part"=true)
  (k10:PySem.W.keepIn K (.ref f10)=true)
  (a11:PySem.W.nsIn K mainGlobals "rows_with_all_rules"=some (some (.ref f11)))
  (l11:K.lookup f11=some ⟨oc11,od11,.func (PySem.W.fnOf "rows_with_all_rules" "rows_with_all_rules" (az nq) (av nq) (ag nq) .none kV11 dc11 pm11 an11 cd11 ct11),sl11⟩)
  (c11:PySem.W.codeIn K cd11 "rows_with_all_rules"=true)
  (k11:PySem.W.keepIn K (.ref f11)=true)
  (a12:PySem.W.nsIn K mainGlobals "prices"=some (some (.ref f12)))
  (l12:K.lookup f12=some ⟨oc12,od12,.func (PySem.W.fnOf "prices" "prices" (az jq) (av jq) (ag jq) .none kV12 dc12 pm12 an12 cd12 ct12),sl12⟩)
  (c12:PySem.W.codeIn K cd12 "prices"=true)
  (k12:PySem.W.keepIn K (.ref f12)=true)
  (a13:PySem.W.nsIn K mainGlobals "laid_rule"=some (some (.ref f13)))
  (l13:K.lookup f13=some ⟨oc13,od13,.func (PySem.W.fnOf "laid_rule" "laid_rule" (az og) (av og) (ag og) .none kV13 dc13 pm13 an13 cd13 ct13),sl13⟩)
  (c13:PySem.W.codeIn K cd13 "laid_rule"=true)
  (k13:PySem.W.keepIn K (.ref f13)=true)
  (a14:PySem.W.nsIn K mainGlobals "last_hole_first"=some (some (.ref f14)))
  (l14:K.lookup f14=some ⟨oc14,od14,.func (PySem.W.fnOf "last_hole_first" "last_hole_first" (az ux) (av ux) (ag ux) .none kV14 dc14 pm14 an14 cd14 ct14),sl14⟩)
  (c14:PySem.W.codeIn K cd14 "last_hole_first"=true)
  (k14:PySem.W.keepIn K (.ref f14)=true)
  (a15:PySem.W.nsIn K mainGlobals "laid_cover"=some (some (.ref f15)))
  (l15:K.lookup f15=some ⟨oc15,od15,.func (PySem.W.fnOf "laid_cover" "laid_cover" (az jx) (av jx) (ag jx) .none kV15 dc15 pm15 an15 cd15 ct15),sl15⟩)
  (c15:PySem.W.codeIn K cd15 "laid_cover"=true)
  (k15:PySem.W.keepIn K (.ref f15)=true)
  (a16:PySem.W.nsIn K mainGlobals "cover_price"=some (some (.ref f16)))
  (l16:K.lookup f16=some ⟨oc16,od16,.func (PySem.W.fnOf "cover_price" "cover_price" (az jm) (av jm) (ag jm) .none kV16 dc16 pm16 an16 cd16 ct16),sl16⟩)
  (c16:PySem.W.codeIn K cd16 "cover_price"=true)
  (k16:PySem.W.keepIn K (.ref f16)=true)
  (a17:PySem.W.nsIn K mainGlobals "rules_of_table"=some (some (.ref f17)))
  (l17:K.lookup f17=some ⟨oc17,od17,.func (PySem.W.fnOf "rules_of_table" "rules_of_table" (az mv) (av mv) (ag mv) .none kV17 dc17 pm17 an17 cd17 ct17),sl17⟩)
  (c17:PySem.W.codeIn K cd17 "rules_of_table"=true)
  (k17:PySem.W.keepIn K (.ref f17)=true)
  (a18:PySem.W.nsIn K mainGlobals "cheapest"=some (some (.ref f18)))
  (l18:K.lookup f18=some ⟨oc18,od18,.func (PySem.W.fnOf "cheapest" "cheapest" (az om) (av om) (ag om) .none kV18 dc18 pm18 an18 cd18 ct18),sl18⟩)
  (c18:PySem.W.codeIn K cd18 "cheapest"=true)
  (k18:PySem.W.keepIn K (.ref f18)=true)
  (a19:PySem.W.nsIn K mainGlobals "_law_next"=some (some (.ref f19)))
  (l19:K.lookup f19=some ⟨oc19,od19,.func (PySem.W.fnOf "_law_next" "_law_next" (az wa) (av wa) (ag wa) .none kV19 dc19 pm19 an19 cd19 ct19),sl19⟩)
  (c19:PySem.W.codeIn K cd19 "_law_next"=true)
  (k19:PySem.W.keepIn K (.ref f19)=true)
  (a20:PySem.W.nsIn K mainGlobals "_law_ends"=some (some (.ref f20)))
  (l20:K.lookup f20=some ⟨oc20,od20,.func (PySem.W.fnOf "_law_ends" "_law_ends" (az vw) (av vw) (ag vw) .none kV20 dc20 pm20 an20 cd20 ct20),sl20⟩)
  (c20:PySem.W.codeIn K cd20 "_law_ends"=true)
  (k20:PySem.W.keepIn K (.ref f20)=true)
  (a21:PySem.W.nsIn K mainGlobals "_law_laid"=some (some (.ref f21)))
  (l21:K.lookup f21=some ⟨oc21,od21,.func (PySem.W.fnOf "_law_laid" "_law_laid" (az oa) (av oa) (ag oa) .none kV21 dc21 pm21 an21 cd21 ct21),sl21⟩)
  (c21:PySem.W.codeIn K cd21 "_law_laid"=true)
  (k21:PySem.W.keepIn K (.ref f21)=true)
  (a22:PySem.W.nsIn K mainGlobals "_law_term"=some (some (.ref f22)))
  (l22:K.lookup f22=some ⟨oc22,od22,.func (PySem.W.fnOf "_law_term" "_law_term" (az wd) (av wd) (ag wd) .none kV22 dc22 pm22 an22 cd22 ct22),sl22⟩)
  (c22:PySem.W.codeIn K cd22 "_law_term"=true)
  (k22:PySem.W.keepIn K (.ref f22)=true)
  (a23:PySem.W.nsIn K mainGlobals "_law_shape"=some (some (.ref f23)))
  (l23:K.lookup f23=some ⟨oc23,od23,.func (PySem.W.fnOf "_law_shape" "_law_shape" (az n0) (av n0) (ag n0) .none kV23 dc23 pm23 an23 cd23 ct23),sl23⟩)
  (c23:PySem.W.codeIn K cd23 "_law_shape"=true)
  (k23:PySem.W.keepIn K (.ref f23)=true)
  (a24:PySem.W.nsIn K mainGlobals "_law_deeds"=some (some (.ref f24)))
  (l24:K.lookup f24=some ⟨oc24,od24,.func (PySem.W.fnOf "_law_deeds" "_law_deeds" (az ni) (av ni) (ag ni) .none kV24 dc24 pm24 an24 cd24 ct24),sl24⟩)
  (c24:PySem.W.codeIn K cd24 "_law_deeds"=true)
  (k24:PySem.W.keepIn K (.ref f24)=true)
  (a25:PySem.W.nsIn K mainGlobals "_law_book"=some (some (.ref f25)))
  (l25:K.lookup f25=some ⟨oc25,od25,.func (PySem.W.fnOf "_law_book" "_law_book" (az wo) (av wo) (ag wo) .none kV25 dc25 pm25 an25 cd25 ct25),sl25⟩)
  (c25:PySem.W.codeIn K cd25 "_law_book"=true)
  (k25:PySem.W.keepIn K (.ref f25)=true)
  (a26:PySem.W.nsIn K mainGlobals "_law_names"=some (some (.ref f26)))
  (l26:K.lookup f26=some ⟨oc26,od26,.func (PySem.W.fnOf "_law_names" "_law_names" (az nj) (av nj) (ag nj) .none kV26 dc26 pm26 an26 cd26 ct26),sl26⟩)
  (c26:PySem.W.codeIn K cd26 "_law_names"=true)
  (k26:PySem.W.keepIn K (.ref f26)=true)
  (a27:PySem.W.nsIn K mainGlobals "_law_holes"=some (some (.ref f27)))
  (l27:K.lookup f27=some ⟨oc27,od27,.func (PySem.W.fnOf "_law_holes" "_law_holes" (az jr) (av jr) (ag jr) .none kV27 dc27 pm27 an27 cd27 ct27),sl27⟩)
  (c27:PySem.W.codeIn K cd27 "_law_holes"=true)
  (k27:PySem.W.keepIn K (.ref f27)=true)
  (a28:PySem.W.nsIn K mainGlobals "_law_cover"=some (some (.ref f28)))
  (l28:K.lookup f28=some ⟨oc28,od28,.func (PySem.W.fnOf "_law_cover" "_law_cover" (az jo) (av jo) (ag jo) .none kV28 dc28 pm28 an28 cd28 ct28),sl28⟩)
  (c28:PySem.W.codeIn K cd28 "_law_cover"=true)
  (k28:PySem.W.keepIn K (.ref f28)=true)
  (a29:PySem.W.nsIn K mainGlobals "_law_told"=some (some (.ref f29)))
  (l29:K.lookup f29=some ⟨oc29,od29,.func (PySem.W.fnOf "_law_told" "_law_told" (az jw) (av jw) (ag jw) .none kV29 dc29 pm29 an29 cd29 ct29),sl29⟩)
  (c29:PySem.W.codeIn K cd29 "_law_told"=true)
  (k29:PySem.W.keepIn K (.ref f29)=true)
  (a30:PySem.W.nsIn K mainGlobals "_law_priced"=some (some (.ref f30)))
  (l30:K.lookup f30=some ⟨oc30,od30,.func (PySem.W.fnOf "_law_priced" "_law_priced" (az j4) (av j4) (ag j4) .none kV30 dc30 pm30 an30 cd30 ct30),sl30⟩)
  (c30:PySem.W.codeIn K cd30 "_law_priced"=true)
  (k30:PySem.W.keepIn K (.ref f30)=true)
  (a31:PySem.W.nsIn K mainGlobals "_law_other"=some (some (.ref f31)))
  (l31:K.lookup f31=some ⟨oc31,od31,.func (PySem.W.fnOf "_law_other" "_law_other" (az n8) (av n8) (ag n8) .none kV31 dc31 pm31 an31 cd31 ct31),sl31⟩)
  (c31:PySem.W.codeIn K cd31 "_law_other"=true)
  (k31:PySem.W.keepIn K (.ref f31)=true)
  (a32:PySem.W.nsIn K mainGlobals "law"=some (some (.ref f32)))
  (l32:K.lookup f32=some ⟨oc32,od32,.func (PySem.W.fnOf "law" "law" (az An) (av An) (ag An) .none kV32 dc32 pm32 an32 cd32 ct32),sl32⟩)
  (c32:PySem.W.codeIn K cd32 "law"=true)
  (k32:PySem.W.keepIn K (.ref f32)=true)
  (z0:PySem.W.nsIn K mainGlobals "dict"=some none)
  (z1:PySem.W.nsIn K mainGlobals "int"=some none)
  (z2:PySem.W.nsIn K mainGlobals "isinstance"=some none)
  (z3:PySem.W.nsIn K mainGlobals "len"=some none)
  (z4:PySem.W.nsIn K mainGlobals "list"=some none)
  (z5:PySem.W.nsIn K mainGlobals "range"=some none)
  (z6:PySem.W.nsIn K mainGlobals "reversed"=some none)
  (z7:PySem.W.nsIn K mainGlobals "sorted"=some none)
  (z8:PySem.W.nsIn K mainGlobals "str"=some none)
  (z9:PySem.W.nsIn K mainGlobals "sum"=some none)
  (z10:PySem.W.nsIn K mainGlobals "tuple"=some none)
  (z11:PySem.W.nsIn K mainGlobals "zip"=some none)
  (y0:PySem.W.nsIn K mainGlobals "PARTS_BELOW"=some (some (.ref g0)))
  (x0:K.lookup g0=some ⟨.type "dict",none,.dict #[⟨dh0x0,.str "add" dt0x0,.int 2 du0x0⟩,⟨dh0x1,.str "sub" dt0x1,.int 2 du0x1⟩,⟨dh0x2,.str "mul" dt0x2,.int 2 du0x2⟩,⟨dh0x3,.str "neg" dt0x3,.int 1 du0x3⟩] dp0,#[]⟩)
  (hh0x0:dh0x0=hashStr w "add")
  (hh0x1:dh0x1=hashStr w "sub")
  (hh0x2:dh0x2=hashStr w "mul")
  (hh0x3:dh0x3=hashStr w "neg")
  (ha0:(g0==sysModules)=false)
  (cn0:PySem.W.nsIn K mainGlobals "CoverError"=some (some (.ref e0)))
  (cl0:K.lookup e0=some (excClassObj enm0 eqn0 e0 eN0 ebs0 vbm true esn0 esu0 eab0 eco0 edd0 eka0 ekb0 ekc0 ekd0 eke0 "ValueError.__new__"))
  (ck0:PySem.W.keepIn K (.ref e0)=true)
  (cs0:PySem.W.findIn K (.ref e0) "__setattr__"=some (some (.builtin "object.__setattr__")))
  (cg0:PySem.W.findIn K (.ref e0) "__getattribute__"=some (some (.builtin "BaseException.__getattribute__")))
  (ch0:PySem.W.findIn K (.ref e0) "__getattr__"=some (none))
  (cc0:PySem.W.findIn K (.ref e0) "__class__"=some (some (.builtin "object.__class__")))
  (cn3:PySem.W.nsIn K mainGlobals "BadCover"=some (some (.ref e3)))
  (cl3:K.lookup e3=some (excClassObj enm3 eqn3 e3 eN3 ebs3 (.ref e0::vbm) true esn3 esu3 eab3 eco3 edd3 eka3 ekb3 ekc3 ekd3 eke3 "ValueError.__new__"))
  (ck3:PySem.W.keepIn K (.ref e3)=true)
  (cs3:PySem.W.findIn K (.ref e3) "__setattr__"=some (some (.builtin "object.__setattr__")))
  (cg3:PySem.W.findIn K (.ref e3) "__getattribute__"=some (some (.builtin "BaseException.__getattribute__")))
  (ch3:PySem.W.findIn K (.ref e3) "__getattr__"=some (none))
  (cc3:PySem.W.findIn K (.ref e3) "__class__"=some (some (.builtin "object.__class__")))
  (cn4:PySem.W.nsIn K mainGlobals "NoCover"=some (some (.ref e4)))
  (cl4:K.lookup e4=some (excClassObj enm4 eqn4 e4 eN4 ebs4 (.ref e0::vbm) true esn4 esu4 eab4 eco4 edd4 eka4 ekb4 ekc4 ekd4 eke4 "ValueError.__new__"))
  (ck4:PySem.W.keepIn K (.ref e4)=true)
  (cs4:PySem.W.findIn K (.ref e4) "__setattr__"=some (some (.builtin "object.__setattr__")))
  (cg4:PySem.W.findIn K (.ref e4) "__getattribute__"=some (some (.builtin "BaseException.__getattribute__")))
  (ch4:PySem.W.findIn K (.ref e4) "__getattr__"=some (none))
  (cc4:PySem.W.findIn K (.ref e4) "__class__"=some (some (.builtin "object.__class__")))
  (ip3:PySem.W.findIn K (.ref e3) "__init__"=some (some (.builtin "ValueError.__init__")))
  (ip4:PySem.W.findIn K (.ref e4) "__init__"=some (some (.builtin "ValueError.__init__"))):
  ∃fd:FuncData,(∀(s:Shared) (v:Value),BindsTo s fd ⟨[v],[]⟩ [("script",v)])∧∀base:Heap,K.In base→base.Ns mainGlobals mg→mi l.prog w K mg base CX0 10 fa fd ["script"] (Fh K):=by
 have e:=hfa.symm.trans (PySem.W.mg_of X G a32);cases e
 have G0:Gs w K mg ⟨e0,e0,e0,e3,e4,e0,e0,e0,e0,e0,e0,e0⟩:=⟨⟨PySem.W.mg_of X G cn0,PySem.W.mg_of X G cn3,PySem.W.mg_of X G cn4,Xc.mk' cl0 ck0 cs0 cg0 ch0 cc0 (.inl rfl),Xc.mk' cl3 ck3 cs3 cg3 ch3 cc3 (.inr ⟨_,rfl⟩),Xc.mk' cl4 ck4 cs4 cg4 ch4 cc4 (.inr ⟨_,rfl⟩)⟩,ip3,ip4,PySem.W.mg_none_of X G z0,PySem.W.mg_none_of X G z1,PySem.W.mg_none_of X G z2,PySem.W.mg_none_of X G z3,PySem.W.mg_none_of X G z4,PySem.W.mg_none_of X G z5,PySem.W.mg_none_of X G z6,PySem.W.mg_none_of X G z7,PySem.W.mg_none_of X G z8,PySem.W.mg_none_of X G z9,PySem.W.mg_none_of X G z10,PySem.W.mg_none_of X G z11,⟨g0,PySem.W.mg_of X G y0,Qd [(dh0x0,"add",dt0x0,2,du0x0),(dh0x1,"sub",dt0x1,2,du0x1),(dh0x2,"mul",dt0x2,2,du0x2),(dh0x3,"neg",dt0x3,1,du0x3)] x0 ha0 (by intro e he;simp only[aan,aa9,or_false] at he;rcases he with rfl | rfl | rfl | rfl <;> assumption) (by show aba ([Sum.inr "add",Sum.inr "sub",Sum.inr "mul",Sum.inr "neg"]:List Key);decide+kernel)⟩⟩;have F0:=bo (st:=Ex) l0 c0 k0;have D0:Def K mg "how_many_below" Ex ["word"]:=⟨f0,_,F0,F0.binds (ps:=["word"]) (λ_ _ _ _ _ _ us hl=>by refine us1 (P:=λus=>bindArgs _ ⟨us,[]⟩=pure (ab2 _ us)) hl ?_;intros;rfl),PySem.W.mg_of X G a0⟩;have F1:=bo (st:=j7) l1 c1 k1;have D1:Def K mg "place_behind" j7 ["words","place"]:=⟨f1,_,F1,F1.binds (ps:=["words","place"]) (λ_ _ _ _ _ _ us hl=>by refine us2 (P:=λus=>bindArgs _ ⟨us,[]⟩=pure (ab2 _ us)) hl ?_;intros;rfl),PySem.W.mg_of X G a1⟩;have F2:=bo (st:=wc) l2 c2 k2;have D2:Def K mg "leaf_letter" wc ["word","kinds"]:=⟨f2,_,F2,F2.binds (ps:=["word","kinds"]) (λ_ _ _ _ _ _ us hl=>by refine us2 (P:=λus=>bindArgs _ ⟨us,[]⟩=pure (ab2 _ us)) hl ?_;intros;rfl),PySem.W.mg_of X G a2⟩;have F3:=bo (st:=vi) l3 c3 k3;have D3:Def K mg "lies_upon" vi ["letter","shape_word","word"]:=⟨f3,_,F3,F3.binds (ps:=["letter","shape_word","word"]) (λ_ _ _ _ _ _ us hl=>by refine us3 (P:=λus=>bindArgs _ ⟨us,[]⟩=pure (ab2 _ us)) hl ?_;intros;rfl),PySem.W.mg_of X G a3⟩;have F4:=bo (st:=xc) l4 c4 k4;have D4:Def K mg "laid" xc ["shape","kinds","words","place"]:=⟨f4,_,F4,F4.binds (ps:=["shape","kinds","words","place"]) (λ_ _ _ _ _ _ us hl=>by refine us4 (P:=λus=>bindArgs _ ⟨us,[]⟩=pure (ab2 _ us)) hl ?_;intros;rfl),PySem.W.mg_of X G a4⟩;have F5:=bo (st:=jy) l5 c5 k5;have D5:Def K mg "holes_under" jy ["shape","kinds","under"]:=⟨f5,_,F5,F5.binds (ps:=["shape","kinds","under"]) (λ_ _ _ _ _ _ us hl=>by refine us3 (P:=λus=>bindArgs _ ⟨us,[]⟩=pure (ab2 _ us)) hl ?_;intros;rfl),PySem.W.mg_of X G a5⟩;have F6:=bo (st:=g8) l6 c6 k6;have D6:Def K mg "fitting_rules" g8 ["book","words","place"]:=⟨f6,_,F6,F6.binds (ps:=["book","words","place"]) (λ_ _ _ _ _ _ us hl=>by refine us3 (P:=λus=>bindArgs _ ⟨us,[]⟩=pure (ab2 _ us)) hl ?_;intros;rfl),PySem.W.mg_of X G a6⟩;have F7:=bo (st:=m5) l7 c7 k7;have D7:Def K mg "price_there" m5 ["own","holes","least"]:=⟨f7,_,F7,F7.binds (ps:=["own","holes","least"]) (λ_ _ _ _ _ _ us hl=>by refine us3 (P:=λus=>bindArgs _ ⟨us,[]⟩=pure (ab2 _ us)) hl ?_;intros;rfl),PySem.W.mg_of X G a7⟩;have F8:=bo (st:=j3) l8 c8 k8;have D8:Def K mg "settle_part" j3 ["place","fitting","least"]:=⟨f8,_,F8,F8.binds (ps:=["place","fitting","least"]) (λ_ _ _ _ _ _ us hl=>by refine us3 (P:=λus=>bindArgs _ ⟨us,[]⟩=pure (ab2 _ us)) hl ?_;intros;rfl),PySem.W.mg_of X G a8⟩;have F9:=bo (st:=vv) l9 c9 k9;have D9:Def K mg "rules_with_price" vv ["kind","price","fitting","least"]:=⟨f9,_,F9,F9.binds (ps:=["kind","price","fitting","least"]) (λ_ _ _ _ _ _ us hl=>by refine us4 (P:=λus=>bindArgs _ ⟨us,[]⟩=pure (ab2 _ us)) hl ?_;intros;rfl),PySem.W.mg_of X G a9⟩;have F10:=bo (st:=my) l10 c10 k10;have D10:Def K mg "rows_of_part" my ["book","place","fitting","least"]:=⟨f10,_,F10,F10.binds (ps:=["book","place","fitting","least"]) (λ_ _ _ _ _ _ us hl=>by refine us4 (P:=λus=>bindArgs _ ⟨us,[]⟩=pure (ab2 _ us)) hl ?_;intros;rfl),PySem.W.mg_of X G a10⟩;have F11:=bo (st:=nq) l11 c11 k11;have D11:Def K mg "rows_with_all_rules" nq ["book","words"]:=⟨f11,_,F11,F11.binds (ps:=["book","words"]) (λ_ _ _ _ _ _ us hl=>by refine us2 (P:=λus=>bindArgs _ ⟨us,[]⟩=pure (ab2 _ us)) hl ?_;intros;rfl),PySem.W.mg_of X G a11⟩;have F12:=bo (st:=jq) l12 c12 k12;have D12:Def K mg "prices" jq ["book","words"]:=⟨f12,_,F12,F12.binds (ps:=["book","words"]) (λ_ _ _ _ _ _ us hl=>by refine us2 (P:=λus=>bindArgs _ ⟨us,[]⟩=pure (ab2 _ us)) hl ?_;intros;rfl),PySem.W.mg_of X G a12⟩;have F13:=bo (st:=og) l13 c13 k13;have D13:Def K mg "laid_rule" og ["book","name","words","place","kind"]:=⟨f13,_,F13,F13.binds (ps:=["book","name","words","place","kind"]) (λ_ _ _ _ _ _ us hl=>by refine us5 (P:=λus=>bindArgs _ ⟨us,[]⟩=pure (ab2 _ us)) hl ?_;intros;rfl),PySem.W.mg_of X G a13⟩;have F14:=bo (st:=ux) l14 c14 k14;have D14:Def K mg "last_hole_first" ux ["book","step"]:=⟨f14,_,F14,F14.binds (ps:=["book","step"]) (λ_ _ _ _ _ _ us hl=>by refine us2 (P:=λus=>bindArgs _ ⟨us,[]⟩=pure (ab2 _ us)) hl ?_;intros;rfl),PySem.W.mg_of X G a14⟩;have F15:=bo (st:=jx) l15 c15 k15;have D15:Def K mg "laid_cover" jx ["book","words","place","kind","cover"]:=⟨f15,_,F15,F15.binds (ps:=["book","words","place","kind","cover"]) (λ_ _ _ _ _ _ us hl=>by refine us5 (P:=λus=>bindArgs _ ⟨us,[]⟩=pure (ab2 _ us)) hl ?_;intros;rfl),PySem.W.mg_of X G a15⟩;have F16:=bo (st:=jm) l16 c16 k16;have D16:Def K mg "cover_price" jm ["book","words","place","kind","cover"]:=⟨f16,_,F16,F16.binds (ps:=["book","words","place","kind","cover"]) (λ_ _ _ _ _ _ us hl=>by refine us5 (P:=λus=>bindArgs _ ⟨us,[]⟩=pure (ab2 _ us)) hl ?_;intros;rfl),PySem.W.mg_of X G a16⟩;have F17:=bo (st:=mv) l17 c17 k17;have D17:Def K mg "rules_of_table" mv ["book","words"]:=⟨f17,_,F17,F17.binds (ps:=["book","words"]) (λ_ _ _ _ _ _ us hl=>by refine us2 (P:=λus=>bindArgs _ ⟨us,[]⟩=pure (ab2 _ us)) hl ?_;intros;rfl),PySem.W.mg_of X G a17⟩;have F18:=bo (st:=om) l18 c18 k18;have D18:Def K mg "cheapest" om ["book","words","kind"]:=⟨f18,_,F18,F18.binds (ps:=["book","words","kind"]) (λ_ _ _ _ _ _ us hl=>by refine us3 (P:=λus=>bindArgs _ ⟨us,[]⟩=pure (ab2 _ us)) hl ?_;intros;rfl),PySem.W.mg_of X G a18⟩;have F19:=bo (st:=wa) l19 c19 k19;have D19:Def K mg "_law_next" wa ["deck"]:=⟨f19,_,F19,F19.binds (ps:=["deck"]) (λ_ _ _ _ _ _ us hl=>by refine us1 (P:=λus=>bindArgs _ ⟨us,[]⟩=pure (ab2 _ us)) hl ?_;intros;rfl),PySem.W.mg_of X G a19⟩;have F20:=bo (st:=vw) l20 c20 k20;have D20:Def K mg "_law_ends" vw ["words"]:=⟨f20,_,F20,F20.binds (ps:=["words"]) (λ_ _ _ _ _ _ us hl=>by refine us1 (P:=λus=>bindArgs _ ⟨us,[]⟩=pure (ab2 _ us)) hl ?_;intros;rfl),PySem.W.mg_of X G a20⟩;have F21:=bo (st:=oa) l21 c21 k21;have D21:Def K mg "_law_laid" oa ["kinds","shape","words","ends","place"]:=⟨f21,_,F21,F21.binds (ps:=["kinds","shape","words","ends","place"]) (λ_ _ _ _ _ _ us hl=>by refine us5 (P:=λus=>bindArgs _ ⟨us,[]⟩=pure (ab2 _ us)) hl ?_;intros;rfl),PySem.W.mg_of X G a21⟩;have F22:=bo (st:=wd) l22 c22 k22;have D22:Def K mg "_law_term" wd ["deck","names","most"]:=⟨f22,_,F22,F22.binds (ps:=["deck","names","most"]) (λ_ _ _ _ _ _ us hl=>by refine us3 (P:=λus=>bindArgs _ ⟨us,[]⟩=pure (ab2 _ us)) hl ?_;intros;rfl),PySem.W.mg_of X G a22⟩;have F23:=bo (st:=n0) l23 c23 k23;have D23:Def K mg "_law_shape" n0 ["deck","kinds"]:=⟨f23,_,F23,F23.binds (ps:=["deck","kinds"]) (λ_ _ _ _ _ _ us hl=>by refine us2 (P:=λus=>bindArgs _ ⟨us,[]⟩=pure (ab2 _ us)) hl ?_;intros;rfl),PySem.W.mg_of X G a23⟩;have F24:=bo (st:=ni) l24 c24 k24;have D24:Def K mg "_law_deeds" ni ["kinds","shape"]:=⟨f24,_,F24,F24.binds (ps:=["kinds","shape"]) (λ_ _ _ _ _ _ us hl=>by refine us2 (P:=λus=>bindArgs _ ⟨us,[]⟩=pure (ab2 _ us)) hl ?_;intros;rfl),PySem.W.mg_of X G a24⟩;have F25:=bo (st:=wo) l25 c25 k25;have D25:Def K mg "_law_book" wo ["deck","names"]:=⟨f25,_,F25,F25.binds (ps:=["deck","names"]) (λ_ _ _ _ _ _ us hl=>by refine us2 (P:=λus=>bindArgs _ ⟨us,[]⟩=pure (ab2 _ us)) hl ?_;intros;rfl),PySem.W.mg_of X G a25⟩;have F26:=bo (st:=nj) l26 c26 k26;have D26:Def K mg "_law_names" nj ["deck"]:=⟨f26,_,F26,F26.binds (ps:=["deck"]) (λ_ _ _ _ _ _ us hl=>by refine us1 (P:=λus=>bindArgs _ ⟨us,[]⟩=pure (ab2 _ us)) hl ?_;intros;rfl),PySem.W.mg_of X G a26⟩;have F27:=bo (st:=jr) l27 c27 k27;have D27:Def K mg "_law_holes" jr ["kinds","shape"]:=⟨f27,_,F27,F27.binds (ps:=["kinds","shape"]) (λ_ _ _ _ _ _ us hl=>by refine us2 (P:=λus=>bindArgs _ ⟨us,[]⟩=pure (ab2 _ us)) hl ?_;intros;rfl),PySem.W.mg_of X G a27⟩;have F28:=bo (st:=jo) l28 c28 k28;have D28:Def K mg "_law_cover" jo ["deck","book","words","place","kind","most"]:=⟨f28,_,F28,F28.binds (ps:=["deck","book","words","place","kind","most"]) (λ_ _ _ _ _ _ us hl=>by refine us6 (P:=λus=>bindArgs _ ⟨us,[]⟩=pure (ab2 _ us)) hl ?_;intros;rfl),PySem.W.mg_of X G a28⟩;have F29:=bo (st:=jw) l29 c29 k29;have D29:Def K mg "_law_told" jw ["book","words","kind"]:=⟨f29,_,F29,F29.binds (ps:=["book","words","kind"]) (λ_ _ _ _ _ _ us hl=>by refine us3 (P:=λus=>bindArgs _ ⟨us,[]⟩=pure (ab2 _ us)) hl ?_;intros;rfl),PySem.W.mg_of X G a29⟩;have F30:=bo (st:=j4) l30 c30 k30;have D30:Def K mg "_law_priced" j4 ["book","words","kind","cover"]:=⟨f30,_,F30,F30.binds (ps:=["book","words","kind","cover"]) (λ_ _ _ _ _ _ us hl=>by refine us4 (P:=λus=>bindArgs _ ⟨us,[]⟩=pure (ab2 _ us)) hl ?_;intros;rfl),PySem.W.mg_of X G a30⟩;have F31:=bo (st:=n8) l31 c31 k31;have D31:Def K mg "_law_other" n8 ["book","words","kind","rule","least"]:=⟨f31,_,F31,F31.binds (ps:=["book","words","kind","rule","least"]) (λ_ _ _ _ _ _ us hl=>by refine us5 (P:=λus=>bindArgs _ ⟨us,[]⟩=pure (ab2 _ us)) hl ?_;intros;rfl),PySem.W.mg_of X G a31⟩;have F32:=bo (st:=An) l32 c32 k32;refine ⟨PySem.W.fnOf "law" "law" (az An) (av An) (ag An) .none kV32 dc32 pm32 an32 cd32 ct32,λs v=>.of_eq rfl,λbase _ _=>?_⟩;have H0:Has l.prog w K mg base 1 "how_many_below" ["word"] vt:=hasHow (k:=0) G0   D0;have H1:Has l.prog w K mg base 2 "place_behind" ["words","place"] (va K):=G7 (k:=1) G0 (H0.up (by decide))  D1;have H2:Has l.prog w K mg base 1 "leaf_letter" ["word","kinds"] (jv K):=Nx (k:=0) G0   D2;have H3:Has l.prog w K mg base 2 "lies_upon" ["letter","shape_word","word"] Ar:=Nd (k:=1) G0 (H0.up (by decide))  D3;have H4:Has l.prog w K mg base 3 "laid" ["shape","kinds","words","place"] (xh K):=Nw (k:=2) G0 (H2.up (by decide)) (H3.up (by decide)) (H1.up (by decide))  D4;have H5:Has l.prog w K mg base 2 "holes_under" ["shape","kinds","under"] (km K):=Hv (k:=1) G0 (H2.up (by decide))  D5;have H6:Has l.prog w K mg base 4 "fitting_rules" ["book","words","place"] mf:=Dv (k:=3) G0 (H5.up (by decide)) (H4.up (by decide))  D6;have H7:Has l.prog w K mg base 1 "price_there" ["own","holes","least"] ji:=Jr (k:=0) G0   D7;have H8:Has l.prog w K mg base 2 "settle_part" ["place","fitting","least"] oz:=Hd (k:=1) G0 (H7.up (by decide))  D8;have H9:Has l.prog w K mg base 2 "rules_with_price" ["kind","price","fitting","least"] zv:=hasWith (k:=1) G0 (H7.up (by decide))  D9;have H10:Has l.prog w K mg base 3 "rows_of_part" ["book","place","fitting","least"] t5:=Mz (k:=2) G0 (H9.up (by decide))  D10;have H11:Has l.prog w K mg base 5 "rows_with_all_rules" ["book","words"] zh:=Jt (k:=4) G0 (H6.up (by decide)) (H10.up (by decide)) (H8.up (by decide))  D11;have H12:Has l.prog w K mg base 6 "prices" ["book","words"] ko:=Il (k:=5) G0 (H11.up (by decide))  D12;have H13:jd l.prog w K mg base 4 "laid_rule" ["book","name","words","place","kind"] (ke (Cl.mk e0 e0 e0 e3 e4 e0 e0 e0 e0 e0 e0 e0)):=Ld (k:=3) G0 (H4.up (by decide))  D13;have H14:Has l.prog w K mg base 3 "last_hole_first" ["book","step"] xb:=Qm (k:=2) G0 (H5.up (by decide))  D14;have H15:jd l.prog w K mg base 5 "laid_cover" ["book","words","place","kind","cover"] (qj (Cl.mk e0 e0 e0 e3 e4 e0 e0 e0 e0 e0 e0 e0)):=G5 (k:=4) G0 (H13.up (by decide)) (H14.up (by decide))  D15;have H16:jd l.prog w K mg base 6 "cover_price" ["book","words","place","kind","cover"] (oq (Cl.mk e0 e0 e0 e3 e4 e0 e0 e0 e0 e0 e0 e0)):=Ig (k:=5) G0 (H15.up (by decide))  D16;have H17:Has l.prog w K mg base 7 "rules_of_table" ["book","words"] ug:=Jn (k:=6) G0 (H12.up (by decide))  D17;have H18:jd l.prog w K mg base 8 "cheapest" ["book","words","kind"] (pe (Cl.mk e0 e0 e0 e3 e4 e0 e0 e0 e0 e0 e0 e0)):=J3 (k:=7) G0 (H13.up (by decide)) (H14.up (by decide)) (H17.up (by decide))  D18;have H19:Has l.prog w K mg base 1 "_law_next" ["deck"] iw:=hasNext (k:=0) G0   D19;have H20:Has l.prog w K mg base 1 "_law_ends" ["words"] (vy K):=Oa (k:=0) G0   D20;have H21:Has l.prog w K mg base 1 "_law_laid" ["kinds","shape","words","ends","place"] (qc K):=Ka (k:=0) G0   D21;have H22:Has l.prog w K mg base 2 "_law_term" ["deck","names","most"] uj:=Pd (k:=1) G0 (H19.up (by decide))  D22;have H23:Has l.prog w K mg base 2 "_law_shape" ["deck","kinds"] ud:=Km (k:=1) G0 (H19.up (by decide))  D23;have H24:Has l.prog w K mg base 1 "_law_deeds" ["kinds","shape"] (ub K):=Kb (k:=0) G0   D24;have H25:Has l.prog w K mg base 3 "_law_book" ["deck","names"] Ah:=Px (k:=2) G0 (H24.up (by decide)) (H19.up (by decide)) (H23.up (by decide))  D25;have H26:Has l.prog w K mg base 2 "_law_names" ["deck"] ql:=Kc (k:=1) G0 (H19.up (by decide))  D26;have H27:Has l.prog w K mg base 1 "_law_holes" ["kinds","shape"] (ku K):=Ho (k:=0) G0   D27;have H28:Has l.prog w K mg base 2 "_law_cover" ["deck","book","words","place","kind","most"] qg:=Ij (k:=1) G0 (H20.up (by decide)) (H27.up (by decide)) (H21.up (by decide)) (H19.up (by decide))  D28;have H29:Has l.prog w K mg base 9 "_law_told" ["book","words","kind"] o9:=Ia (k:=8) G0 (H18.up (by decide))  D29;have H30:Has l.prog w K mg base 7 "_law_priced" ["book","words","kind","cover"] o8:=Ir (k:=6) G0 (H16.up (by decide))  D30;have H31:Has l.prog w K mg base 2 "_law_other" ["book","words","kind","rule","least"] uk:=J9 (k:=1) G0 (H20.up (by decide)) (H27.up (by decide)) (H21.up (by decide))  D31;exact hasLaw (k:=9) G0 (H25.up (by decide)) (H28.up (by decide)) (H26.up (by decide)) (H19.up (by decide)) (H31.up (by decide)) (H30.up (by decide)) (H22.up (by decide)) (H29.up (by decide)) (H12.up (by decide))  F32
theorem walk {l:PySem.W.OpenLaw} {q:Program} {loose:List Str} {XP:(Str→Option Value)→Heap→Prop} {YP:World→Heap→Prop} {d:DefRec} {K:Params→PySem.W.Frag} (hn:l.most=some 63) (hdf:d.params.defaults=[])
  (hY:∀(w:World) (h:Heap),YP w h→(K w.params).In h)
  (F:∀(w:World) (mg:Str→Option Value) (fa:Addr) (h:Heap),(K w.params).In h→h.Ns mainGlobals mg→mg d.name=some (.ref fa)→
   ∃fd:FuncData,(∀(s:Shared) (u:Value),BindsTo s fd ⟨[u],[]⟩ [("script",u)])∧∀base:Heap,(K w.params).In base→base.Ns mainGlobals mg→mi l.prog w (K w.params) mg base CX0 10 fa fd ["script"] (Fh (K w.params))):
  PySem.W.WalkO q loose XP YP l.row.toRowW d [] (λf vs=>PySem.call f vs):=
 L2.N8 (n:=63) (k:=10) (x:="script") (CX:=λ_=>CX0) (sp:=λw=>Fh (K w.params)) hn (by decide) hdf ⟨rfl,by decide,by decide⟩ hY F (λ_ _ a ns hl _ hS=>⟨a,ns,rfl,hS,hl,λ_=>rfl⟩) λ_ _ _ _ _ z=>z
end K53
namespace PySem.W.Fast
def tw12737110928067934941:=()
def tw2364886809374070520:=()
def tw11461852301262359724:=()
def tw6263255179846241359:=()
def tw14414934739846622820:=()
def tw8999533660960437960:=()
def tw13110174937704561319:=()
def tw1782505191822819599:=()
def tw9105230560339862685:=()
def tw14730072790084259033:=()
def tw15338392171438752185:=()
def tw12817075585152660599:=()
def tw11012747769322360900:=()
def tw11266324582070674230:=()
def tw5370746852707102702:=()
def tw5377751802756448661:=()
def tw4273144159095731197:=()
def tw7753857438295873175:=()
def tw9309461008328736924:=()
def tw1981872324008086171:=()
def tw13528326604234531497:=()
def tw2715505118213901288:=()
def tw3469875972043010321:=()
def tw2135227175952198380:=()
def tw12890742835308354052:=()
def tw6595869878888541622:=()
def tw16767871992757850855:=()
def tw11891003471750471976:=()
def tw10612886668917694888:=()
def tw10801865420531955315:=()
def tw1045259870568189619:=()
def tw12832407766844923850:=()
def tw8049664691696783847:=()
def tw6376187853328285150:=()
def tw6852343495364292213:=()
def tw8702126746826751338:=()
def tw18049756294983811415:=()
def tw10552904776856539470:=()
def tw15565202859138175047:=()
def tw9934855971375487276:=()
def tw13429641402193703752:=()
def tw14632134466313154573:=()
def tw3507619397153212177:=()
def tw13520142912033152224:=()
def tw12103687363257232498:=()
def tw6136762016173535970:=()
def tw13876050131916852240:=()
def tw4122507844459840489:=()
def tw5881363844632772934:=()
def tw9860101052283747508:=()
def tw14682375701406132212:=()
def tw3075836723544910909:=()
def tw4088489315738005286:=()
def tw4970809324166628762:=()
def tw3563117547575256463:=()
def tw1073621704146578177:=()
def tw8140200766108579670:=()
def tw1594195675563525462:=()
def tw15381918944640210664:=()
def tw10238713904764010572:=()
def tw9952194008847025392:=()
def tw3445450954272573939:=()
def tw5265029529832717532:=()
def tw13058928014137891000:=()
def tw7638390154356485852:=()
def tw4395265428452026369:=()
def tw2281467687492452295:=()
def tw18234495988484596814:=()
def tw1163139016758695893:=()
def tw17107805020883024994:=()
def tw8831388856080932877:=()
def tw5945044115877076776:=()
def tw12327744817594437846:=()
def tw4445777970291209229:=()
def tw12196078364230596165:=()
def tw10336466851001941505:=()
def tw16089017276074284805:=()
def tw6328353896746993128:=()
def tw18236888816571999025:=()
def tw2671902872639156417:=()
def tw11878187272619403181:=()
def tw4058336654759992808:=()
def tw8764717973247163996:=()
def tw10069847610600690738:=()
def tw823187563340018419:=()
def tw1378223706593397954:=()
def tw18344355731197202108:=()
def tw14477824817306518746:=()
def tw18220433039067645410:=()
def tw3238219469739547611:=()
def tw2978248307772883461:=()
def tw14289506557559215999:=()
def tw15720205054821395296:=()
def tw3562301632624423601:=()
def tw8409766677772456909:=()
def tw12488744050403786563:=()
def tw13151458692429474549:=()
def tw1012209278591487003:=()
def tw455402559496957570:=()
def tw17513613236198274409:=()
def tw10802025652210826807:=()
def tw15489384778428190302:=()
def tw12989931975657390678:=()
def tw5753186595662604553:=()
def tw14150423369221273446:=()
def tw6166410904110199495:=()
def tw4923349744562520044:=()
def tw2849758076677903492:=()
def tw1140869622675651224:=()
def tw717081169718112841:=()
def tw3959223697570295558:=()
def tw3973590008312121303:=()
def tw3823574164086749340:=()
def tw8384769868357322849:=()
def tw11418999715400192032:=()
def tw9274198666686194649:=()
def tw17537703306110507533:=()
def tw10879995095346656110:=()
def tw12737646327388783548:=()
def tw2303009654149618718:=()
def tw4969651817064672185:=()
def tw4794721581554321935:=()
def tw12156139657026937274:=()
def tw10062543993927159880:=()
def tw669966956977133051:=()
def tw1709407210799319629:=()
def tw13789612681851030205:=()
def tw272568770781954155:=()
def tw5504375884390905800:=()
def tw5644136112853804569:=()
def tw15427393213555235297:=()
def tw8638268445006306299:=()
def tw16931100922609038747:=()
def tw10634910472995913382:=()
def tw5875910676073530673:=()
def tw17075626252509019926:=()
def tw16190602137520583781:=()
def tw15649561771524066322:=()
def tw13896009405154116395:=()
def tw13920298925406470976:=()
def tw16640225331428102904:=()
def tw9099791087281710863:=()
def tw4390759544332508003:=()
def tw364726599049841650:=()
def tw8407020974073961123:=()
def tw1112913224557761704:=()
def tw9856047101175897169:=()
def tw9796124244676921594:=()
def tw8919966532108921327:=()
def tw9956230781124339501:=()
def tw5489424980793388778:=()
def tw15110429968752824814:=()
def tw12016933446240458960:=()
def tw3360099413400843514:=()
def tw18237338636139278824:=()
def tw17485575521680837648:=()
def tw13524093151442406050:=()
def tw10878055314285834074:=()
def tw5818844472906919621:=()
def tw3712807225627619917:=()
def tw5352254489794490760:=()
def tw9855218229797939771:=()
def tw8870352435671020976:=()
def tw292202252327383967:=()
def tw7813073013685379997:=()
def tw6684663822617193319:=()
def tw7980759801372663005:=()
def tw9984794017724337959:=()
def tw16985314797319686448:=()
def tw8556609369009127443:=()
def tw7775159577151680051:=()
def tw2184438028440212760:=()
def tw11395131328436618699:=()
def tw2570654065744150993:=()
def tw14966936366903136535:=()
def tw5458696905760910173:=()
def tw16612615813919138197:=()
def tw11688918179266077521:=()
def tw4972676476246493990:=()
def tw17181273851642360831:=()
def tw14902002653350198395:=()
def tw5976001454415507659:=()
def tw9762022150540142639:=()
def tw7471825569534544386:=()
def tw10903100193033704086:=()
def tw12690532533372139145:=()
def tw14782563805339947230:=()
def tw14833758589766955673:=()
def tw15581750512976992992:=()
def tw11570140684237644091:=()
def tw6765927814621705724:=()
def tw16315714161981169660:=()
def tw10914640174559869427:=()
def tw2034015317009599379:=()
def tw12941220026070965853:=()
def tw18083193072715759567:=()
def tw2995081757944924710:=()
def tw14196416172968514524:=()
def tw80974277807687939:=()
def tw7834783756276339436:=()
def tw16882479856476806283:=()
def tw18264078170997223849:=()
def tw6874694954471079094:=()
def tw15607601968320593941:=()
def tw6692045791145715151:=()
def tw7338747187920649858:=()
def tw5517154960025018267:=()
def tw6473987295504224982:=()
def tw10657520789152396310:=()
def tw14497923221713074249:=()
def tw2714408368424742080:=()
def tw8017669631543441870:=()
def tw3430325358966813546:=()
def tw11016852243772268508:=()
def tw6748271263104064581:=()
def tw5250727205401475780:=()
def tw11943409585754834615:=()
def tw7371950489329260362:=()
def tw3882469639266048877:=()
def tw17969510633035924534:=()
def tw11548752142068387866:=()
def tw4838533561444680283:=()
def tw18260590901491611718:=()
def tw15859360518475996000:=()
def tw11737266718305770088:=()
def tw13265981558183813841:=()
def tw3289126109091878294:=()
def tw11514547342573609808:=()
def tw11263627332947570009:=()
def tw6525754941885410409:=()
def tw10696328668469657628:=()
def tw18415078147144967270:=()
def tw3767035483660103006:=()
def tw8978406243190961151:=()
def tw15511592624614724028:=()
def tw13215782955875988512:=()
def tw3688678891327218959:=()
def tw14716897011017451699:=()
def tw10448821391449366596:=()
def tw8718151021395107216:=()
def tw11680046816381607433:=()
def tw7512505946948865399:=()
def tw992176198143182741:=()
def tw8534938290804679609:=()
def tw7504607364456339765:=()
def tw15772126740600498194:=()
end PySem.W.Fast
open PySem PySem.W PyProof.Rows
set_option maxRecDepth 100000 in
set_option maxHeartbeats 0 in
theorem PySem.Challenge.cw_pricecover_k53_whole_no_cover_is_cheaper_holds : PySem.Challenge.rw_pricecover_k53_whole_no_cover_is_cheaper.Holds := by
 w_on;o_law;k_head;(case hw=>w_witness2)
 k_fill
 refine K53.walk (l:=PySem.Challenge.rw_pricecover_k53_whole_no_cover_is_cheaper) rfl rfl (fun w h Y=>PySem.W.kIn_of Y) ?F
 case F=>
  intro w mg fa h KX G hmg
  refine' K53.all_mk KX G hmg ?a0 ?l0 ?c0 ?k0 ?a1 ?l1 ?c1 ?k1 ?a2 ?l2 ?c2 ?k2 ?a3 ?l3 ?c3 ?k3 ?a4 ?l4 ?c4 ?k4 ?a5 ?l5 ?c5 ?k5 ?a6 ?l6 ?c6 ?k6 ?a7 ?l7 ?c7 ?k7 ?a8 ?l8 ?c8 ?k8 ?a9 ?l9 ?c9 ?k9 ?a10 ?l10 ?c10 ?k10 ?a11 ?l11 ?c11 ?k11 ?a12 ?l12 ?c12 ?k12 ?a13 ?l13 ?c13 ?k13 ?a14 ?l14 ?c14 ?k14 ?a15 ?l15 ?c15 ?k15 ?a16 ?l16 ?c16 ?k16 ?a17 ?l17 ?c17 ?k17 ?a18 ?l18 ?c18 ?k18 ?a19 ?l19 ?c19 ?k19 ?a20 ?l20 ?c20 ?k20 ?a21 ?l21 ?c21 ?k21 ?a22 ?l22 ?c22 ?k22 ?a23 ?l23 ?c23 ?k23 ?a24 ?l24 ?c24 ?k24 ?a25 ?l25 ?c25 ?k25 ?a26 ?l26 ?c26 ?k26 ?a27 ?l27 ?c27 ?k27 ?a28 ?l28 ?c28 ?k28 ?a29 ?l29 ?c29 ?k29 ?a30 ?l30 ?c30 ?k30 ?a31 ?l31 ?c31 ?k31 ?a32 ?l32 ?c32 ?k32 ?z0 ?z1 ?z2 ?z3 ?z4 ?z5 ?z6 ?z7 ?z8 ?z9 ?z10 ?z11 ?y0 ?x0 ?hh0x0 ?hh0x1 ?hh0x2 ?hh0x3 ?ha0 ?cn0 ?cl0 ?ck0 ?cs0 ?cg0 ?ch0 ?cc0 ?cn3 ?cl3 ?ck3 ?cs3 ?cg3 ?ch3 ?cc3 ?cn4 ?cl4 ?ck4 ?cs4 ?cg4 ?ch4 ?cc4 ?ip3 ?ip4
  (case a0=>k_is)
  (case l0=>k_is)
  (case c0=>k_is)
  (case k0=>k_is)
  (case a1=>k_is)
  (case l1=>k_is)
  (case c1=>k_is)
  (case k1=>k_is)
  (case a2=>k_is)
  (case l2=>k_is)
  (case c2=>k_is)
  (case k2=>k_is)
  (case a3=>k_is)
  (case l3=>k_is)
  (case c3=>k_is)
  (case k3=>k_is)
  (case a4=>k_is)
  (case l4=>k_is)
  (case c4=>k_is)
  (case k4=>k_is)
  (case a5=>k_is)
  (case l5=>k_is)
  (case c5=>k_is)
  (case k5=>k_is)
  (case a6=>k_is)
  (case l6=>k_is)
  (case c6=>k_is)
  (case k6=>k_is)
  (case a7=>k_is)
  (case l7=>k_is)
  (case c7=>k_is)
  (case k7=>k_is)
  (case a8=>k_is)
  (case l8=>k_is)
  (case c8=>k_is)
  (case k8=>k_is)
  (case a9=>k_is)
  (case l9=>k_is)
  (case c9=>k_is)
  (case k9=>k_is)
  (case a10=>k_is)
  (case l10=>k_is)
  (case c10=>k_is)
  (case k10=>k_is)
  (case a11=>k_is)
  (case l11=>k_is)
  (case c11=>k_is)
  (case k11=>k_is)
  (case a12=>k_is)
  (case l12=>k_is)
  (case c12=>k_is)
  (case k12=>k_is)
  (case a13=>k_is)
  (case l13=>k_is)
  (case c13=>k_is)
  (case k13=>k_is)
  (case a14=>k_is)
  (case l14=>k_is)
  (case c14=>k_is)
  (case k14=>k_is)
  (case a15=>k_is)
  (case l15=>k_is)
  (case c15=>k_is)
  (case k15=>k_is)
  (case a16=>k_is)
  (case l16=>k_is)
  (case c16=>k_is)
  (case k16=>k_is)
  (case a17=>k_is)
  (case l17=>k_is)
  (case c17=>k_is)
  (case k17=>k_is)
  (case a18=>k_is)
  (case l18=>k_is)
  (case c18=>k_is)
  (case k18=>k_is)
  (case a19=>k_is)
  (case l19=>k_is)
  (case c19=>k_is)
  (case k19=>k_is)
  (case a20=>k_is)
  (case l20=>k_is)
  (case c20=>k_is)
  (case k20=>k_is)
  (case a21=>k_is)
  (case l21=>k_is)
  (case c21=>k_is)
  (case k21=>k_is)
  (case a22=>k_is)
  (case l22=>k_is)
  (case c22=>k_is)
  (case k22=>k_is)
  (case a23=>k_is)
  (case l23=>k_is)
  (case c23=>k_is)
  (case k23=>k_is)
  (case a24=>k_is)
  (case l24=>k_is)
  (case c24=>k_is)
  (case k24=>k_is)
  (case a25=>k_is)
  (case l25=>k_is)
  (case c25=>k_is)
  (case k25=>k_is)
  (case a26=>k_is)
  (case l26=>k_is)
  (case c26=>k_is)
  (case k26=>k_is)
  (case a27=>k_is)
  (case l27=>k_is)
  (case c27=>k_is)
  (case k27=>k_is)
  (case a28=>k_is)
  (case l28=>k_is)
  (case c28=>k_is)
  (case k28=>k_is)
  (case a29=>k_is)
  (case l29=>k_is)
  (case c29=>k_is)
  (case k29=>k_is)
  (case a30=>k_is)
  (case l30=>k_is)
  (case c30=>k_is)
  (case k30=>k_is)
  (case a31=>k_is)
  (case l31=>k_is)
  (case c31=>k_is)
  (case k31=>k_is)
  (case a32=>k_is)
  (case l32=>k_is)
  (case c32=>k_is)
  (case k32=>k_is)
  (case z0=>k_is)
  (case z1=>k_is)
  (case z2=>k_is)
  (case z3=>k_is)
  (case z4=>k_is)
  (case z5=>k_is)
  (case z6=>k_is)
  (case z7=>k_is)
  (case z8=>k_is)
  (case z9=>k_is)
  (case z10=>k_is)
  (case z11=>k_is)
  (case y0=>k_is)
  (case x0=>k_is)
  (case hh0x0=>first | rfl | k_is)
  (case hh0x1=>first | rfl | k_is)
  (case hh0x2=>first | rfl | k_is)
  (case hh0x3=>first | rfl | k_is)
  (case ha0=>first | rfl | decide | k_is)
  (case cn0=>k_is)
  (case cl0=>k_is)
  (case ck0=>k_is)
  (case cs0=>k_is)
  (case cg0=>k_is)
  (case ch0=>k_is)
  (case cc0=>k_is)
  (case cn3=>k_is)
  (case cl3=>k_is)
  (case ck3=>k_is)
  (case cs3=>k_is)
  (case cg3=>k_is)
  (case ch3=>k_is)
  (case cc3=>k_is)
  (case cn4=>k_is)
  (case cl4=>k_is)
  (case ck4=>k_is)
  (case cs4=>k_is)
  (case cg4=>k_is)
  (case ch4=>k_is)
  (case cc4=>k_is)
  (case ip3=>k_is)
  (case ip4=>k_is)
#print axioms PySem.Challenge.cw_pricecover_k53_whole_no_cover_is_cheaper_holds
