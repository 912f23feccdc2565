import PyProof.Rows.All
import Wide.All
import OpenK.AllK
import Wide.FinOn
import Lean
import PyProof.EqAt
import PyProof.EqKinds
import PyProof.TupleCall
import KE.KSortTup
import PyProof.EnumMake
import PyProof.EnumStmt
import PyProof.ListRange
import PyProof.Rows.SortPure
import PyProof.Rows.SortRuns
import KE.KDictList
import KE.KRevIter
import PyProof.DictItems
import PyProof.ZipIter
import PyProof.DictUpdate
import PyProof.TupleIter
import PyProof.ListNew
import PyProof.Rows.ZipGen
import PyProof.AttrMiss
import PyProof.FactsAll.dict_1
import PyProof.AttrMissHeap
import KE.KDictOf
import PyProof.Rows.SetFrom
import PyProof.Rows.Range3
import PyProof.DictIter
import PyProof.Rows.TupDisplay
import PyProof.ExcClass3
import PyProof.RulesAs
import PyProof.RaisesMany
import PyProof.InstStore
import PyProof.InstStoreFacts
import PyProof.ExcBaseAll.ValueError
import PyProof.ExcArgs
import PyProof.InstLoad
import PyProof.ExcAttrAll.ValueError
import KE.KIsAll
import PyProof.Toks
import PyProof.FString4
import PyProof.StrLawsRepr
import PyProof.FitsReplace
import PySem.Challenge.RW_pricecover_k51_cover_price
set_option Elab.async false
set_option bootstrap.genMatcherCode false
set_option linter.all false
set_option maxRecDepth 100000
set_option maxHeartbeats 4000000
open List renaming length_map → aa0,length_append → aa1,getElem?_eq_getElem → aa2,size_toArray → aa3,not_mem_nil → aa4,getElem?_map → aa7,map_append → aa8,length_singleton → aa9,replicate → aac,mem_of_getElem? → aad,length_reverse → aae,mem_cons → aag,length_drop → aah,mem_cons_of_mem → aak,mem_cons_self → aal,getElem?_append_right → aam,getD_eq_getElem?_getD → aan,getElem?_append_left → aao,length_cons → aaq,mem_append_right → aar,drop_eq_getElem_cons → aat,filter_cons → aav,replicate_succ → aax,length_take → aay,contains_cons → aaz,map_cons → ab0,getElem_mem → ab1,range → ab3,length_replicate → ab4,zip → ab5,length_filter_le → ab7,filter_append → ab9,mem_of_mem_take → abe,take_add_one → abf,count_append → abg,find?_cons → abh,getElem?_eq_none → abi,append_nil → abk,flatten_cons → abl,take_length → abn,Nodup → abp,getElem?_reverse → abr,map_drop → abt,mem_append_left → abu,count_replicate_self → abv,drop_length → abw,drop_of_length_le → abz,reverse_cons → ac1,append_assoc → ac2,take_append_drop → ac4,count_replicate → ac7,count_singleton → ac8,length → aca,filterMap_cons → acb,of_mem_zip → ace,length_zip → acf,getElem?_take_of_lt → acg,getElem?_set_self → ack,take_of_length_le → acm,any_cons → acn,getElem_inj → aco,eraseIdxIfInBounds_toArray → acp,getElem?_set_ne → acq,map_nil → acs,length_dropLast → acu,length_nil → acv,map_map → acw,mem_of_mem_drop → acy,forIn_cons → acz,reverse_append → ad1,forIn_nil → ad2,dropLast_concat_getLast → ad3,getElem?_drop → ad5,map_take → ad7,take_sublist → ad8,mem_of_find?_eq_some → ad9,lookup_cons → adb,map_reverse → adg,getElem?_replicate → adh,eraseIdx_cons_succ → adi,getElem?_cons_succ → adj,drop_zero → adp,drop_drop → adq,getElem?_toArray → ads,map → adt,dropLast_concat → adu,getLast?_concat → adv,zip_cons_cons → ae0,any_eq_false → ae3,length_range → ae5,append_inj' → ae7,zipIdx_cons → ae8,length_set → ae9,foldl → aea,foldl_cons → aeb,nil_append → aec,zipIdx_nil → aee,find?_some → aef
open Nat renaming le_refl → aa5,zero_le → aaa,lt_of_lt_of_le → aaf,lt_of_succ_lt → aaj,ne_of_lt → aap,le_trans → aaw,ne_of_gt → ab2,lt_irrefl → ab6,le_add_right → abo,le_of_lt → abq,eq_zero_or_pos → aby,lt_succ_of_lt → ac3,add_lt_add_left → acd,lt_of_le_of_lt → ach,sub_zero → aci,sub_self → acj,zero_add → acx,not_lt_zero → ad0,add_sub_cancel → ad4,lt_succ_self → adf,le_succ → adm,add_comm → adx,lt_trans → ady,lt_or_ge → ae1,le_succ_of_le → ae4,le_of_not_lt → ae6,min_eq_left → aed
open Option.some renaming inj → aa6
open Bool renaming false_ne_true → aab,false_eq_true → abj,or_true → ac5,and_eq_true → ac6,eq_iff_iff → acr,or_false → ad6,noConfusion → ade,or_eq_true → adk,and_false → adn
open Int renaming emod_nonneg → aai,toNat → aau,emod_lt_of_pos → aba,toNat_natCast → ac0
open And renaming intro → aas
open Or renaming inl → ab8,inr → abc
open List.cons renaming inj → abb,injEq → adl
open Array renaming getElem?_eq_getElem → abd,length_toList → abx,getElem?_toList → ado,toArray_toList → adw,forIn_toList → adz
open Iff renaming rfl → abm
open Option renaming bind_some → ac9,getD_none → ada
open Exists renaming intro → ae2
local macro_rules | `(tactic| omega)=>`(tactic| first | lia | omega +splitNatSub)
namespace L2
open PySem PySem.Spec PyProof.Rows
abbrev Key:=Sum Int Str
noncomputable def qw:Key→Value→Bool
 | .inl k,v=>Value.isInt k v
 | .inr x,v=>Value.isStrOf x v
noncomputable def keyH (w:World):Key→Int
 | .inl k=>hashInt k
 | .inr x=>hashStr w x
theorem cf:∀{k:Key} {v:Value},qw k v=true→(∃i t,k=Sum.inl i∧v=Value.int i t)∨(∃x t,k=Sum.inr x∧v=Value.str x t)
 | .inl i,v,h=>by
  obtain ⟨t,e⟩:=Value.isInt_shape (k:=i) (v:=v) h;exact .inl ⟨i,t,rfl,e⟩
 | .inr x,v,h=>by
  obtain ⟨t,e⟩:=Value.isStrOf_shape (x:=x) (v:=v) h;exact .inr ⟨x,t,rfl,e⟩
theorem Aa (i:Int) (t:Tok):qw (.inl i) (.int i t)=true:=by simp[qw,Value.isInt]
theorem Au (x:Str) (t:Tok):qw (.inr x) (.str x t)=true:=by simp[qw,Value.isStrOf]
theorem key_ll (a b:Int):decide ((Sum.inl a:Key)=Sum.inl b)=(a==b):=by
 by_cases e:a=b
 ·subst e;simp
 ·have h:¬(Sum.inl a:Key)=Sum.inl b:=λq=>e (Sum.inl.inj q);rw[decide_eq_false h];exact (beq_eq_false_iff_ne.mpr e).symm
theorem key_rr (a b:Str):decide ((Sum.inr a:Key)=Sum.inr b)=decide (a=b):=by
 by_cases e:a=b
 ·subst e;simp
 ·have h:¬(Sum.inr a:Key)=Sum.inr b:=λq=>e (Sum.inr.inj q);rw[decide_eq_false h,decide_eq_false e]
theorem key_lr (a:Int) (b:Str):decide ((Sum.inl a:Key)=Sum.inr b)=false:=decide_eq_false (λq=>nomatch q)
theorem key_rl (a:Str) (b:Int):decide ((Sum.inr a:Key)=Sum.inl b)=false:=decide_eq_false (λq=>nomatch q)
noncomputable def cb (prog:Program) (w:World):PySem.KeyKind prog w Key where
 is:=qw
 hash:=keyH w
 inj:=λv a b ha hb=>by
  rcases cf ha with ⟨i,t,rfl,rfl⟩ | ⟨x,t,rfl,rfl⟩
  ·rcases cf hb with ⟨j,u,rfl,e⟩ | ⟨y,u,rfl,e⟩
   ·injection e with e1 _;rw[e1]
   ·exact nomatch e
  ·rcases cf hb with ⟨j,u,rfl,e⟩ | ⟨y,u,rfl,e⟩
   ·exact nomatch e
   ·injection e with e1 _;rw[e1]
 byValue:=λk v h=>by
  rcases cf h with ⟨i,t,rfl,rfl⟩ | ⟨x,t,rfl,rfl⟩ <;> rfl
 pyHash:=λhv h=>by
  rcases cf hv with ⟨i,t,rfl,rfl⟩ | ⟨x,t,rfl,rfl⟩
  ·exact wpAny_pyHash_int h
  ·exact wpAny_pyHash_str h
 eqBool:=λhu hv h=>by
  rcases cf hu with ⟨i,t,rfl,rfl⟩ | ⟨x,t,rfl,rfl⟩
  ·rcases cf hv with ⟨j,u,rfl,rfl⟩ | ⟨y,u,rfl,rfl⟩
   ·rw[key_ll] at h;exact wpAny_eqBool_int h
   ·rw[key_lr] at h;exact SeqAt.EqAt.int_str i t y u _ _ _ _ h
  ·rcases cf hv with ⟨j,u,rfl,rfl⟩ | ⟨y,u,rfl,rfl⟩
   ·rw[key_rl] at h;exact SeqAt.EqAt.str_int x t j u _ _ _ _ h
   ·rw[key_rr] at h;exact wpAny_eqBool_str h
 «strs»:=λk x t v h=>by
  rcases cf h with ⟨i,u,rfl,e⟩ | ⟨y,u,rfl,e⟩
  ·exact nomatch e
  ·injection e with e1 _
   subst e1;cases v <;> rfl
theorem wj (prog:Program) (w:World) (i:Int) (t:Tok):(cb prog w).is (.inl i) (.int i t)=true:=Aa i t
theorem ia (prog:Program) (w:World) (x:Str) (t:Tok):(cb prog w).is (.inr x) (.str x t)=true:=Au x t
end L2
namespace L2
open PySem PySem.Spec PyProof.Rows
inductive V where
 | non | bl (b:Bool) | int (i:Int) | str (x:Str) | byt (b:Array UInt8) | flt (b:UInt64) | ref (a:Addr) | ty (n:String)
 deriving DecidableEq
def RelV:V→Value→Prop
 | .non,u=>u=Value.none
 | .bl b,u=>u=Value.bool b
 | .int i,u=>∃t,u=Value.int i t
 | .str x,u=>∃t,u=Value.str x t
 | .byt b,u=>∃t,u=Value.bytes b t
 | .flt b,u=>∃t,u=Value.float b t
 | .ref a,u=>u=Value.ref a
 | .ty n,u=>u=Value.type n
abbrev Vals:List V→List Value→Prop:=Paired RelV
theorem Vals.length {xs:List V} {us:List Value} (r:Vals xs us):xs.length=us.length:=Paired.length r
theorem Vals.get:∀{xs:List V} {us:List Value} {i:Nat} {x:V},Vals xs us→xs[i]?=some x→∃u,us[i]?=some u∧RelV x u
 | _,_,_,_,.nil,e=>by simp at e
 | _,_,0,_,.cons r _,e=>by simp at e;subst e;exact ⟨_,rfl,r⟩
 | _,_,i+1,x,.cons _ t,e=>by
  obtain ⟨u,h1,h2⟩:=Vals.get (i:=i) (x:=x) t (by simpa using e);exact ⟨u,by simpa using h1,h2⟩
theorem Vals.set {x:V} {u:Value} (r:RelV x u):∀{xs:List V} {us:List Value} (i:Nat),Vals xs us→Vals (xs.set i x) (us.set i u)
 | _,_,_,.nil=>.nil
 | _,_,0,.cons _ t=>.cons r t
 | _,_,i+1,.cons q t=>.cons q (Vals.set r i t)
theorem Vals.append:∀{xs ys:List V} {us ws:List Value},Vals xs us→Vals ys ws→Vals (xs++ys) (us++ws)
 | _,_,_,_,.nil,s=>s
 | _,_,_,_,.cons r t,s=>.cons r (Vals.append t s)
theorem Vals.take:∀{xs:List V} {us:List Value} (n:Nat),Vals xs us→Vals (xs.take n) (us.take n)
 | _,_,0,_=>.nil
 | _,_,_+1,.nil=>.nil
 | _,_,n+1,.cons r t=>.cons r (Vals.take n t)
theorem Vals.drop:∀{xs:List V} {us:List Value} (n:Nat),Vals xs us→Vals (xs.drop n) (us.drop n)
 | _,_,0,r=>r
 | _,_,_+1,.nil=>.nil
 | _,_,n+1,.cons _ t=>Vals.drop n t
def ku:Option V→Option Value→Prop
 | some v,some u=>RelV v u
 | none,none=>True
 | _,_=>False
def KV {κ:Type}:List (κ×V)→List (κ×Value)→Prop:=Paired λ(p:κ×V) (q:κ×Value)=>p.1=q.1∧RelV p.2 q.2
noncomputable def kV:Key→V
 | .inl i=>.int i
 | .inr x=>.str x
inductive HO where
  | lst (xs:List V)
  | tup (xs:List V)
  | dK (kvs:List (Key×V)) | dT (kvs:List (List Key×V))
  | set (S:Int→Bool) (n:Nat)
  | ins (C dx:Addr) (fs:List (Str×V))
  | own (x:Addr)
  | xd (fs:List (Str×V))
  | met (f x:Addr)
  | rng (lo hi:Int)
  | frz (o:Obj) (u:HO)
  | tbl (ps:Array Value)
  | ext (φ:Heap→Prop)
abbrev Hp:=Addr→Option HO
noncomputable def upd (H:Hp) (a:Addr) (o:HO):Hp:=λb=>if b=a then some o else H b
theorem ae {H:Hp} {a:Addr} {o:HO}:upd H a o a=some o:=by unfold upd;rw[if_pos rfl]
theorem af {H:Hp} {a b:Addr} {o:HO} (h:b≠a):upd H a o b=H b:=by unfold upd;rw[if_neg h]
theorem j5 {H:Hp} {a b:Addr} {o u:HO} (h:H a=some o) (h':H b=some u) (d:o≠u):a≠b:=by
 intro e;subst e;rw[h] at h';exact d (aa6 h')
theorem ag {H:Hp} {a b:Addr} {o:HO} (h:H a=some o) (h':H b=none):a≠b:=by
 intro e;subst e;rw[h] at h';cases h'
section
variable (P:Program) (w:World)
def xr (h:Heap) (a:Addr) (its:Array Value):Prop:=∃o,h.get? a=some o∧o.cls=.type "tuple"∧∃n,o.data=.seq its n∧o.dict=none
theorem xr.tup {h:Heap} {a:Addr} {its:Array Value} (x:xr h a its):IsTup h a its:=let ⟨o,h1,h2,n,h3,_⟩:=x;⟨o,h1,h2,n,h3⟩
def bz (H:Hp) (h:Heap) (a:Addr):HO→Prop
 | .lst xs=>xs.length≤sizeLine∧∃(its:List Value) (n:Nat),Vals xs its∧h.get? a=some { cls:=.type "list",data:=.seq its.toArray n }
 | .tup xs=>xs.length≤sizeLine∧∃its:List Value,Vals xs its∧xr h a its.toArray
 | .dK kvs=>kvs.length≤sizeLine∧(a==sysModules)=false∧∃vs,KV kvs vs∧h.DictOf (cb P w) a vs
 | .dT kvs=>kvs.length≤sizeLine∧(a==sysModules)=false∧∃xs:List (List Key×Addr×Value),
   Paired (λ(p:List Key×V) (q:List Key×Addr×Value)=>p.1=q.1∧H q.2.1=some (.tup (p.1.map kV))∧RelV p.2 q.2.2) kvs xs∧
   ∃o es ep,h.get? a=some o∧o.ExactDict∧o.data=.dict es ep∧es.toList=xs.map (entryOfKey (tupleKind (cb P w)))∧(xs.map (·.1)).Nodup
 | .set S n=>h.SetOf (intKind P w) a S n
 | .ins C dx fs=>H dx=some (.own a)∧fs.length≤1000∧dx≠a∧h.get? a=some (PySem.W.instObj C dx)∧
   ∃mA,h.Ns1 dx mA∧(∀f,ku (fs.lookup f) (mA f))∧PySem.Within mA (fs.map (·.1))
 | .own _=>∃o,h.get? a=some o
 | .xd fs=>∃mA,h.Ns1 a mA∧∀f,ku (fs.lookup f) (mA f)
 | .rng lo hi=>∃t u v,h.get? a=some { cls:=.type "range",data:=.fields #[.int lo t,.int hi u,.int 1 v] }
 | .frz o u=>h.get? a=some o∧bz H h a u
 | .tbl ps=>h.get? a=some { cls:=.none,data:=.fields ps }
 | .met f x=>h.get? a=some (PySem.W.methodObj (.ref f) (.ref x))
 | .ext φ=>φ h∧(∃o,h.get? a=some o)∧∀h1 h2:Heap,φ h1→(∀o,h1.get? a=some o→h2.get? a=some o)→φ h2
def HOk (H:Hp) (h:Heap):Prop:=∀a o,H a=some o→bz P w H h a o
end
section
variable {P:Program} {w:World} {H H':Hp} {h h':Heap} {a:Addr} {o:HO}
theorem bz.lt (x:bz P w H h a o):a < h.objs.size:=by
 cases o with
 | lst xs=>obtain ⟨_,_,_,_,e⟩:=x;exact Heap.lt_size e
 | tup xs=>obtain ⟨_,_,_,p⟩:=x;exact p.tup.lt
 | dK kvs=>obtain ⟨_,_,_,_,o,_,_,e,_⟩:=x;exact Heap.lt_size e
 | dT kvs=>obtain ⟨_,_,_,_,o,_,_,e,_⟩:=x;exact Heap.lt_size e
 | set S n=>obtain ⟨o,_,_,_,e,_⟩:=x;exact Heap.lt_size e
 | ins C dx fs=>obtain ⟨_,_,_,e,_⟩:=x;exact Heap.lt_size e
 | own y=>obtain ⟨_,e⟩:=x;exact Heap.lt_size e
 | xd fs=>obtain ⟨_,⟨_,_,_,e,_⟩,_⟩:=x;exact Heap.lt_size e
 | rng lo hi=>obtain ⟨_,_,_,e⟩:=x;exact Heap.lt_size e
 | frz ob u=>obtain ⟨e,_⟩:=x;exact Heap.lt_size e
 | tbl ps=>exact Heap.lt_size (show h.get? a=some _ from x)
 | met f y=>exact Heap.lt_size (show h.get? a=some _ from x)
 | ext φ=>obtain ⟨_,⟨_,e⟩,_⟩:=x;exact Heap.lt_size e
theorem Paired.mapP {α β:Type} {F G:α→β→Prop}:∀{l₁:List α} {l₂:List β},Paired F l₁ l₂→(∀a b,F a b→G a b)→Paired G l₁ l₂
 | _,_,.nil,_=>.nil
 | _,_,.cons r t,f=>.cons (f _ _ r) (Paired.mapP t f)
theorem bz.tm (x:bz P w H h a o) (k:∀b u,(b=a∨H b=some (.own a))→h.get? b=some u→h'.get? b=some u)
  (ho:∀b,H b=some (.own a)→H' b=some (.own a)) (ht:∀b xs,H b=some (.tup xs)→H' b=some (.tup xs)):bz P w H' h' a o:=by
 induction o with
 | lst xs=>obtain ⟨z,its,n,r,e⟩:=x;exact ⟨z,its,n,r,k _ _ (.inl rfl) e⟩
 | tup xs=>obtain ⟨z,its,r,ob,e,c⟩:=x;exact ⟨z,its,r,ob,k _ _ (.inl rfl) e,c⟩
 | dK kvs=>obtain ⟨z,y,vs,r,ob,es,ep,e,c⟩:=x;exact ⟨z,y,vs,r,ob,es,ep,k _ _ (.inl rfl) e,c⟩
 | dT kvs=>
  obtain ⟨z,y,xs,r,ob,es,ep,e,c⟩:=x;exact ⟨z,y,xs,Paired.mapP r λp q z=>⟨z.1,ht _ _ z.2.1,z.2.2⟩,ob,es,ep,k _ _ (.inl rfl) e,c⟩
 | set S n=>obtain ⟨ob,es,ep,t,e,c⟩:=x;exact ⟨ob,es,ep,t,k _ _ (.inl rfl) e,c⟩
 | ins C dx fs=>
  obtain ⟨d,z,ne,e,mA,⟨od,es,ep,e2,c⟩,r⟩:=x;exact ⟨ho _ d,z,ne,k _ _ (.inl rfl) e,mA,⟨od,es,ep,k _ _ (.inr d) e2,c⟩,r⟩
 | own y=>obtain ⟨ob,e⟩:=x;exact ⟨ob,k _ _ (.inl rfl) e⟩
 | xd fs=>obtain ⟨mA,⟨od,es,ep,e,c⟩,r⟩:=x;exact ⟨mA,⟨od,es,ep,k _ _ (.inl rfl) e,c⟩,r⟩
 | rng lo hi=>obtain ⟨t,u,v,e⟩:=x;exact ⟨t,u,v,k _ _ (.inl rfl) e⟩
 | frz ob u ih=>obtain ⟨e,q⟩:=x;exact ⟨k _ _ (.inl rfl) e,ih q⟩
 | tbl ps=>
  have e:h.get? a=some { cls:=.none,data:=.fields ps }:=x;show h'.get? a=some { cls:=.none,data:=.fields ps }
  exact k a _ (.inl rfl) e
 | met f y=>
  have e:h.get? a=some (PySem.W.methodObj (.ref f) (.ref y)):=x;show h'.get? a=some (PySem.W.methodObj (.ref f) (.ref y))
  exact k a _ (.inl rfl) e
 | ext φ=>obtain ⟨p,⟨o,e⟩,st⟩:=x;exact ⟨st _ _ p λo q=>k _ _ (.inl rfl) q,⟨o,k _ _ (.inl rfl) e⟩,st⟩
theorem HOk.lt (x:HOk P w H h) (e:H a=some o):a < h.objs.size:=(x a o e).lt
theorem HOk.fresh (x:HOk P w H h) (e:h.objs.size≤a):H a=none:=by
 cases q:H a with
 | none=>rfl
 | some u=>exact absurd (aaf (x.lt q) e) (ab6 _)
theorem HOk.kept (x:HOk P w H h) (k:∀b u,h.get? b=some u→h'.get? b=some u):HOk P w H h':=λa o e=>
 (x a o e).tm (λb u _ q=>k b u q) (λ_ q=>q) λ_ _ q=>q
theorem HOk.laid (x:HOk P w H h) (k:∀b u,h.get? b=some u→h'.get? b=some u) (hp:h.objs.size≤a) (new:bz P w (upd H a o) h' a o):HOk P w (upd H a o) h':=λb u e=>by
 have hn:=x.fresh hp;by_cases hb:b=a
 ·subst hb;rw[ae] at e;cases e;exact new
 ·rw[af hb] at e;exact (x b u e).tm (λc v _ q=>k c v q) (λc q=>by rw[af (ag q hn)];exact q) λc xs q=>by rw[af (ag q hn)];exact q
end
def Rd (H:Hp) (a:Addr) (u:HO):Prop:=H a=some u∨∃o,H a=some (.frz o u)
theorem Rd.ok {P:Program} {w:World} {H:Hp} {h:Heap} {a:Addr} {u:HO} (r:Rd H a u) (x:HOk P w H h):bz P w H h a u:=by
 rcases r with r | ⟨o,r⟩
 ·exact x a u r
 ·obtain ⟨_,q⟩:=x a _ r;exact q
def Mut:Option HO→Prop
 | some (.lst _)=>True
 | some (.dK _)=>True
 | some (.dT _)=>True
 | some (.set _ _)=>True
 | some (.ins _ _ _)=>True
 | some (.ext _)=>True
 | _=>False
section
variable {P:Program} {w:World} {H:Hp} {h h':Heap} {x e:Addr} {o':HO}
theorem HOk.write (ok:HOk P w H h) (mu:Mut (H x)) (he:e=x∨H e=some (.own x)) (k:∀b u,b≠e→h.get? b=some u→h'.get? b=some u) (heo:∃u,h'.get? e=some u)
  (new:bz P w (upd H x o') h' x o'):HOk P w (upd H x o') h':=λb u q=>by
 have nown:∀c y,H c=some (.own y)→c≠x:=λc y r z=>by subst z;rw[r] at mu;exact mu
 have ntup:∀c xs,H c=some (.tup xs)→c≠x:=λc xs r z=>by subst z;rw[r] at mu;exact mu
 by_cases hb:b=x
 ·subst hb;rw[ae] at q;cases q;exact new
 ·rw[af hb] at q;by_cases hbe:b=e
  ·have q':H b=some (.own x):=by
    rcases he with z | z
    ·exact absurd (hbe.trans z) hb
    ·rw[hbe];exact z
   rw[q] at q';cases q';obtain ⟨v,hv⟩:=heo;exact ⟨v,by rw[hbe];exact hv⟩
  ·refine (ok b u q).tm (λc v hc r=>k c v ?_ r) (λc r=>by rw[af (nown c b r)];exact r) λc xs r=>by rw[af (ntup c xs r)];exact r
   rcases hc with rfl | hc
   ·exact hbe
   ·rintro rfl;rcases he with z | z
    ·exact nown c b hc z
    ·rw[hc] at z;cases z;exact hb rfl
end
structure Un (fs ex:List Addr) (H H':Hp) (h h':Heap):Prop where
 keep:∀b o,h.get? b=some o→H b=none→b∉fs→b∉ex→h'.get? b=some o
 slot:∀b o,h.get? b=some o→H b=none→b∈fs→b∉ex→∃sl,h'.get? b=some { o with slots:=sl }
 free:∀b o,h.get? b=some o→H b=none→b∉ex→H' b=none
 there:∀b o,h.get? b=some o→b∉ex→∃o',h'.get? b=some o'
 tups:∀b xs,H b=some (.tup xs)→H' b=some (.tup xs)
 frzs:∀b o u,H b=some (.frz o u)→H' b=some (.frz o u)
 tbls:∀b ps,H b=some (.tbl ps)→∃more,H' b=some (.tbl (ps++more))
section
variable {fs fs' ex ex':List Addr} {H H1 H2:Hp} {h h1 h2 h':Heap} {a x e:Addr} {o:HO}
theorem Un.any (u:Un fs ex H H1 h h1) {b:Addr} {ob:Obj} (q:h.get? b=some ob) (n:H b=none) (hx:b∉ex):∃sl,h1.get? b=some { ob with slots:=sl }:=by
 by_cases hb:b∈fs
 ·exact u.slot b ob q n hb hx
 ·exact ⟨ob.slots,u.keep b ob q n hb hx⟩
theorem Un.kept (k:∀b u,h.get? b=some u→h'.get? b=some u):Un fs ex H H h h':=
 ⟨λb ob q _ _ _=>k b ob q,λb ob q _ _ _=>⟨ob.slots,k b ob q⟩,λ_ _ _ n _=>n,λb ob q _=>⟨ob,k b ob q⟩,λ_ _ q=>q,λ_ _ _ q=>q,λ_ ps q=>⟨#[],by rw[q];simp⟩⟩
theorem Un.refl:Un fs ex H H h h:=Un.kept λ_ _ q=>q
theorem Un.laid (k:∀b u,h.get? b=some u→h'.get? b=some u) (hp:h.objs.size≤a) (hn:H a=none):Un fs ex H (upd H a o) h h' where
 keep:=λb u q _ _ _=>k b u q
 slot:=λb u q _ _ _=>⟨u.slots,k b u q⟩
 free:=λb u q n _=>by rw[af (aap (aaf (Heap.lt_size q) hp))];exact n
 there:=λb u q _=>⟨u,k b u q⟩
 tups:=λb xs q=>by rw[af (ag q hn)];exact q
 frzs:=λb u xs q=>by rw[af (ag q hn)];exact q
 tbls:=λb ps q=>⟨#[],by rw[af (ag q hn),q];simp⟩
theorem Un.write (mu:Mut (H x)) (he:e=x∨H e=some (.own x)) (k:∀b u,b≠e→h.get? b=some u→h'.get? b=some u) (heo:∃u,h'.get? e=some u):Un fs ex H (upd H x o) h h':=by
 have hx:∀b,H b=none→b≠x:=λb n z=>by subst z;rw[n] at mu;exact mu
 have hb:∀b,H b=none→b≠e:=λb n z=>by
  subst z;rcases he with r | r
  ·exact hx b n r
  ·rw[n] at r;cases r
 have hm:∀b u,H b=some u→¬Mut (some u)→b≠x:=λb u q nm z=>by subst z;rw[q] at mu;exact nm mu
 refine ⟨λb u q n _ _=>k b u (hb b n) q,λb u q n _ _=>⟨u.slots,k b u (hb b n) q⟩,λb u q n _=>by rw[af (hx b n)];exact n,λb u q _=>?_,
  λb xs q=>by rw[af (hm b _ q λz=>z)];exact q,λb u xs q=>by rw[af (hm b _ q λz=>z)];exact q,λb ps q=>⟨#[],by rw[af (hm b _ q λz=>z),q];simp⟩⟩
 by_cases hbe:b=e
 ·subst hbe;exact heo
 ·exact ⟨u,k b u hbe q⟩
end
noncomputable def trk (h:Heap) (H:Hp):List Addr:=(ab3 h.objs.size).filter λa=>(H a).isSome
noncomputable def t4 (h:Heap) (H:Hp):Heap:=PySem.W.hideAll h (trk h H)
theorem Ax (h:Heap) (H:Hp):(t4 h H).objs.size=h.objs.size:=PySem.W.hideAll_size _ _
theorem Cu {h:Heap} {H:Hp} {b:Addr} {o:Obj} (e:h.get? b=some o) (n:H b=none):(t4 h H).get? b=some o:=
 PySem.W.hideAll_get _ e λhm=>by
  have q:(H b).isSome=true:=(List.mem_filter.mp hm).2;rw[n] at q;simp at q
theorem Gy {h:Heap} {H:Hp} {b:Addr} {o:Obj} (e:(t4 h H).get? b=some o):h.get? b=some o∧H b=none:=by
 have e':h.get? b=some o:=PySem.W.of_hideAll (trk h H) e;refine ⟨e',?_⟩;cases q:H b with
 | none=>rfl
 | some x=>
  have hm:b∈trk h H:=List.mem_filter.mpr ⟨List.mem_range.mpr (Heap.lt_size e'),by simp[q]⟩;have z:(t4 h H).get? b=none:=PySem.W.hideAll_none (trk h H) hm;rw[z] at e;cases e
noncomputable def Fp (g h:Heap) (L:Addr):List (Addr×Obj):=(ab3 h.objs.size).filterMap λa=>if a=L∨(g.get? a).isSome=true then none else (h.get? a).map λo=>(a,o)
noncomputable def rest (g h:Heap) (L d:Addr):List (Addr×Obj):=(Fp g h L).filter λp=>decide (p.1≠d)
end L2
namespace L2
open PySem PySem.Spec PyProof.Rows
structure Mod (K:PySem.W.Frag) (mg:Str→Option Value) (base:Heap):Prop where
 kin:K.In base
 glob:base.Ns mainGlobals mg
 blt:∃mb,base.Ns builtinsNs mb∧∀x:Str,x≠"__name__"→mb x=bootBuiltins x
 nolimit:base.NoLimit
structure Cx where
 prog:Program
 w:World
 K:PySem.W.Frag
 mg:Str→Option Value
 base:Heap
 A:Around
 N:List Str
 s₀:Shared
 H₀:Hp
 env:Env
 outer:List Env
 stack:List Env
 ex:List Addr
 fn:Str→Bool
 calm:Bool
 pn:List (Addr×Obj)
 xe:Value→Shared→Prop
noncomputable def frs (l:List Env):List Addr:=l.filterMap (·.frame)
noncomputable abbrev Cx.fs (X:Cx):List Addr:=frs X.outer
def Vis (sc:Scope) (x:Str):Prop:=sc.names.lookup x=some .local∨sc.names.lookup x=some .cell∨sc.names.lookup x=some .free
def Loc (sc:Scope) (x:Str):Prop:=sc.names.lookup x=some .local∨sc.names.lookup x=some .cell
def Look (env:Env) (h:Heap) (m:Str→Option Value) (x:Str) (u:Value):Prop:=
 (env.kindOf x=some .local∧m x=some u)∨((env.kindOf x=some .cell∨env.kindOf x=some .free)∧∃c,env.cells.lookup x=some c∧h.IsCell c (some u))
structure Cx.Ok (X:Cx):Prop where
 mod:Mod X.K X.mg X.base
 kind:X.env.scope.kind=.function
 glob:X.env.globals=mainGlobals
 blt:X.env.builtins=builtinsNs
 above:X.s₀.heap.objs.size≤X.env.locals
 inj:∀x y c,X.env.cells.lookup x=some c→X.env.cells.lookup y=some c→x=y
 has:∀x,(X.env.kindOf x=some .cell∨X.env.kindOf x=some .free)→∃c,X.env.cells.lookup x=some c
 cab:∀x c,X.fn x=true→X.env.cells.lookup x=some c→X.s₀.heap.objs.size≤c
 hd:X.calm=true→X.A.handled=none
 frames:X.A.frames=some X.stack
 stk:X.stack=X.outer∨(X.stack=X.env::X.outer∧X.env.frame=some X.env.locals)
 exf:∀b∈X.ex,b≠X.env.locals∧∀x c,X.env.cells.lookup x=some c→c≠b
 bs:∀b o,X.base.get? b=some o→X.s₀.heap.get? b=some o∧X.H₀ b=none
 bsz:X.base.objs.size≤X.s₀.heap.objs.size
 noex:∀b o,X.base.get? b=some o→b∉X.ex
 exfs:∀b∈X.ex,b∉X.fs
 la:X.s₀.heap.FunFrames X.base X.outer
 frf:∀b∈X.fs,X.H₀ b=none
structure Inv (X:Cx) (pins:List (Addr×Obj)) (σ:List (Option V)) (H:Hp) (s:Shared):Prop where
 ok:X.Ok
 os:s.os=X.s₀.os
 bare:AllBare s.gens
 base:Un X.fs X.ex X.H₀ H X.s₀.heap s.heap
 loc:∃m,s.heap.Ns X.env.locals m∧∀(i:Nat) (x:Str) (v:V),X.N[i]?=some x→σ[i]?=some (some v)→Vis X.env.scope x→∃u,RelV v u∧Look X.env s.heap m x u
 cell:∀x c,X.env.cells.lookup x=some c→∃v,s.heap.IsCell c v
 free:H X.env.locals=none
 freeC:∀x c,X.env.cells.lookup x=some c→H c=none
 pin:∀p∈X.pn++pins,s.heap.get? p.1=some p.2∧H p.1=none∧p.1≠X.env.locals∧p.1∉X.fs∧∀v,p.2.data≠.cell v
 hok:HOk X.prog X.w H s.heap
 len:σ.length=X.N.length
section
variable {X:Cx} {pins:List (Addr×Obj)} {σ:List (Option V)} {H H':Hp} {s:Shared} {h':Heap}
theorem Cx.Ok.nofr (ok:X.Ok) {b:Addr} {o:Obj} (e:X.base.get? b=some o):b∉X.fs:=λhb=>by
 have:=(ok.la.mem hb).1;rw[e] at this;cases this
theorem Inv.bs (I:Inv X pins σ H s):∀b o,X.base.get? b=some o→s.heap.get? b=some o∧H b=none:=λb o e=>
 ⟨I.base.keep b o (I.ok.bs b o e).1 (I.ok.bs b o e).2 (I.ok.nofr e) (I.ok.noex b o e),I.base.free b o (I.ok.bs b o e).1 (I.ok.bs b o e).2 (I.ok.noex b o e)⟩
theorem Inv.bk (I:Inv X pins σ H s):∀b o,X.base.get? b=some o→s.heap.get? b=some o:=λb o e=>(I.bs b o e).1
theorem Inv.mod (I:Inv X pins σ H s):Mod X.K X.mg X.base:=I.ok.mod
theorem Inv.kIn (I:Inv X pins σ H s):X.K.In s.heap:=I.ok.mod.kin.keeps I.bk
theorem Inv.lt (I:Inv X pins σ H s):X.env.locals < s.heap.objs.size:=let ⟨_,hn,_⟩:=I.loc;hn.lt
theorem Inv.sz (I:Inv X pins σ H s):X.s₀.heap.objs.size≤s.heap.objs.size:=aaw I.ok.above (abq I.lt)
theorem Inv.nofs (I:Inv X pins σ H s) {a:Addr} (h:s.heap.objs.size≤a):a∉X.fs:=λhb=>by
 obtain ⟨_,o,ho,_⟩:=I.ok.la.mem hb;exact absurd (aaf (Heap.lt_size ho) (aaw I.sz h)) (ab6 _)
theorem Inv.cne (I:Inv X pins σ H s):∀x c,X.env.cells.lookup x=some c→c≠X.env.locals:=λx c e z=>by
 obtain ⟨v,o,ho,hd⟩:=I.cell x c e;obtain ⟨m,⟨o',es,ep,ho',hd',_⟩,_⟩:=I.loc;rw[z,ho'] at ho;cases ho;rw[hd'] at hd;cases hd
theorem Inv.la (I:Inv X pins σ H s):s.heap.FunFrames X.base X.outer:=by
 have all:∀(l:List Env),(∀b∈frs l,b∈X.fs)→X.s₀.heap.FunFrames X.base l→s.heap.FunFrames X.base l:=by
  intro l;induction l with
  | nil=>intro _ _;trivial
  | cons env r ih=>
   intro hs hl;obtain ⟨hk,⟨L,o,hf,hn,ho,hd⟩,hr⟩:=hl;have hL:L∈X.fs:=hs L (by unfold frs;rw[acb,hf];exact aal);obtain ⟨sl,e⟩:=I.base.slot L o ho (I.ok.frf L hL) hL λz=>I.ok.exfs L z hL;exact ⟨hk,⟨L,_,hf,hn,e,hd⟩,ih (λb hb=>hs b (by unfold frs;rw[acb,hf];exact aak _ hb)) hr⟩
 exact all X.outer (λ_ hb=>hb) I.ok.la
theorem Inv.stack (I:Inv X pins σ H s):s.heap.FunFrames X.base X.stack:=by
 rcases I.ok.stk with e | ⟨e,hf⟩
 ·rw[e];exact I.la
 ·rw[e];obtain ⟨m,hn,_⟩:=I.loc;refine .cons (by rw[I.ok.kind];decide) hf hn ?_ I.la;exact Heap.get?_none_of_le (aaw I.ok.bsz I.ok.above)
theorem Inv.xj (I:Inv X pins σ H s):∀b∈frs X.stack,b∈X.env.locals::X.fs:=λb hb=>by
 rcases I.ok.stk with e | ⟨e,hf⟩
 ·rw[e] at hb;exact aak _ hb
 ·rw[e] at hb;unfold frs at hb;rw[acb,hf] at hb;exact hb
theorem Inv.rm (I:Inv X pins σ H s):∀b∈frs X.stack,H b=none:=λb hb=>by
 rcases List.mem_cons.mp (I.xj b hb) with e | hb
 ·rw[e];exact I.free
 ·obtain ⟨_,o,ho,_⟩:=I.ok.la.mem hb;exact I.base.free b o ho (I.ok.frf b hb) λz=>I.ok.exfs b z hb
theorem Inv.step {g':Array GenState} {t':Nat} {d':Drawn} {ch:List Addr} (I:Inv X pins σ H s)
  (hch:∀b∈ch,(b∈X.ex∨X.s₀.heap.objs.size≤b)∧b≠X.env.locals∧(∀x c,X.env.cells.lookup x=some c→c≠b)∧∀p∈X.pn++pins,p.1≠b)
  (keep:∀b o,b≠X.env.locals→b∉X.fs→b∉ch→s.heap.get? b=some o→H b=none→h'.get? b=some o)
  (slot:∀b o,b≠X.env.locals→b∈X.fs→b∉ch→s.heap.get? b=some o→H b=none→∃sl,h'.get? b=some { o with slots:=sl }) (free:∀b o,b∉ch→s.heap.get? b=some o→H b=none→H' b=none)
  (there:∀b o,b∉ch→s.heap.get? b=some o→∃o',h'.get? b=some o')
  (tups:∀b xs,H b=some (.tup xs)→H' b=some (.tup xs)) (frzs:∀b o u,H b=some (.frz o u)→H' b=some (.frz o u)) (tbls:∀b ps,H b=some (.tbl ps)→∃more,H' b=some (.tbl (ps++more)))
  (ns:∀m,s.heap.Ns X.env.locals m→h'.Ns X.env.locals m) (hok:HOk X.prog X.w H' h') (hg:AllBare g'):
  Inv X pins σ H' { s with heap:=h',gens:=g',drawn:=d',toks:=t' }:=by
 have neL:∀b o,X.s₀.heap.get? b=some o→b≠X.env.locals:=λb o e=>aap (aaf (Heap.lt_size e) I.ok.above);have neC:∀b o,X.s₀.heap.get? b=some o→b∉X.ex→b∉ch:=λb o e hx hb=>by
  rcases (hch b hb).1 with z | z
  ·exact hx z
  ·exact absurd (aaf (Heap.lt_size e) z) (ab6 _)
 have cellK:∀x c,X.env.cells.lookup x=some c→∀v,s.heap.IsCell c v→h'.IsCell c v:=λx c e v ⟨o,ho,hd⟩=>by
  have nch:c∉ch:=λz=>(hch c z).2.2.1 x c e rfl;by_cases hc:c∈X.fs
  ·obtain ⟨sl,q⟩:=slot c o (I.cne x c e) hc nch ho (I.freeC x c e);exact ⟨_,q,hd⟩
  ·exact ⟨o,keep c o (I.cne x c e) hc nch ho (I.freeC x c e),hd⟩
 refine ⟨I.ok,I.os,hg,⟨λb o e n hb hx=>?_,λb o e n hb hx=>?_,λb o e n hx=>?_,λb o e hx=>?_,λb xs e=>tups b xs (I.base.tups b xs e),λb o xs e=>frzs b o xs (I.base.frzs b o xs e),λb ps e=>?_⟩,?_,λx c e=>?_,?_,λx c e=>?_,λp hp=>?_,hok,I.len⟩
 ·exact keep b o (neL b o e) hb (neC b o e hx) (I.base.keep b o e n hb hx) (I.base.free b o e n hx)
 ·obtain ⟨sl,e1⟩:=I.base.slot b o e n hb hx;obtain ⟨sl',e2⟩:=slot b _ (neL b o e) hb (neC b o e hx) e1 (I.base.free b o e n hx);exact ⟨sl',e2⟩
 ·obtain ⟨o',e1⟩:=I.base.there b o e hx;exact free b o' (neC b o e hx) e1 (I.base.free b o e n hx)
 ·obtain ⟨o',e1⟩:=I.base.there b o e hx;exact there b o' (neC b o e hx) e1
 ·obtain ⟨m1,e1⟩:=I.base.tbls b ps e;obtain ⟨m2,e2⟩:=tbls b _ e1;exact ⟨m1++m2,by rw[e2,Array.append_assoc]⟩
 ·obtain ⟨m,hn,hl⟩:=I.loc;refine ⟨m,ns m hn,λi x v e1 e2 e3=>?_⟩;obtain ⟨u,r,l⟩:=hl i x v e1 e2 e3;refine ⟨u,r,?_⟩;rcases l with l | ⟨k,c,e,z⟩
  ·exact .inl l
  ·exact .inr ⟨k,c,e,cellK x c e _ z⟩
 ·obtain ⟨v,z⟩:=I.cell x c e;exact ⟨v,cellK x c e v z⟩
 ·obtain ⟨m,⟨o,_,_,ho,_⟩,_⟩:=I.loc;exact free _ o (λz=>(hch _ z).2.1 rfl) ho I.free
 ·obtain ⟨v,o,ho,hd⟩:=I.cell x c e;exact free c o (λz=>(hch c z).2.2.1 x c e rfl) ho (I.freeC x c e)
 ·obtain ⟨e,n,ne,nf,d⟩:=I.pin p hp;have nch:p.1∉ch:=λz=>(hch p.1 z).2.2.2 p hp rfl;exact ⟨keep p.1 p.2 ne nf nch e n,free p.1 p.2 nch e n,ne,nf,d⟩
theorem Inv.un {t':Nat} (I:Inv X pins σ H s) (u:Un X.fs [] H H' s.heap h') (hok:HOk X.prog X.w H' h'):Inv X pins σ H' { s with heap:=h',toks:=t' }:=by
 obtain ⟨m,⟨o,es,ep,ho,r⟩,_⟩:=id I.loc;obtain ⟨sl,hL⟩:=u.any ho I.free (by simp);exact I.step (g':=s.gens) (d':=s.drawn) (ch:=[]) (λ_ z=>nomatch z) (λb o _ hb _ e n=>u.keep b o e n hb (by simp)) (λb o _ hb _ e n=>u.slot b o e n hb (by simp)) (λb o _ e n=>u.free b o e n (by simp)) (λb o _ e=>u.there b o e (by simp)) u.tups u.frzs u.tbls (λm' hm=>by
  obtain ⟨o',es',ep',ho',r'⟩:=hm;rw[ho] at ho';cases ho';exact ⟨_,es',ep',hL,r'⟩) hok I.bare
theorem Inv.call {g':Array GenState} {t':Nat} {d':Drawn} {ch:List Addr} (I:Inv X pins σ H s) (u:Un (frs X.stack) ch H H' s.heap h') (hok:HOk X.prog X.w H' h') (hg:AllBare g')
  (hch:∀b∈ch,(b∈X.ex∨X.s₀.heap.objs.size≤b)∧b≠X.env.locals∧(∀x c,X.env.cells.lookup x=some c→c≠b)∧∀p∈X.pn++pins,p.1≠b):
  Inv X pins σ H' { s with heap:=h',gens:=g',drawn:=d',toks:=t' }:=by
 obtain ⟨m,⟨o,es,ep,ho,r⟩,_⟩:=id I.loc;obtain ⟨sl,hL⟩:=u.any ho I.free λz=>(hch _ z).2.1 rfl;exact I.step (ch:=ch) hch (λb o hL hb hc e n=>u.keep b o e n (λz=>(List.mem_cons.mp (I.xj b z)).elim hL hb) hc) (λb o _ _ hc e n=>u.any e n hc) (λb o hc e n=>u.free b o e n hc) (λb o hc e=>u.there b o e hc) u.tups u.frzs u.tbls (λm' hm=>by
  obtain ⟨o',es',ep',ho',r'⟩:=hm;rw[ho] at ho';cases ho';exact ⟨_,es',ep',hL,r'⟩) hok hg
theorem Inv.turned {t':Nat} {it:Addr} (I:Inv X pins σ H s) (k:∀b o,b≠it→s.heap.get? b=some o→h'.get? b=some o) (hn:H it=none) (hL:it≠X.env.locals)
  (h1:it∈X.ex∨X.s₀.heap.objs.size≤it) (h2:∀x c,X.env.cells.lookup x=some c→c≠it) (h3:∀p∈X.pn++pins,p.1≠it):Inv X pins σ H { s with heap:=h',toks:=t' }:=by
 have nit:∀b u,H b=some u→b≠it:=λb u e z=>by rw[z,hn] at e;cases e
 refine I.step (g':=s.gens) (d':=s.drawn) (ch:=[it]) (λb hb=>?_) (λb o _ _ hc e _=>k b o (λz=>hc (by simp[z])) e) (λb o _ _ hc e _=>⟨o.slots,k b o (λz=>hc (by simp[z])) e⟩) (λ_ _ _ _ n=>n)
  (λb o hc e=>⟨o,k b o (λz=>hc (by simp[z])) e⟩) (λ_ _ e=>e) (λ_ _ _ e=>e) (λb ps e=>⟨#[],by rw[e];simp⟩) (λm hm=>?_) (λb u e=>?_) I.bare
 ·have e:b=it:=by simpa using hb
  subst e;exact ⟨h1,hL,h2,h3⟩
 ·obtain ⟨o,es,ep,ho,r⟩:=hm;exact ⟨o,es,ep,k _ o (Ne.symm hL) ho,r⟩
 ·refine (I.hok b u e).tm (λc v hc q=>k c v ?_ q) (λ_ q=>q) λ_ _ q=>q;rcases hc with z | z
  ·rw[z];exact nit b u e
  ·exact nit c _ z
theorem Inv.tok (I:Inv X pins σ H s) (t:Nat):Inv X pins σ H { s with toks:=t }:=I.un (h':=s.heap) (t':=t) Un.refl I.hok
theorem Inv.kept {t':Nat} (I:Inv X pins σ H s) (k:∀b u,s.heap.get? b=some u→h'.get? b=some u):Inv X pins σ H { s with heap:=h',toks:=t' }:=I.un (Un.kept k) (I.hok.kept k)
theorem Inv.laid {a:Addr} {o:HO} {t':Nat} (I:Inv X pins σ H s) (k:∀b u,s.heap.get? b=some u→h'.get? b=some u) (hp:s.heap.objs.size≤a) (new:bz X.prog X.w (upd H a o) h' a o):
  Inv X pins σ (upd H a o) { s with heap:=h',toks:=t' }:=I.un (Un.laid k hp (I.hok.fresh hp)) (I.hok.laid k hp new)
theorem Inv.write {x e:Addr} {o:HO} {t':Nat} (I:Inv X pins σ H s) (mu:Mut (H x)) (he:e=x∨H e=some (.own x)) (k:∀b u,b≠e→s.heap.get? b=some u→h'.get? b=some u) (heo:∃u,h'.get? e=some u)
  (new:bz X.prog X.w (upd H x o) h' x o):Inv X pins σ (upd H x o) { s with heap:=h',toks:=t' }:=I.un (Un.write mu he k heo) (I.hok.write mu he k heo new)
theorem Inv.weak {σ':List (Option V)} (I:Inv X pins σ H s) (hl:σ'.length=σ.length) (w:∀(i:Nat) v,σ'[i]?=some (some v)→σ[i]?=some (some v)):Inv X pins σ' H s:=
 ⟨I.ok,I.os,I.bare,I.base,let ⟨m,hn,hl'⟩:=I.loc;⟨m,hn,λi x v e1 e2 e3=>hl' i x v e1 (w i v e2) e3⟩,I.cell,I.free,I.freeC,I.pin,I.hok,hl.trans I.len⟩
theorem Inv.yf {pins':List (Addr×Obj)} (I:Inv X pins σ H s) (h:∀p∈pins',s.heap.get? p.1=some p.2∧H p.1=none∧p.1≠X.env.locals∧p.1∉X.fs∧∀v,p.2.data≠.cell v):Inv X pins' σ H s:=
 ⟨I.ok,I.os,I.bare,I.base,I.loc,I.cell,I.free,I.freeC,λp hp=>(List.mem_append.mp hp).elim (λz=>I.pin p (abu _ z)) (h p),I.hok,I.len⟩
theorem ou {N:List Str} (hN:N.Nodup) {i j:Nat} {x:Str} (a:N[i]?=some x) (b:N[j]?=some x):i=j:=by
 obtain ⟨h1,e1⟩:=List.getElem?_eq_some_iff.mp a;obtain ⟨h2,e2⟩:=List.getElem?_eq_some_iff.mp b;exact (aco hN).mp (e1.trans e2.symm)
theorem qq {M:Model} {A:Around} {E:Value→Shared→Prop} {i:Nat} {x:Str} {v:V} {u:Value} {Q:Unit→Shared→Prop} (I:Inv X pins σ H s) (hN:X.N.Nodup) (hi:X.N[i]?=some x) (hx:Loc X.env.scope x) (r:RelV v u)
  (h:∀s',Inv X pins (σ.set i (some v)) H s'→(∃a,Heap.SameBut a s.heap s'.heap∧(a=X.env.locals∨X.env.cells.lookup x=some a))→Q () s') (hf:X.fn x=true∨X.env.scope.names.lookup x=some .local:=by first | exact .inl rfl | exact .inr rfl | assumption):wpAny M A (storeName X.env x u) Q E s:=by
 obtain ⟨m,hn,hl⟩:=id I.loc;have hcls:(X.env.scope.kind==.class||(X.env.scope.kind==.module&&X.env.locals !=X.env.globals))=false:=by rw[I.ok.kind];rfl
 have hiσ:i < σ.length:=by rw[I.len];exact (List.getElem?_eq_some_iff.mp hi).1
 have cne:=I.cne;have tracked:∀{a:Addr} {h':Heap},(∃o,s.heap.get? a=some o∧H a=none)→Heap.SameBut a s.heap h'→HOk X.prog X.w H h':=λ{a h'} ha hs b ob e=>by
  obtain ⟨_,_,hfree⟩:=ha;refine (I.hok b ob e).tm (λc w' hc q=>(hs.2 c ?_).trans q) (λ_ q=>q) λ_ _ q=>q;rintro rfl;rcases hc with rfl | hc
  ·rw[hfree] at e;cases e
  ·rw[hfree] at hc;cases hc
 rcases hx with hk | hk
 ·refine wpAny_storeName_local hk hn (λh' hn' hs=>?_) hcls;obtain ⟨oL,_,_,hoL,_⟩:=id hn;refine h _ ⟨I.ok,I.os,I.bare,⟨λb o e n hb hx=>?_,λb o e n hb hx=>?_,I.base.free,λb o e hx=>?_,I.base.tups,I.base.frzs,I.base.tbls⟩,⟨_,hn',λj y v' e1 e2 e3=>?_⟩,λy c e=>?_,I.free,I.freeC,λp hp=>?_,tracked ⟨oL,hoL,I.free⟩ hs,by simpa using I.len⟩ ⟨_,hs,.inl rfl⟩
  ·exact (hs.2 b (aap (aaf (Heap.lt_size e) I.ok.above))).trans (I.base.keep b o e n hb hx)
  ·obtain ⟨sl,e1⟩:=I.base.slot b o e n hb hx;exact ⟨sl,(hs.2 b (aap (aaf (Heap.lt_size e) I.ok.above))).trans e1⟩
  ·obtain ⟨o',e1⟩:=I.base.there b o e hx;exact ⟨o',(hs.2 b (aap (aaf (Heap.lt_size e) I.ok.above))).trans e1⟩
  ·by_cases hj:j=i
   ·subst hj;rw[hi] at e1;cases e1;rw[ack hiσ] at e2;cases e2
    exact ⟨u,r,.inl ⟨hk,by simp⟩⟩
   ·rw[acq (Ne.symm hj)] at e2;obtain ⟨u',r',q⟩:=hl j y v' e1 e2 e3;refine ⟨u',r',?_⟩;rcases q with ⟨k,e⟩ | ⟨k,c,e,z⟩
    ·refine .inl ⟨k,?_⟩;have:y≠x:=λe=>hj (ou hN e1 (e ▸ hi));simp[this,e]
    ·exact .inr ⟨k,c,e,z.sameBut hs (cne y c e)⟩
  ·obtain ⟨w',z⟩:=I.cell y c e;exact ⟨w',z.sameBut hs (cne y c e)⟩
  ·obtain ⟨e,n,ne,nf,d⟩:=I.pin p hp;exact ⟨(hs.2 p.1 ne).trans e,n,ne,nf,d⟩
 ·have hfn:X.fn x=true:=by
   rcases hf with z | z
   ·exact z
   ·rw[z] at hk;cases hk
  obtain ⟨c,hc⟩:=I.ok.has x (.inl hk);obtain ⟨w',z⟩:=I.cell x c hc;refine wpAny_storeName_cell I.ok.kind hk hc z (λh' hc' hs=>?_);obtain ⟨oc,hoc,hocd⟩:=id z;refine h { s with heap:=h' } ⟨I.ok,I.os,I.bare,⟨λb o e n hb hx=>?_,λb o e n hb hx=>?_,I.base.free,λb o e hx=>?_,I.base.tups,I.base.frzs,I.base.tbls⟩,⟨m,hn.sameBut hs (Ne.symm (cne x c hc)),λj y v' e1 e2 e3=>?_⟩,λy c' e=>?_,I.free,I.freeC,λp hp=>?_,tracked ⟨oc,hoc,I.freeC x c hc⟩ hs,by simpa using I.len⟩ ⟨c,hs,.inr hc⟩
  ·exact (hs.2 b (aap (aaf (Heap.lt_size e) (I.ok.cab x c hfn hc)))).trans (I.base.keep b o e n hb hx)
  ·obtain ⟨sl,e1⟩:=I.base.slot b o e n hb hx;exact ⟨sl,(hs.2 b (aap (aaf (Heap.lt_size e) (I.ok.cab x c hfn hc)))).trans e1⟩
  ·obtain ⟨o',e1⟩:=I.base.there b o e hx;exact ⟨o',(hs.2 b (aap (aaf (Heap.lt_size e) (I.ok.cab x c hfn hc)))).trans e1⟩
  ·by_cases hj:j=i
   ·subst hj;rw[hi] at e1;cases e1;rw[ack hiσ] at e2;cases e2
    exact ⟨u,r,.inr ⟨.inl hk,c,hc,hc'⟩⟩
   ·rw[acq (Ne.symm hj)] at e2;obtain ⟨u',r',q⟩:=hl j y v' e1 e2 e3;refine ⟨u',r',?_⟩;rcases q with q | ⟨k,c',e,z'⟩
    ·exact .inl q
    ·refine .inr ⟨k,c',e,z'.sameBut hs ?_⟩;rintro rfl;exact hj (ou hN e1 (I.ok.inj _ _ _ e hc ▸ hi))
  ·by_cases hcc:c'=c
   ·subst hcc;exact ⟨_,hc'⟩
   ·obtain ⟨w2,z2⟩:=I.cell y c' e;exact ⟨w2,z2.sameBut hs hcc⟩
  ·obtain ⟨e,n,ne,nf,d⟩:=I.pin p hp;refine ⟨(hs.2 p.1 ?_).trans e,n,ne,nf,d⟩;intro q;rw[q,hoc] at e;have q':oc=p.2:=aa6 e;exact d w' (by rw[←q'];exact hocd)
theorem kg {M:Model} {A:Around} {E:Value→Shared→Prop} {i:Nat} {x:Str} {v:V} {u:Value} {Q:Unit→Shared→Prop} (I:Inv X pins σ H s) (hN:X.N.Nodup) (hi:X.N[i]?=some x) (hx:Loc X.env.scope x) (r:RelV v u)
  (h:∀s',Inv X pins (σ.set i (some v)) H s'→Q () s') (hf:X.fn x=true∨X.env.scope.names.lookup x=some .local:=by first | exact .inl rfl | exact .inr rfl | assumption):wpAny M A (storeName X.env x u) Q E s:=
 qq I hN hi hx r (λs' I' _=>h s' I') hf
theorem Inv.Df {s':Shared} {ch:List Addr} (I:Inv X pins σ H s) (ho:s'.os=s.os) (u:Un (frs X.stack) ch H H' s.heap s'.heap) (hok:HOk X.prog X.w H' s'.heap) (hg:AllBare s'.gens)
  (hch:∀b∈ch,(b∈X.ex∨X.s₀.heap.objs.size≤b)∧b≠X.env.locals∧(∀x c,X.env.cells.lookup x=some c→c≠b)∧∀p∈X.pn++pins,p.1≠b):Inv X pins σ H' s':=by
 obtain ⟨h',g',d',t',o'⟩:=s';have e:o'=s.os:=ho;subst e;exact I.call (g':=g') (t':=t') (d':=d') u hok hg hch
end
abbrev XK:=Value→Option Addr→Hp→Prop
abbrev St:=List (Option V)
abbrev VK:=V→Hp→Prop
abbrev TE:=St→Hp→VK→Prop
abbrev TT:=St→Hp→(Bool→Hp→Prop)→Prop
abbrev TA:=St→Hp→(List V→Hp→Prop)→Prop
structure Ends where
 nx:St→Hp→Prop
 rt:VK
 bk:St→Hp→Prop:=λ_ _=>False
 ct:St→Hp→Prop:=λ_ _=>False
abbrev TS:=Ends→St→Hp→Prop
def EP (X:Cx) (pins:List (Addr×Obj)) (σ:St) (Q:VK) (u:Value) (s':Shared):Prop:=∃v H',Inv X pins σ H' s'∧RelV v u∧Q v H'
def TP (X:Cx) (pins:List (Addr×Obj)) (σ:St) (Q:Bool→Hp→Prop) (b:Bool) (s':Shared):Prop:=∃H',Inv X pins σ H' s'∧Q b H'
def AP (X:Cx) (pins:List (Addr×Obj)) (σ:St) (Q:List V→Hp→Prop) (us:List Value) (s':Shared):Prop:=∃vs H',Inv X pins σ H' s'∧Vals vs us∧Q vs H'
def SP (X:Cx) (pins:List (Addr×Obj)) (D:Ends) (f:Flow) (s':Shared):Prop:=
 match f with
 | .next=>∃σ' H',Inv X pins σ' H' s'∧D.nx σ' H'
 | .brk=>∃σ' H',Inv X pins σ' H' s'∧D.bk σ' H'
 | .cont=>∃σ' H',Inv X pins σ' H' s'∧D.ct σ' H'
 | .ret u=>∃v σ' H',Inv X pins σ' H' s'∧RelV v u∧D.rt v H'
def PE (X:Cx) (e:Expr) (t:TE):Prop:=
 ∀(pins:List (Addr×Obj)) (s:Shared) (σ:St) (H:Hp) (Q:VK),Inv X pins σ H s→t σ H Q→wpAny (model X.prog X.w) X.A (eval e X.env) (EP X pins σ Q) X.xe s
def PT (X:Cx) (e:Expr) (t:TT):Prop:=
 ∀(pins:List (Addr×Obj)) (s:Shared) (σ:St) (H:Hp) (Q:Bool→Hp→Prop),Inv X pins σ H s→t σ H Q→wpAny (model X.prog X.w) X.A (isTrue e X.env (eval e X.env)) (TP X pins σ Q) X.xe s
def PW (X:Cx) (e:Expr) (t:TT):Prop:=
 ∀(whole:Sem Value) (pins:List (Addr×Obj)) (s:Shared) (σ:St) (H:Hp) (Q:Bool→Hp→Prop),Inv X pins σ H s→t σ H Q→wpAny (model X.prog X.w) X.A (isTrue e X.env whole) (TP X pins σ Q) X.xe s
theorem PW.pt {X:Cx} {e:Expr} {t:TT} (h:PW X e t):PT X e t:=h _
def PA (X:Cx) (es:List Expr) (t:TA):Prop:=
 ∀(pos:Pos) (pins:List (Addr×Obj)) (s:Shared) (σ:St) (H:Hp) (Q:List V→Hp→Prop),Inv X pins σ H s→t σ H Q→wpAny (model X.prog X.w) X.A (spliced (backTo pos (starEach es X.env))) (AP X pins σ Q) X.xe s
def PS (X:Cx) (st:Stmt) (t:TS):Prop:=
 ∀(pins:List (Addr×Obj)) (s:Shared) (σ:St) (H:Hp) (D:Ends),Inv X pins σ H s→t D σ H→wpAny (model X.prog X.w) X.A (exec st X.env) (SP X pins D) X.xe s
def PSs (X:Cx) (st:List Stmt) (t:TS):Prop:=
 ∀(pins:List (Addr×Obj)) (s:Shared) (σ:St) (H:Hp) (D:Ends),Inv X pins σ H s→t D σ H→wpAny (model X.prog X.w) X.A (execs st X.env) (SP X pins D) X.xe s
theorem thn {α:Type} {t:Sem α} {Q Q':α→Shared→Prop} {M:Model} {A:Around} {E:Value→Shared→Prop} {s:Shared} (h:wpAny M A t Q E s) (hQ:∀a s,Q a s→Q' a s):wpAny M A t Q' E s:=wpAny_mono h hQ λ_ _ x=>x
end L2
namespace L2
open PySem PySem.Spec PyProof.Rows
section
variable {X:Cx}
def tVar (i:Nat):TE:=λσ H Q=>∃v,σ[i]?=some (some v)∧Q v H
def tC (v:V):TE:=λ_ H Q=>Q v H
theorem pe_var {i:Nat} {x:Str} {pos:Pos} (hN:X.N[i]?=some x) (hv:Vis X.env.scope x) (hd:(x==("__debug__":Str))=false:=by decide) (hcd:(x==("__classdict__":Str))=false:=by decide):PE X (.Name x pos) (tVar i):=by
 intro pins s σ H Q I h;obtain ⟨v,e,h⟩:=h;obtain ⟨m,hn,hl⟩:=I.loc;obtain ⟨u,r,l⟩:=hl i x v hN e hv;have fin:EP X pins σ Q u s:=⟨v,H,I,r,h⟩;rcases l with ⟨hk,hm⟩ | ⟨hk,c,hc,hcell⟩
 ·exact wpAny_Name (wpAny_loadName_local I.ok.kind hk hn hm fin) hd
 ·rcases hk with hk | hk
  ·exact wpAny_Name (wpAny_loadName_cell I.ok.kind hk hc hcell fin) hd
  ·exact wpAny_Name (wpAny_loadName_free I.ok.kind hk hc hcell fin hcd) hd
theorem Cb {i j pos}:PE X (.Constant (.int i) j pos) (tC (.int i)):=λ_ _ _ H _ I h=>wpAny_Constant_int ⟨.int i,H,I.tok _,⟨_,rfl⟩,h⟩
theorem pe_bl {b j pos}:PE X (.Constant (.bool b) j pos) (tC (.bl b)):=λ_ _ _ H _ I h=>Constant_bool ⟨.bl b,H,I,rfl,h⟩
theorem om {j pos}:PE X (.Constant .none j pos) (tC .non):=λ_ _ _ H _ I h=>Constant_none ⟨.non,H,I,rfl,h⟩
theorem Ea {x j pos}:PE X (.Constant (.str x) j pos) (tC (.str x)):=λ_ _ _ H _ I h=>Calls.Constant_str ⟨.str x,H,I.tok _,⟨_,rfl⟩,h⟩
def Gl (X:Cx) (x:Str):Prop:=X.env.kindOf x=some .globalImplicit
theorem jz {E:Value→Shared→Prop} {pins:List (Addr×Obj)} {s:Shared} {σ:St} {H:Hp} {x:Str} {u:Value} {pos:Pos} {Q:Value→Shared→Prop} (I:Inv X pins σ H s) (hg:Gl X x) (hm:X.mg x=some u) (h:Q u s)
  (hd:(x==("__debug__":Str))=false:=by decide):wpAny (model X.prog X.w) X.A (eval (.Name x pos) X.env) Q E s:=
 Calls.Name_function_global I.ok.kind hg (Calls.loadGlobal_global (by rw[I.ok.glob];exact I.mod.glob.keeps I.bk) hm h) hd
theorem ic {E:Value→Shared→Prop} {pins:List (Addr×Obj)} {s:Shared} {σ:St} {H:Hp} {x:Str} {u:Value} {pos:Pos} {Q:Value→Shared→Prop} (I:Inv X pins σ H s) (hg:Gl X x) (hm:X.mg x=none) (hv:bootBuiltins x=some u) (h:Q u s)
  (hn:x≠"__name__":=by decide) (hd:(x==("__debug__":Str))=false:=by decide):wpAny (model X.prog X.w) X.A (eval (.Name x pos) X.env) Q E s:=by
 obtain ⟨mb,h1,h2⟩:=I.mod.blt;exact Calls.Name_function_global I.ok.kind hg (Calls.loadGlobal_builtin (by rw[I.ok.glob];exact I.mod.glob.keeps I.bk) hm (by rw[I.ok.blt];exact h1.keeps I.bk) ((h2 x hn).trans hv) h) hd
theorem Gj {x:Str} {v:V} {u:Value} {pos:Pos} (hg:Gl X x) (hm:X.mg x=some u) (r:RelV v u) (hd:(x==("__debug__":Str))=false:=by decide):PE X (.Name x pos) (tC v):=
 λ_ _ _ H _ I h=>jz I hg hm ⟨v,H,I,r,h⟩ hd
theorem Ik {x:Str} {v:V} {u:Value} {pos:Pos} (hg:Gl X x) (hm:X.mg x=none) (hv:bootBuiltins x=some u) (r:RelV v u) (hn:x≠"__name__":=by decide) (hd:(x==("__debug__":Str))=false:=by decide):PE X (.Name x pos) (tC v):=
 λ_ _ _ H _ I h=>ic I hg hm hv ⟨v,H,I,r,h⟩ hn hd
variable {a b:Expr} {ta tb:TE} {pos:Pos}
def PC (X:Cx) (op:CmpOp) (a b:Expr) (t:TE):Prop:=
 ∀(pins:List (Addr×Obj)) (s:Shared) (σ:St) (H:Hp) (Q:VK),Inv X pins σ H s→t σ H Q→
  wpAny (model X.prog X.w) X.A (eval a X.env) (λv s₁=>wpAny (model X.prog X.w) X.A (eval b X.env) (λu s₂=>wpAny (model X.prog X.w) X.A (compareOp op v u) (EP X pins σ Q) X.xe s₂) X.xe s₁) X.xe s
theorem fb (b:Expr) {op:CmpOp} (h:op≠.In) (h2:op≠.NotIn):behindInMarks op b=false:=by
 have e1:(op==CmpOp.In)=false:=by cases op <;> first | rfl | exact absurd rfl h
 have e2:(op==CmpOp.NotIn)=false:=by cases op <;> first | rfl | exact absurd rfl h2
 cases b <;> simp[behindInMarks,e1,e2]
def tIsN (ta:TE):TE:=λσ H Q=>ta σ H λx H1=>Q (.bl (decide (x=.non))) H1
def j0 (ta:TE):TE:=λσ H Q=>ta σ H λx H1=>Q (.bl (!decide (x=.non))) H1
theorem RelV.vt {x:V} {v:Value} (r:RelV x v):(v==Value.none)=decide (x=.non):=by
 cases x with
 | non=>cases r;rfl
 | bl _=>cases r;rfl
 | int _=>obtain ⟨t,rfl⟩:=r;rfl
 | str _=>obtain ⟨t,rfl⟩:=r;rfl
 | byt _=>obtain ⟨t,rfl⟩:=r;rfl
 | flt _=>obtain ⟨t,rfl⟩:=r;rfl
 | ref _=>cases r;rfl
 | ty _=>cases r;rfl
theorem E4 {j pos'} (ha:PE X a ta):PC X .Is a (.Constant .none j pos') (tIsN ta):=by
 intro pins s σ H Q I h;refine thn (ha pins s σ H _ I h) λv s1 ⟨x,H1,I1,r1,q1⟩=>?_;exact Constant_none (is_none_gen ⟨.bl _,H1,I1,by rw[r1.vt];rfl,q1⟩)
theorem su {j pos'} (ha:PE X a ta):PC X .IsNot a (.Constant .none j pos') (j0 ta):=by
 intro pins s σ H Q I h;refine thn (ha pins s σ H _ I h) λv s1 ⟨x,H1,I1,r1,q1⟩=>?_;exact Constant_none (isnot_none_gen ⟨.bl _,H1,I1,by rw[r1.vt];rfl,q1⟩)
def tB (t:TE):TT:=λσ H Q=>t σ H λx H1=>∃c,x=.bl c∧Q c H1
theorem pe_cmp {op:CmpOp} {t:TE} (h:PC X op a b t) (h1:behindInMarks op b=false:=by first | exact fb _ (by decide) (by decide) | rfl):PE X (.Compare a [op] [b] pos) t:=λpins s σ H Q I hw=>wpAny_Compare1 (h pins s σ H Q I hw) h1
theorem pt_cmp {op:CmpOp} {t:TE} (h:PC X op a b t) (h1:behindInMarks op b=false:=by first | exact fb _ (by decide) (by decide) | rfl):PT X (.Compare a [op] [b] pos) (tB t):=by
 intro pins s σ H Q I hw;refine wpAny_isTrue_Compare1 (thn (h pins s σ H _ I hw) λv s1 h1=>thn h1 λu s2 h2=>thn h2 λc s3 ⟨x,H1,I1,r1,q1⟩=>?_) h1;obtain ⟨d,rfl,q⟩:=q1;cases r1
 exact wpAny_truthy_bool ⟨H1,I1,q⟩
theorem pt_val {e:Expr} {t:TE} (h:PE X e t) (he:∀whole,isTrue e X.env whole=(do let v ←whole;standAt e.pos;holding [v] (truthy v)):=by intro _;rfl):PT X e (tB t):=by
 intro pins s σ H Q I hw;refine isTrue_plain (thn (h pins s σ H _ I hw) λv s1 ⟨x,H1,I1,r1,q1⟩=>?_) (he _);obtain ⟨d,rfl,q⟩:=q1;cases r1
 exact wpAny_truthy_bool ⟨H1,I1,q⟩
variable {tA tB':TT} {rest:List Expr}
def tAnd (t u:TT):TT:=λσ H Q=>t σ H λc H1=>if c=true then u σ H1 Q else Q false H1
def tOr (t u:TT):TT:=λσ H Q=>t σ H λc H1=>if c=true then Q true H1 else u σ H1 Q
def tNot (t:TT):TT:=λσ H Q=>t σ H λc H1=>Q (!c) H1
theorem He (ha:PT X a tA):PW X (.BoolOp .And [a] pos) tA:=by
 intro wh pins s σ H Q I h;refine isTrue_and (thn (ha pins s σ H Q I h) λc s1 e=>?_);cases c with
 | true=>exact isTrue_and_nil e
 | false=>exact e
theorem rn (ha:PT X a tA):PW X (.BoolOp .Or [a] pos) tA:=by
 intro wh pins s σ H Q I h;refine isTrue_or (thn (ha pins s σ H Q I h) λc s1 e=>?_);cases c with
 | false=>exact isTrue_or_nil e
 | true=>exact e
theorem pw_and (ha:PT X a tA) (hb:PW X (.BoolOp .And (b::rest) pos) tB'):PW X (.BoolOp .And (a::b::rest) pos) (tAnd tA tB'):=by
 intro wh pins s σ H Q I h;refine isTrue_and (thn (ha pins s σ H _ I h) λc s1 ⟨H1,I1,q1⟩=>?_);cases c with
 | true=>exact hb wh pins s1 σ H1 Q I1 q1
 | false=>exact ⟨H1,I1,q1⟩
theorem pw_or (ha:PT X a tA) (hb:PW X (.BoolOp .Or (b::rest) pos) tB'):PW X (.BoolOp .Or (a::b::rest) pos) (tOr tA tB'):=by
 intro wh pins s σ H Q I h;refine isTrue_or (thn (ha pins s σ H _ I h) λc s1 ⟨H1,I1,q1⟩=>?_);cases c with
 | true=>exact ⟨H1,I1,q1⟩
 | false=>exact hb wh pins s1 σ H1 Q I1 q1
theorem pt_not (ha:PT X a tA):PT X (.UnaryOp .Not a pos) (tNot tA):=by
 intro pins s σ H Q I h;exact isTrue_not (ha pins s σ H (λc H1=>Q (!c) H1) I h)
def tAndV (ta tb:TE):TE:=λσ H Q=>ta σ H λx H1=>∃c,x=.bl c∧if c=true then tb σ H1 Q else Q (.bl false) H1
def tOrV (ta tb:TE):TE:=λσ H Q=>ta σ H λx H1=>∃c,x=.bl c∧if c=true then Q (.bl true) H1 else tb σ H1 Q
def tNotV (ta:TE):TE:=λσ H Q=>ta σ H λx H1=>∃c,x=.bl c∧Q (.bl (!c)) H1
theorem xo {op} {t:TE} (h:PE X a t):PE X (.BoolOp op [a] pos) t:=λpins s σ H Q I hw=>BoolOp_one (h pins s σ H Q I hw)
theorem pe_and (ha:PE X a ta) (hb:PE X (.BoolOp .And (b::rest) pos) tb):PE X (.BoolOp .And (a::b::rest) pos) (tAndV ta tb):=by
 intro pins s σ H Q I h;refine BoolOp_and (thn (ha pins s σ H _ I h) λv s1 ⟨x,H1,I1,r1,q1⟩=>?_);obtain ⟨c,rfl,q1⟩:=q1;cases r1
 refine wpAny_truthy_bool ?_;cases c with
 | true=>exact hb pins s1 σ H1 Q I1 q1
 | false=>exact ⟨.bl false,H1,I1,rfl,q1⟩
theorem Es (ha:PE X a ta):PE X (.UnaryOp .Not a pos) (tNotV ta):=by
 intro pins s σ H Q I h;refine UnaryOp_ (thn (ha pins s σ H _ I h) λv s1 ⟨x,H1,I1,r1,q1⟩=>?_);obtain ⟨c,rfl,q1⟩:=q1;cases r1
 exact not_of (wpAny_truthy_bool ⟨.bl (!c),H1,I1,rfl,q1⟩)
def tIf (t:TT) (ta tb:TE):TE:=λσ H Q=>t σ H λc H1=>if c=true then ta σ H1 Q else tb σ H1 Q
theorem Du {c:Expr} (hc:PT X c tA) (ha:PE X a ta) (hb:PE X b tb):PE X (.IfExp c a b pos) (tIf tA ta tb):=by
 intro pins s σ H Q I h;refine wpAny_IfExp (thn (hc pins s σ H _ I h) λd s1 ⟨H1,I1,q1⟩=>?_);cases d with
 | true=>exact ha pins s1 σ H1 Q I1 q1
 | false=>exact hb pins s1 σ H1 Q I1 q1
end
end L2
namespace L2
open PySem PySem.Spec PyProof.Rows
def SqL (K:PySem.W.Frag) (H:Hp) (a:Addr) (xs:List V):Prop:=
 Rd H a (.lst xs)∨
  ∃(o:Obj) (its:Array Value) (n:Nat),K.lookup a=some o∧o.cls=.type "list"∧o.dict=none∧o.data=.seq its n∧its.size≤sizeLine∧Vals xs its.toList
def SqT (K:PySem.W.Frag) (H:Hp) (a:Addr) (xs:List V):Prop:=
 Rd H a (.tup xs)∨
  ∃(o:Obj) (its:Array Value) (n:Nat),K.lookup a=some o∧o.cls=.type "tuple"∧o.data=.seq its n∧its.size≤sizeLine∧Vals xs its.toList
noncomputable def absV:Value→Option V
 | .none=>some .non
 | .bool b=>some (.bl b)
 | .int i _=>some (.int i)
 | .str x _=>some (.str x)
 | .bytes b _=>some (.byt b)
 | .float b _=>some (.flt b)
 | .ref a=>some (.ref a)
 | .type n=>some (.ty n)
 | _=>none
theorem RelV.abs {x:V} {u:Value} (r:RelV x u):absV u=some x:=by
 cases x with
 | non=>cases r;rfl
 | bl _=>cases r;rfl
 | int _=>obtain ⟨t,rfl⟩:=r;rfl
 | str _=>obtain ⟨t,rfl⟩:=r;rfl
 | byt _=>obtain ⟨t,rfl⟩:=r;rfl
 | flt _=>obtain ⟨t,rfl⟩:=r;rfl
 | ref _=>cases r;rfl
 | ty _=>cases r;rfl
theorem RelV.inj {x y:V} {u:Value} (r:RelV x u) (q:RelV y u):x=y:=aa6 (r.abs.symm.trans q.abs)
theorem Vals.inj:∀{xs ys:List V} {us:List Value},Vals xs us→Vals ys us→xs=ys
 | _,_,_,.nil,.nil=>rfl
 | _,_,_,.cons r t,.cons r' t'=>by rw[r.inj r',Vals.inj t t']
section
variable {X:Cx} {pins:List (Addr×Obj)} {σ:St} {H:Hp} {s:Shared} {a:Addr} {xs ys:List V}
theorem SqL.of {K:PySem.W.Frag} (h:H a=some (.lst xs)):SqL K H a xs:=.inl (.inl h)
theorem SqT.of {K:PySem.W.Frag} (h:H a=some (.tup xs)):SqT K H a xs:=.inl (.inl h)
theorem Inv.list (I:Inv X pins σ H s) (h:SqL X.K H a xs):∃its:List Value,Vals xs its∧PlainL s.heap a its.toArray∧xs.length≤sizeLine:=by
 rcases h with h | ⟨o,its,n,hk,hc,hd,hs,hz,r⟩
 ·obtain ⟨z,its,n,r,e⟩:=h.ok I.hok;exact ⟨its,r,⟨_,n,e,rfl,rfl,rfl⟩,z⟩
 ·refine ⟨its.toList,r,⟨o,n,I.kIn a o hk,hc,hd,by simpa using hs⟩,?_⟩;have e:=r.length;simp only[abx] at e;omega
theorem Inv.tuple (I:Inv X pins σ H s) (h:SqT X.K H a xs):∃its:List Value,Vals xs its∧IsTup s.heap a its.toArray∧xs.length≤sizeLine:=by
 rcases h with h | ⟨o,its,n,hk,hc,hs,hz,r⟩
 ·obtain ⟨z,its,r,p⟩:=h.ok I.hok;exact ⟨its,r,p.tup,z⟩
 ·refine ⟨its.toList,r,⟨o,I.kIn a o hk,hc,n,by simpa using hs⟩,?_⟩;have e:=r.length;simp only[abx] at e;omega
theorem Inv.Ef (I:Inv X pins σ H s) (h:SqL X.K H a xs) (h':SqL X.K H a ys):xs=ys:=by
 obtain ⟨its,r,⟨o,n,e,_,_,d⟩,_⟩:=I.list h;obtain ⟨its',r',⟨o',n',e',_,_,d'⟩,_⟩:=I.list h';rw[e] at e';cases e';rw[d] at d';injection d' with d1 _
 have:its=its':=by simpa using congrArg Array.toList d1
 subst this;exact r.inj r'
theorem Inv.Bh (I:Inv X pins σ H s) (h:SqT X.K H a xs) (h':SqT X.K H a ys):xs=ys:=by
 obtain ⟨its,r,⟨o,e,_,n,d⟩,_⟩:=I.tuple h;obtain ⟨its',r',⟨o',e',_,n',d'⟩,_⟩:=I.tuple h';rw[e] at e';cases e';rw[d] at d';injection d' with d1 _
 have:its=its':=by simpa using congrArg Array.toList d1
 subst this;exact r.inj r'
end
noncomputable abbrev Cx.jt (X:Cx) (E:Value→Shared→Prop):Cx:={ X with xe:=E }
noncomputable abbrev Cx.nox (X:Cx):Cx:=X.jt λ_ _=>False
theorem Cx.Ok.jt {X:Cx} (ok:X.Ok) (E:Value→Shared→Prop):(X.jt E).Ok:=
 ⟨ok.mod,ok.kind,ok.glob,ok.blt,ok.above,ok.inj,ok.has,ok.cab,ok.hd,ok.frames,ok.stk,ok.exf,ok.bs,ok.bsz,ok.noex,ok.exfs,ok.la,ok.frf⟩
theorem Cx.Ok.cy {X:Cx} {E:Value→Shared→Prop} (ok:(X.jt E).Ok):X.Ok:=
 ⟨ok.mod,ok.kind,ok.glob,ok.blt,ok.above,ok.inj,ok.has,ok.cab,ok.hd,ok.frames,ok.stk,ok.exf,ok.bs,ok.bsz,ok.noex,ok.exfs,ok.la,ok.frf⟩
section
variable {X:Cx} {pins:List (Addr×Obj)} {σ:St} {H:Hp} {s:Shared} {E:Value→Shared→Prop}
theorem Inv.jt (I:Inv X pins σ H s) (E:Value→Shared→Prop):Inv (X.jt E) pins σ H s:=⟨I.ok.jt E,I.os,I.bare,I.base,I.loc,I.cell,I.free,I.freeC,I.pin,I.hok,I.len⟩
theorem Inv.cy (I:Inv (X.jt E) pins σ H s):Inv X pins σ H s:=⟨I.ok.cy,I.os,I.bare,I.base,I.loc,I.cell,I.free,I.freeC,I.pin,I.hok,I.len⟩
theorem SP.cy {D:Ends} {f:Flow} {s':Shared} (h:SP (X.jt E) pins D f s'):SP X pins D f s':=by
 cases f with
 | next=>obtain ⟨σ',H',I,q⟩:=h;exact ⟨σ',H',I.cy,q⟩
 | brk=>obtain ⟨σ',H',I,q⟩:=h;exact ⟨σ',H',I.cy,q⟩
 | cont=>obtain ⟨σ',H',I,q⟩:=h;exact ⟨σ',H',I.cy,q⟩
 | ret u=>obtain ⟨v,σ',H',I,r,q⟩:=h;exact ⟨v,σ',H',I.cy,r,q⟩
theorem PSs.nox {st:List Stmt} {t:TS} (h:PSs X.nox st t):PSs X st t:=λpins s σ H D I hw=>
 wpAny_mono (h pins s σ H D (I.jt _) hw) (λ_ _ q=>q.cy) λ_ _ z=>False.elim z
end
section
variable {X:Cx} {st:Stmt} {rest:List Stmt} {t u:TS} {e:Expr} {te:TE} {pos:Pos}
def tNext:TS:=λD σ H=>D.nx σ H
def tSeq (t u:TS):TS:=λD σ H=>t { D with nx:=u D } σ H
theorem Gq:PSs X [] tNext:=λ_ _ σ H _ I h=>wpAny_execs_nil ⟨σ,H,I,h⟩
theorem Fh (h1:PS X st t) (h2:PSs X rest u):PSs X (st::rest) (tSeq t u):=by
 intro pins s σ H D I h;refine wpAny_execs_cons (thn (h1 pins s σ H { D with nx:=u D } I h) λf s1 q=>?_);cases f with
 | next=>
  obtain ⟨σ',H',I',q⟩:=q;exact h2 pins s1 σ' H' D I' q
 | ret v=>exact q
 | brk=>exact q
 | cont=>exact q
theorem G4 (h1:PS X st t):PSs X [st] t:=by
 intro pins s σ H D I h;refine wpAny_execs_cons (thn (h1 pins s σ H D I h) λf s1 q=>?_);cases f with
 | next=>exact wpAny_execs_nil q
 | ret v=>exact q
 | brk=>exact q
 | cont=>exact q
def tCont:TS:=λD σ H=>D.ct σ H
theorem vf:PS X (.Continue pos) tCont:=λ_ _ σ H _ I h=>wpAny_Continue ⟨σ,H,I,h⟩
theorem Inv.quiet {pins:List (Addr×Obj)} {σ:St} {H:Hp} {s:Shared} (I:Inv X pins σ H s):interactive X.env=false:=by simp[interactive,I.ok.kind]
def tDrop (te:TE):TS:=λD σ H=>te σ H λ_ H1=>D.nx σ H1
theorem Fo (he:PE X e te) (hs:swapsWith e none pos.line X.env=pure false:=by rfl):PS X (.Expr e pos) (tDrop te):=by
 intro pins s σ H D I h;exact wpAny_Expr_any (thn (he pins s σ H _ I h) λv s1 ⟨x,H1,I1,r1,q1⟩=>⟨σ,H1,I1,q1⟩) I.quiet hs
def tRet (te:TE):TS:=λD σ H=>te σ H D.rt
theorem ps_ret (he:PE X e te):PS X (.Return (some e) pos) (tRet te):=by
 intro pins s σ H D I h;exact wpAny_Return_some (thn (he pins s σ H _ I h) λv s1 ⟨x,H1,I1,r1,q1⟩=>⟨x,σ,H1,I1,r1,q1⟩)
def tRetN:TS:=λD _ H=>D.rt .non H
def tIfS (c:TT) (t u:TS):TS:=λD σ H=>c σ H λb H1=>if b=true then t D σ H1 else u D σ H1
theorem ps_if {c:Expr} {a b:List Stmt} {tc:TT} (hc:PT X c tc) (ha:PSs X a t) (hb:PSs X b u):PS X (.If c a b pos) (tIfS tc t u):=by
 intro pins s σ H D I h;refine wpAny_If (thn (hc pins s σ H _ I h) λd s1 ⟨H1,I1,q1⟩=>?_);cases d with
 | true=>exact ha pins s1 σ H1 D I1 q1
 | false=>exact hb pins s1 σ H1 D I1 q1
end
abbrev TG:=V→St→Hp→(St→Hp→Prop)→Prop
abbrev TGs:=List V→St→Hp→(St→Hp→Prop)→Prop
def PG (X:Cx) (target:Expr) (t:TG):Prop:=
 ∀(pins:List (Addr×Obj)) (s:Shared) (σ:St) (H:Hp) (v:V) (u:Value) (Q:St→Hp→Prop),Inv X pins σ H s→RelV v u→t v σ H Q→
  wpAny (model X.prog X.w) X.A (assign target X.env u) (λ_ s'=>∃σ' H',Inv X pins σ' H' s'∧Q σ' H') X.xe s
def PGs (X:Cx) (ts:List Expr) (t:TGs):Prop:=
 ∀(pins:List (Addr×Obj)) (s:Shared) (σ:St) (H:Hp) (vs:List V) (us:List Value) (Q:St→Hp→Prop),Inv X pins σ H s→Vals vs us→t vs σ H Q→
  wpAny (model X.prog X.w) X.A (assignInOrder ((assignEach ts X.env).map (·.2)) us) (λ_ s'=>∃σ' H',Inv X pins σ' H' s'∧Q σ' H') X.xe s
abbrev TSet:=V→V→V→Hp→(Hp→Prop)→Prop
def PSet (X:Cx) (t:TSet):Prop:=
 ∀(pins:List (Addr×Obj)) (s:Shared) (σ:St) (H:Hp) (o i v:V) (ov iv u:Value) (Q:Hp→Prop),Inv X pins σ H s→RelV o ov→RelV i iv→RelV v u→t o i v H Q→
  wpAny (model X.prog X.w) X.A (setItem ov iv u) (λ_ s'=>∃H',Inv X pins σ H' s'∧Q H') X.xe s
section
variable {X:Cx} {pos:Pos}
def gc (i:Nat):TG:=λv σ H Q=>Q (σ.set i (some v)) H
theorem yn {i:Nat} {x:Str} (hN:X.N.Nodup) (hi:X.N[i]?=some x) (hx:Loc X.env.scope x) (hf:X.fn x=true∨X.env.scope.names.lookup x=some .local:=by first | exact .inl rfl | exact .inr rfl | assumption):PG X (.Name x pos) (gc i):=by
 intro pins s σ H v u Q I r h;exact wpAny_assign_Name (kg I hN hi hx r (λs' I'=>⟨_,H,I',h⟩) hf)
def gNil:TGs:=λvs σ H Q=>vs=[]∧Q σ H
def mx (t:TG) (u:TGs):TGs:=λvs σ H Q=>∃v r,vs=v::r∧t v σ H λσ' H'=>u r σ' H' Q
theorem kc:PGs X [] gNil:=by
 intro pins s σ H vs us Q I r h;obtain ⟨e,h⟩:=h;subst e;cases r
 exact assignInOrder_nil ⟨σ,H,I,h⟩
theorem Fc {e:Expr} {es:List Expr} {t:TG} {u:TGs} (h1:PG X e t) (h2:PGs X es u)
  (hs:(assignEach (e::es) X.env).map (·.2)=assign e X.env::(assignEach es X.env).map (·.2):=by rfl):PGs X (e::es) (mx t u):=by
 intro pins s σ H vs us Q I r h;obtain ⟨v,vr,e1,h⟩:=h;subst e1;cases r with
 | cons r rr=>
  rw[hs];refine assignInOrder_cons (thn (h1 pins s σ H _ _ _ I r h) λ_ s1 ⟨σ1,H1,I1,q1⟩=>?_);exact h2 pins s1 σ1 H1 _ _ Q I1 rr q1
def gTup (K:PySem.W.Frag) (n:Nat) (t:TGs):TG:=λv σ H Q=>∃a xs,v=.ref a∧SqT K H a xs∧xs.length=n∧t xs σ H Q
theorem Ec {es:List Expr} {k:Nat} {t:TGs} {n:Nat} (hc:X.calm=true) (h:PGs X es t)
  (hn:(assignEach es X.env).length=n:=by rfl) (hst:(assignEach es X.env).findIdx? (·.1)=none:=by rfl):PG X (.Tuple es k pos) (gTup X.K n t):=by
 intro pins s σ H v u Q I r hw;obtain ⟨a,xs,e1,hq,hl,hw⟩:=hw;subst e1;cases r
 obtain ⟨its,rv,ht,hz⟩:=I.tuple hq;refine assign_Tuple_tuple (I.ok.hd hc) ht (by simp[hn,←hl,rv.length]) hst λh' hx=>?_;have I1:Inv X pins σ H { s with heap:=h' }:=I.kept (t':=s.toks) λb o e=>hx b o (aap (Heap.lt_size e)) e;exact h pins _ σ H xs _ Q I1 (by simpa using rv) hw
def gSub (to ti:TE) (t:TSet):TG:=λv σ H Q=>to σ H λo H1=>ti σ H1 λi H2=>t o i v H2 λH3=>Q σ H3
theorem Em {o i:Expr} {to ti:TE} {t:TSet} (ho:PE X o to) (hi:PE X i ti) (hs:PSet X t)
  (ha:∀v,assign (.Subscript o i pos) X.env v=(do
   let ov ←holding [v] (eval o X.env)
   let iv ←holding [v,ov] (eval i X.env)
   standAt pos
   holding [v,ov,iv] (setItem ov iv v)
   release [v,ov,iv] []):=by intro _;rfl):PG X (.Subscript o i pos) (gSub to ti t):=by
 intro pins s σ H v u Q I r h;rw[ha];refine wpAny_bind (wpAny_holding (thn (ho pins s σ H _ I h) λov s1 ⟨x,H1,I1,r1,q1⟩=>?_));refine wpAny_bind (wpAny_holding (thn (hi pins s1 σ H1 _ I1 q1) λiv s2 ⟨y,H2,I2,r2,q2⟩=>?_));refine wpAny_bind (wpAny_standAt (wpAny_bind (wpAny_holding (thn (hs pins s2 σ H2 x y v ov iv u _ I2 r1 r2 r q2) λ_ s3 ⟨H3,I3,q3⟩=>?_))));exact wpAny_release ⟨σ,H3,I3,q3⟩
def tAsg (te:TE) (g:TG):TS:=λD σ H=>te σ H λx H1=>g x σ H1 D.nx
theorem ps_asg {tg e:Expr} {te:TE} {g:TG} (he:PE X e te) (hg:PG X tg g) (hs:swapsWithSole [tg] e pos.line X.env=pure false:=by rfl) (hw:swappedStores [tg] e X.env=pure none:=by rfl)
  (h1:(assignEach [tg] X.env).map (·.2)=[assign tg X.env]:=by rfl):PS X (.Assign [tg] e pos) (tAsg te g):=by
 intro pins s σ H D I h;refine wpAny_Assign_stores (thn (he pins s σ H _ I h) λv s1 ⟨x,H1,I1,r1,q1⟩=>?_) hs hw;rw[h1];exact thn (hg pins s1 σ H1 x v _ I1 r1 q1) λ_ s2 q=>q
theorem Cg {i:Nat} {x:Str} {e:Expr} {te:TE} {pos':Pos} (hN:X.N.Nodup) (hi:X.N[i]?=some x) (hx:Loc X.env.scope x) (he:PE X e te) (hs:swapsWith e (some (.Name x pos')) pos.line X.env=pure false:=by rfl) (hf:X.fn x=true∨X.env.scope.names.lookup x=some .local:=by first | exact .inl rfl | exact .inr rfl | assumption):
  PS X (.Assign [.Name x pos'] e pos) (tAsg te (gc i)):=by
 intro pins s σ H D I h;refine wpAny_Assign_Name (thn (he pins s σ H _ I h) λv s1 ⟨y,H1,I1,r1,q1⟩=>?_) hs;exact kg I1 hN hi hx r1 (λs2 I2=>⟨_,H1,I2,q1⟩) hf
end
section
variable {X:Cx} {pos:Pos}
def Dy (c:TT) (tb:TS):TS:=λD σ H=>∃W:Nat→St→Hp→Prop,(∃m,W m σ H)∧∀m σ H,W m σ H→
 c σ H λb H1=>if b=true then ∃N:St→Hp→Prop,(∀σ' H',N σ' H'→∃m',m' < m∧W m' σ' H')∧tb { D with nx:=N,ct:=N,bk:=D.nx } σ H1 else D.nx σ H1
theorem Bl {c:Expr} {body:List Stmt} {tc:TT} {tb:TS} (hp:PassesOwn (model X.prog X.w) X.A X.env X.xe) (hc:PT X c tc) (hb:PSs X body tb):PS X (.While c body [] pos) (Dy tc tb):=by
 intro pins s σ H D I h;obtain ⟨W,⟨m0,w0⟩,turn⟩:=h;refine wpAny_While (codeAny_whileLoop (λn s'=>∃σ' H',Inv X pins σ' H' s'∧W n σ' H') ?_ m0 ⟨σ,H,I,w0⟩);rintro n s1 ⟨σ1,H1,I1,w1⟩;refine wpAny_passesOwn hp (thn (hc pins s1 σ1 H1 _ I1 (turn n σ1 H1 w1)) λb s2 ⟨H2,I2,q2⟩=>?_);cases b with
 | true=>
  obtain ⟨N,hN,q2⟩:=q2;rw[if_pos rfl];refine wpAny_passesOwn hp (thn (hb pins s2 σ1 H2 _ I2 q2) λf s3 q3=>?_);cases f with
  | next=>
   obtain ⟨σ3,H3,I3,n3⟩:=q3;obtain ⟨m',hm,w3⟩:=hN σ3 H3 n3;exact ⟨m',hm,σ3,H3,I3,w3⟩
  | cont=>
   obtain ⟨σ3,H3,I3,n3⟩:=q3;obtain ⟨m',hm,w3⟩:=hN σ3 H3 n3;exact ⟨m',hm,σ3,H3,I3,w3⟩
  | brk=>exact q3
  | ret v=>exact q3
 | false=>
  rw[if_neg aab];exact wpAny_execs_nil ⟨σ1,H2,I2,q2⟩
end
structure It where
 go:Nat→Hp→Prop
 yld:Nat→Hp→V→Hp→Prop
 stop:Nat→Hp→Prop
def lu (X:Cx) (pins:List (Addr×Obj)) (H:Hp) (b:Addr):Prop:=
 H b=none∧b≠X.env.locals∧b∉X.fs∧(b∈X.ex∨X.s₀.heap.objs.size≤b)∧(∀x c,X.env.cells.lookup x=some c→c≠b)∧∀p∈X.pn++pins,p.1≠b
theorem Inv.fpOk {X:Cx} {pins:List (Addr×Obj)} {σ:St} {H H':Hp} {s:Shared} {b:Addr} (I:Inv X pins σ H s) (hb:s.heap.objs.size≤b) (hn:H' b=none):lu X pins H' b:=by
 refine ⟨hn,ab2 (aaf I.lt hb),I.nofs hb,.inr (aaw I.sz hb),λx c e z=>?_,λp hp z=>?_⟩
 ·obtain ⟨v,q⟩:=I.cell x c e;exact absurd (aaf q.lt (by rw[z];exact hb)) (ab6 _)
 ·exact absurd (aaf (Heap.lt_size (I.pin p hp).1) (by rw[z];exact hb)) (ab6 _)
structure Turn (P:Program) (w:World) (K:PySem.W.Frag) (tg:Expr) (J:It) (fp:List Addr) (it:Addr) (tn:Nat→Heap→Prop):Prop where
 mem:it∈fp
 obj:∀i h,tn i h→∀b∈fp,∃o,h.get? b=some o∧∀v,o.data≠.cell v
 keep:∀i h h',tn i h→(∀b∈fp,∀o,h.get? b=some o→h'.get? b=some o)→tn i h'
 item:∀(X:Cx),X.prog=P→X.w=w→X.K=K→X.calm=true→∀(i:Nat) (pins:List (Addr×Obj)) (s:Shared) (σ:St) (H:Hp) (E:Value→Shared→Prop),Inv X pins σ H s→(∀b∈fp,lu X pins H b)→tn i s.heap→J.go i H→
  wpAny (model P w) X.A (pyNext (.ref it)) (λr s1=>∃u,r=some u∧
   wpAny (model P w) X.A (letOwnedTupleGo tg (.ref it) u) (λ_ s2=>∃x H',Inv X pins σ H' s2∧RelV x u∧J.yld i H x H'∧tn (i+1) s2.heap∧∀b∈fp,H' b=none) E s1) E s
 done:∀(X:Cx),X.prog=P→X.w=w→X.K=K→X.calm=true→∀(i:Nat) (pins:List (Addr×Obj)) (s:Shared) (σ:St) (H:Hp) (E:Value→Shared→Prop),Inv X pins σ H s→(∀b∈fp,lu X pins H b)→tn i s.heap→J.stop i H→
  wpAny (model P w) X.A (pyNext (.ref it)) (λr s1=>r=none∧Inv X pins σ H s1) E s
 self:∀(A:Around) (i:Nat) (s:Shared) (Q:Value→Shared→Prop) (E:Value→Shared→Prop),tn i s.heap→Q (.ref it) s→wpAny (model P w) A (pyIter (.ref it)) Q E s
abbrev TI:=St→Hp→(It→Hp→Prop)→Prop
def PIE (X:Cx) (pins:List (Addr×Obj)) (σ:St) (tg:Expr) (R:It→Hp→Prop) (itv:Value) (s2:Shared):Prop:=
 ∃(it:Addr) (fp:List Addr) (tn:Nat→Heap→Prop) (J:It) (H':Hp),itv=.ref it∧Inv X pins σ H' s2∧Turn X.prog X.w X.K tg J fp it tn∧tn 0 s2.heap∧(∀b∈fp,lu X pins H' b)∧R J H'
def PI (X:Cx) (tg iter:Expr) (wi:TI):Prop:=
 ∀(pins:List (Addr×Obj)) (s:Shared) (σ:St) (H:Hp) (R:It→Hp→Prop),Inv X pins σ H s→wi σ H R→
  wpAny (model X.prog X.w) X.A (eval iter X.env) (λv s1=>wpAny (model X.prog X.w) X.A (pyIter v) (PIE X pins σ tg R) X.xe s1) X.xe s
theorem Br {M:Model} {A:Around} {E:Value→Shared→Prop} {s:Shared} {tg:Expr} {it:Addr} {u:Value} {o:Obj} {n:String} {vs:Array Value} {Q:Unit→Shared→Prop} (ho:s.heap.get? it=some o) (hc:o.cls=.type n) (hd:o.data=.fields vs)
    (hn:["enumerate","zip","dict_itemiterator","dict_reverseitemiterator","odict_iterator","itertools.zip_longest","itertools.pairwise"].contains n=false) (hQ:Q () s):wpAny M A (letOwnedTupleGo tg (.ref it) u) Q E s:=by
  unfold letOwnedTupleGo;cases tg <;> first
    | exact wpAny_pure hQ
    | (cases u <;> first
        | exact wpAny_pure hQ
        | (refine wpAny_bind (wpAny_load ho ?_)
           rw[hc,hd];show wpAny M A (if (["enumerate","zip","dict_itemiterator","dict_reverseitemiterator","odict_iterator","itertools.zip_longest","itertools.pairwise"].contains n&&vs[0]?==some (rawInt _))=true then _ else _) Q E s
           rw[if_neg (by intro h;rw[hn,Bool.false_and] at h;cases h)];exact wpAny_pure hQ))
noncomputable def Itl (K:PySem.W.Frag) (a:Addr):It:=
 ⟨λi H=>∃xs x,SqL K H a xs∧xs[i]?=some x,λi H x H'=>H'=H∧∀xs,SqL K H a xs→xs[i]?=some x,λi H=>∃xs,SqL K H a xs∧xs.length≤i⟩
noncomputable def Itt (K:PySem.W.Frag) (a:Addr):It:=
 ⟨λi H=>∃xs x,SqT K H a xs∧xs[i]?=some x,λi H x H'=>H'=H∧∀xs,SqT K H a xs→xs[i]?=some x,λi H=>∃xs,SqT K H a xs∧xs.length≤i⟩
noncomputable def Itr (lo:Int) (n:Nat):It:=⟨λi _=>i < n,λi H x H'=>H'=H∧x=.int (lo+i),λi _=>n≤i⟩
theorem Ah {P:Program} {w:World} {K:PySem.W.Frag} {tg:Expr} (a it:Addr):Turn P w K tg (Itl K a) [it] it (λi h=>h.IsListIter it a i) where
 mem:=by simp
 obj:=λi h st b hb=>by
  have e:b=it:=by simpa using hb
  subst e;obtain ⟨o,e,c,d⟩:=st;exact ⟨o,e,λv z=>by rw[d] at z;cases z⟩
 keep:=λi h h' st k=>st.at λo e=>k it (by simp) o e
 item:=by
  intro X hP hw hK hc i pins s σ H E I hf st hg;subst hP hw hK;obtain ⟨xs,x,hq,hx⟩:=hg;obtain ⟨its,rv,p,hz⟩:=I.list hq;obtain ⟨u,hu,ru⟩:=rv.get hx;obtain ⟨f0,f1,f2,f3,f4,f5⟩:=hf it (by simp);refine wpAny_pyNext_list_item st p.isList (x:=u) (by simpa using hu) λh' st' sb=>?_;have I1:Inv X pins σ H { s with heap:=h' }:=I.turned (t':=s.toks) (λb o hb e=>(sb.2 b hb).trans e) f0 f1 f3 f4 f5;obtain ⟨o,e,c,d⟩:=id st';exact ⟨u,rfl,Br (s:={ s with heap:=h' }) e c d (by decide) ⟨x,H,I1,ru,⟨rfl,λys hy=>by rw[I.Ef hy hq];exact hx⟩,st',λb hb=>(hf b hb).1⟩⟩
 done:=by
  intro X hP hw hK hc i pins s σ H E I hf st hg;subst hP hw hK;obtain ⟨xs,hq,hx⟩:=hg;obtain ⟨its,rv,p,hz⟩:=I.list hq;obtain ⟨f0,f1,f2,f3,f4,f5⟩:=hf it (by simp);have hl:=rv.length;exact wpAny_pyNext_list_end (I.ok.hd hc) st p.isList (by simp;omega) λh' eb=>⟨rfl,I.turned (t':=s.toks) (λb o hb e=>eb b o hb e) f0 f1 f3 f4 f5⟩
 self:=λ_ _ _ _ _ st h=>wpAny_pyIter_listiter st h
theorem xx {P:Program} {w:World} {K:PySem.W.Frag} {tg:Expr} (a it:Addr):Turn P w K tg (Itt K a) [it] it (λi h=>h.IsTupleIter it a i) where
 mem:=by simp
 obj:=λi h st b hb=>by
  have e:b=it:=by simpa using hb
  subst e;obtain ⟨o,e,c,d⟩:=st;exact ⟨o,e,λv z=>by rw[d] at z;cases z⟩
 keep:=λi h h' st k=>st.at λo e=>k it (by simp) o e
 item:=by
  intro X hP hw hK hc i pins s σ H E I hf st hg;subst hP hw hK;obtain ⟨xs,x,hq,hx⟩:=hg;obtain ⟨its,rv,p,hz⟩:=I.tuple hq;obtain ⟨u,hu,ru⟩:=rv.get hx;obtain ⟨f0,f1,f2,f3,f4,f5⟩:=hf it (by simp);refine wpAny_pyNext_tuple_item st (show s.heap.IsTuple a its.toArray from p) (x:=u) (by simpa using hu) λh' st' sb=>?_;have I1:Inv X pins σ H { s with heap:=h' }:=I.turned (t':=s.toks) (λb o hb e=>(sb.2 b hb).trans e) f0 f1 f3 f4 f5;obtain ⟨o,e,c,d⟩:=id st';exact ⟨u,rfl,Br (s:={ s with heap:=h' }) e c d (by decide) ⟨x,H,I1,ru,⟨rfl,λys hy=>by rw[I.Bh hy hq];exact hx⟩,st',λb hb=>(hf b hb).1⟩⟩
 done:=by
  intro X hP hw hK hc i pins s σ H E I hf st hg;subst hP hw hK;obtain ⟨xs,hq,hx⟩:=hg;obtain ⟨its,rv,p,hz⟩:=I.tuple hq;obtain ⟨f0,f1,f2,f3,f4,f5⟩:=hf it (by simp);have hl:=rv.length;exact wpAny_pyNext_tuple_end (I.ok.hd hc) st (show s.heap.IsTuple a its.toArray from p) (by simp;omega) λh' eb=>⟨rfl,I.turned (t':=s.toks) (λb o hb e=>eb b o hb e) f0 f1 f3 f4 f5⟩
 self:=λ_ _ _ _ _ st h=>wpAny_pyIter_tupleiter st h
theorem xf {P:Program} {w:World} {K:PySem.W.Frag} {tg:Expr} (it:Addr) (lo:Int) (n:Nat):Turn P w K tg (Itr lo n) [it] it (λi h=>IsRangeIter h it (lo+(i:Nat)*1) ((n:Int) - (i:Nat)) 1) where
 mem:=by simp
 obj:=λi h st b hb=>by
  have e:b=it:=by simpa using hb
  subst e;exact ⟨_,st,λv z=>by
   have z':Data.fields _=Data.cell v:=z;cases z'⟩
 keep:=λi h h' st k=>k it (by simp) _ st
 item:=by
  intro X hP hw hK hc i pins s σ H E I hf st hg;subst hP hw hK;obtain ⟨f0,f1,f2,f3,f4,f5⟩:=hf it (by simp);have W:=Walks.range (prog:=X.prog) (w:=X.w) (I.ok.hd hc) it lo 1 n;refine W.item i s _ _ hg st λv h' tk hv st' kk=>?_;obtain ⟨t,rfl⟩:=hv;have I1:Inv X pins σ H { s with heap:=h',toks:=tk }:=I.turned (λb o hb e=>kk b o (by simpa using hb) e) f0 f1 f3 f4 f5;refine ⟨_,rfl,Br (s:={ s with heap:=h',toks:=tk }) (n:="range_iterator") st' rfl rfl (by decide) ⟨.int (lo+i),H,I1,⟨t,?_⟩,⟨rfl,rfl⟩,st',λb hb=>(hf b hb).1⟩⟩;rw[Int.mul_one]
 done:=by
  intro X hP hw hK hc i pins s σ H E I hf st hg;subst hP hw hK;obtain ⟨f0,f1,f2,f3,f4,f5⟩:=hf it (by simp);exact wpAny_pyNext_range_end (I.ok.hd hc) st (by have:n≤i:=hg;omega) λh' eb=>⟨rfl,I.turned (t':=s.toks) (λb o hb e=>eb b o hb e) f0 f1 f3 f4 f5⟩
 self:=λ_ _ _ _ _ st h=>wpAny_pyIter_rangeiter st h
end L2
namespace L2
open PySem PySem.Spec PyProof.Rows
section
variable {X:Cx} {tg:Expr}
def iList (K:PySem.W.Frag) (tl:TE):TI:=λσ H R=>tl σ H λx H1=>∃a,x=.ref a∧(∃xs,SqL K H1 a xs)∧R (Itl K a) H1
def iTup (K:PySem.W.Frag) (tl:TE):TI:=λσ H R=>tl σ H λx H1=>∃a,x=.ref a∧(∃xs,SqT K H1 a xs)∧R (Itt K a) H1
theorem ma {l:Expr} {tl:TE} (hl:PE X l tl):PI X tg l (iList X.K tl):=by
 intro pins s σ H R I h;refine thn (hl pins s σ H _ I h) λv s1 ⟨x,H1,I1,r1,q1⟩=>?_;obtain ⟨a,e,⟨xs,hq⟩,q⟩:=q1;subst e;cases r1
 obtain ⟨its,rv,p,hz⟩:=I1.list hq;refine wpAny_pyIter_list p.isList ?_;refine ⟨s1.heap.objs.size,[s1.heap.objs.size],_,_,H1,rfl,I1.kept (t':=s1.toks) λb o e=>Heap.get?_push_of_some _ e,Ah a _,⟨_,Heap.get?_push_size _ rfl,rfl,rfl⟩,λb hb=>?_,q⟩;have e:b=s1.heap.objs.size:=by simpa using hb
 subst e;exact I1.fpOk (aa5 _) (I1.hok.fresh (aa5 _))
theorem pi_tup {l:Expr} {tl:TE} (hl:PE X l tl):PI X tg l (iTup X.K tl):=by
 intro pins s σ H R I h;refine thn (hl pins s σ H _ I h) λv s1 ⟨x,H1,I1,r1,q1⟩=>?_;obtain ⟨a,e,⟨xs,hq⟩,q⟩:=q1;subst e;cases r1
 obtain ⟨its,rv,p,hz⟩:=I1.tuple hq;refine wpAny_pyIter_tuple (show s1.heap.IsTuple a its.toArray from p) ?_;refine ⟨s1.heap.objs.size,[s1.heap.objs.size],_,_,H1,rfl,I1.kept (t':=s1.toks) λb o e=>Heap.get?_push_of_some _ e,xx a _,⟨_,Heap.get?_push_size _ rfl,rfl,rfl⟩,λb hb=>?_,q⟩;have e:b=s1.heap.objs.size:=by simpa using hb
 subst e;exact I1.fpOk (aa5 _) (I1.hok.fresh (aa5 _))
theorem Bs {pins:List (Addr×Obj)} {σ:St} {H:Hp} {s:Shared} {R:It→Hp→Prop} {E:Value→Shared→Prop} {lo hi:Int} {t u v:Tok} {tk:Nat} (I:Inv X pins σ H s) (h1:-(2 ^ 62)≤lo) (h2:lo < 2 ^ 62) (h3:-(2 ^ 62)≤hi) (h4:hi < 2 ^ 62)
  (q:R (Itr lo (hi - lo).toNat) H):wpAny (model X.prog X.w) X.A (pyIter (.ref s.heap.objs.size)) (PIE X pins σ tg R) E { s with heap:=s.heap.push { cls:=.type "range",data:=.fields #[.int lo t,.int hi u,.int 1 v] },toks:=tk }:=by
 refine wpAny_pyIter_range (IsRange.new ..) (small_one h1 h2 h3 h4) ?_;have I1:Inv X pins σ H { s with heap:=s.heap.push { cls:=.type "range",data:=.fields #[.int lo t,.int hi u,.int 1 v] },toks:=tk }:=I.kept λb o e=>Heap.get?_push_of_some _ e;refine ⟨(s.heap.push { cls:=.type "range",data:=.fields #[.int lo t,.int hi u,.int 1 v] }).objs.size,[(s.heap.push { cls:=.type "range",data:=.fields #[.int lo t,.int hi u,.int 1 v] }).objs.size],_,_,H,rfl,
  I1.kept (t':=tk) λb o e=>Heap.get?_push_of_some _ e,xf _ lo (hi - lo).toNat,?_,λb hb=>?_,q⟩
 ·have e1:lo+((0:Nat):Int)*1=lo:=by simp
  have e2:(((hi - lo).toNat:Nat):Int) - ((0:Nat):Int)=Builtin.Range.rangeSize lo hi 1:=by rw[rangeSize_one];split <;> omega
  show IsRangeIter _ _ (lo+((0:Nat):Int)*1) ((((hi - lo).toNat:Nat):Int) - ((0:Nat):Int)) 1
  rw[e1,e2];exact Heap.get?_push_size _ rfl
 ·have e:b=(s.heap.push { cls:=.type "range",data:=.fields #[.int lo t,.int hi u,.int 1 v] }).objs.size:=by simpa using hb
  subst e;exact I1.fpOk (aa5 _) (I1.hok.fresh (aa5 _))
def iRng1 (ta:TA):TI:=λσ H R=>ta σ H λvs H1=>∃j:Int,vs=[.int j]∧-(2 ^ 62)≤j∧j < 2 ^ 62∧R (Itr 0 j.toNat) H1
def iRng2 (ta:TA):TI:=λσ H R=>ta σ H λvs H1=>∃i j:Int,vs=[.int i,.int j]∧(-(2 ^ 62)≤i∧i < 2 ^ 62∧-(2 ^ 62)≤j∧j < 2 ^ 62)∧R (Itr i (j - i).toNat) H1
theorem Ac {a:Expr} {ta:TA} {p pos:Pos} (hg:Gl X "range") (hm:X.mg "range"=none) (ha:PA X [a] ta) (hs:starEach [a] X.env=[(false,eval a X.env)]:=by rfl):PI X tg (.Call (.Name "range" p) [a] [] pos) (iRng1 ta):=by
 intro pins s σ H R I h;refine Call_ (ic I hg hm boot_range (PyProof.Rows.callWith_type1 (thn (ha pos pins s σ H _ I h) λus s1 ⟨vs,H1,I1,r1,q1⟩=>?_) hs rfl));obtain ⟨j,e,q1,q2,q⟩:=q1;subst e;cases r1 with
 | cons r rr=>
  cases rr
  obtain ⟨t,rfl⟩:=r;exact call_range_1 (Bs I1 (by omega) (by omega) q1 q2 (by simpa using q))
def tFor (wi:TI) (g:TG) (tb:TS):TS:=λD σ H=>wi σ H λJ H1=>∃W:Nat→Nat→St→Hp→Prop,(∃m,W 0 m σ H1)∧∀i m σ H,W i m σ H→
 (J.stop i H∧D.nx σ H)∨(J.go i H∧∃N:St→Hp→Prop,(∀σ' H',N σ' H'→∃m',m' < m∧W (i+1) m' σ' H')∧∀x H',J.yld i H x H'→g x σ H' λσ2 H2=>tb { D with nx:=N,ct:=N,bk:=D.nx } σ2 H2)
noncomputable def n8 (fp:List Addr) (h:Heap):List (Addr×Obj):=fp.filterMap λb=>(h.get? b).map λo=>(b,o)
theorem gp {fp:List Addr} {h:Heap} {b:Addr} {o:Obj} (hb:b∈fp) (e:h.get? b=some o):(b,o)∈n8 fp h:=List.mem_filterMap.mpr ⟨b,hb,by rw[e];rfl⟩
theorem Ao {fp:List Addr} {h:Heap} {p:Addr×Obj} (hp:p∈n8 fp h):p.1∈fp∧h.get? p.1=some p.2:=by
 obtain ⟨b,hb,e⟩:=List.mem_filterMap.mp hp;cases q:h.get? b with
 | none=>rw[q] at e;cases e
 | some o=>
  rw[q] at e;have e':(b,o)=p:=aa6 e;subst e';exact ⟨hb,q⟩
theorem Inv.pinned {pins:List (Addr×Obj)} {σ:St} {H:Hp} {s:Shared} {fp:List Addr} (I:Inv X pins σ H s) (hf:∀b∈fp,lu X pins H b) (ho:∀b∈fp,∃o,s.heap.get? b=some o∧∀v,o.data≠.cell v):Inv X (pins++n8 fp s.heap) σ H s:=
 I.yf λp hp=>(List.mem_append.mp hp).elim (λz=>I.pin p (aar _ z)) λz=>by
  obtain ⟨hb,e⟩:=Ao z;obtain ⟨f0,f1,f2,_⟩:=hf p.1 hb;obtain ⟨o,e',d⟩:=ho p.1 hb;rw[e] at e';cases e';exact ⟨e,f0,f1,f2,d⟩
theorem Inv.ka {pins pl:List (Addr×Obj)} {σ:St} {H:Hp} {s:Shared} (I:Inv X (pins++pl) σ H s):Inv X pins σ H s:=I.yf λp hp=>I.pin p (aar _ (abu _ hp))
theorem xk {iter:Expr} {body:List Stmt} {wi:TI} {g:TG} {tb:TS} {pos:Pos} (hp:PassesOwn (model X.prog X.w) X.A X.env X.xe) (hc:X.calm=true) (hi:PI X tg iter wi) (hg:PG X tg g) (hb:PSs X body tb)
  (hs:∀x,foldedSetIterable iter X.env x=pure x:=by intro _;rfl):PS X (.For tg iter body [] pos) (tFor wi g tb):=by
 intro pins s σ H D I h;refine wpAny_For (thn (hi pins s σ H _ I h) λv s1 h1=>thn h1 λitv s2 h2=>?_) hs;obtain ⟨it,fp,tn,J,H2,e,I2,T,st2,f2,W,⟨m0,w0⟩,turn⟩:=h2;subst e;have stat:∀{H':Hp},(∀b∈fp,H' b=none)→∀b∈fp,lu X pins H' b:=λhn b hb=>⟨hn b hb,(f2 b hb).2⟩;refine codeAny_forLoop_any (λn s'=>∃i σ' H',Inv X pins σ' H' s'∧tn i s'.heap∧(∀b∈fp,H' b=none)∧W i n σ' H') ?_ m0 ⟨0,σ,H2,I2,st2,λb hb=>(f2 b hb).1,w0⟩;rintro n s3 ⟨i,σ3,H3,I3,st3,fr3,w3⟩;rcases turn i n σ3 H3 w3 with ⟨stop,qn⟩ | ⟨go,N,hN,step⟩
 ·refine wpAny_passesOwn hp (thn (T.done X rfl rfl rfl hc i pins s3 σ3 H3 X.xe I3 (stat fr3) st3 stop) λr s4 ⟨hr,I4⟩=>?_);subst hr;exact wpAny_execs_nil ⟨σ3,H3,I4,qn⟩
 ·refine wpAny_passesOwn hp (thn (T.item X rfl rfl rfl hc i pins s3 σ3 H3 X.xe I3 (stat fr3) st3 go) λr s4 ⟨u,hr,h4⟩=>?_);subst hr;refine wpAny_passesOwn hp (thn h4 λ_ s5 ⟨x,H5,I5,r5,y5,st5,fr5⟩=>?_);have I5':=I5.pinned (stat fr5) (T.obj _ _ st5);refine wpAny_passesOwn hp (thn (hg _ s5 σ3 H5 x u _ I5' r5 (step x H5 y5)) λ_ s6 ⟨σ6,H6,I6,q6⟩=>?_);refine wpAny_passesOwn hp (thn (hb _ s6 σ6 H6 _ I6 q6) λf s7 q7=>?_);have again:∀{σ7:St} {H7:Hp},Inv X (pins++n8 fp s5.heap) σ7 H7 s7→N σ7 H7→∃m,m < n∧∃i σ' H',Inv X pins σ' H' s7∧tn i s7.heap∧(∀b∈fp,H' b=none)∧W i m σ' H':=λ{σ7 H7} I7 n7=>by
   obtain ⟨m',hm,w7⟩:=hN σ7 H7 n7;refine ⟨m',hm,i+1,σ7,H7,I7.ka,T.keep _ _ _ st5 λb hb o e=>(I7.pin (b,o) (aar _ (aar _ (gp hb e)))).1,λb hb=>?_,w7⟩;obtain ⟨o,e,d⟩:=T.obj _ _ st5 b hb;exact (I7.pin (b,o) (aar _ (aar _ (gp hb e)))).2.1
  cases f with
  | next=>obtain ⟨σ7,H7,I7,n7⟩:=q7;exact again I7 n7
  | cont=>obtain ⟨σ7,H7,I7,n7⟩:=q7;exact again I7 n7
  | brk=>obtain ⟨σ7,H7,I7,q7⟩:=q7;exact ⟨σ7,H7,I7.ka,q7⟩
  | ret v=>obtain ⟨x7,σ7,H7,I7,r7,q7⟩:=q7;exact ⟨x7,σ7,H7,I7.ka,r7,q7⟩
end
theorem Ez {K:PySem.W.Frag} {a:Addr} {xs:List V} {g:TG} {tb:TS} {D:Ends} {σ:St} {H:Hp} (Pv:Nat→St→Hp→Prop) (h0:Pv 0 σ H) (hl:∀i σ H,i≤xs.length→Pv i σ H→SqL K H a xs)
  (hs:∀i x σ H,xs[i]?=some x→Pv i σ H→g x σ H λσ2 H2=>tb { D with nx:=Pv (i+1),ct:=Pv (i+1),bk:=D.nx } σ2 H2) (hd:∀σ H,Pv xs.length σ H→D.nx σ H):
  ∃W:Nat→Nat→St→Hp→Prop,(∃m,W 0 m σ H)∧∀i m σ H,W i m σ H→
   ((Itl K a).stop i H∧D.nx σ H)∨((Itl K a).go i H∧∃N:St→Hp→Prop,(∀σ' H',N σ' H'→∃m',m' < m∧W (i+1) m' σ' H')∧∀x H',(Itl K a).yld i H x H'→g x σ H' λσ2 H2=>tb { D with nx:=N,ct:=N,bk:=D.nx } σ2 H2):=by
 refine ⟨λi m σ H=>m=xs.length - i∧i≤xs.length∧Pv i σ H,⟨xs.length,by simp,aaa _,h0⟩,?_⟩;rintro i m σ H ⟨rfl,hi,p⟩;have q:=hl i σ H hi p;by_cases hlt:i < xs.length
 ·refine .inr ⟨⟨xs,xs[i],q,by simp[hlt]⟩,Pv (i+1),λσ' H' p'=>⟨xs.length - (i+1),by omega,rfl,hlt,p'⟩,λx H' y=>?_⟩;obtain ⟨e,y⟩:=y;subst e;exact hs i x σ _ (y xs q) p
 ·have e:i=xs.length:=by omega
  subst e;exact .inl ⟨⟨xs,q,aa5 _⟩,hd σ H p⟩
theorem Ha {K:PySem.W.Frag} {a:Addr} {xs:List V} {g:TG} {tb:TS} {D:Ends} {σ:St} {H:Hp} (Pv:Nat→St→Hp→Prop) (h0:Pv 0 σ H) (hl:∀i σ H,i≤xs.length→Pv i σ H→SqT K H a xs)
  (hs:∀i x σ H,xs[i]?=some x→Pv i σ H→g x σ H λσ2 H2=>tb { D with nx:=Pv (i+1),ct:=Pv (i+1),bk:=D.nx } σ2 H2) (hd:∀σ H,Pv xs.length σ H→D.nx σ H):
  ∃W:Nat→Nat→St→Hp→Prop,(∃m,W 0 m σ H)∧∀i m σ H,W i m σ H→
   ((Itt K a).stop i H∧D.nx σ H)∨((Itt K a).go i H∧∃N:St→Hp→Prop,(∀σ' H',N σ' H'→∃m',m' < m∧W (i+1) m' σ' H')∧∀x H',(Itt K a).yld i H x H'→g x σ H' λσ2 H2=>tb { D with nx:=N,ct:=N,bk:=D.nx } σ2 H2):=by
 refine ⟨λi m σ H=>m=xs.length - i∧i≤xs.length∧Pv i σ H,⟨xs.length,by simp,aaa _,h0⟩,?_⟩;rintro i m σ H ⟨rfl,hi,p⟩;have q:=hl i σ H hi p;by_cases hlt:i < xs.length
 ·refine .inr ⟨⟨xs,xs[i],q,by simp[hlt]⟩,Pv (i+1),λσ' H' p'=>⟨xs.length - (i+1),by omega,rfl,hlt,p'⟩,λx H' y=>?_⟩;obtain ⟨e,y⟩:=y;subst e;exact hs i x σ _ (y xs q) p
 ·have e:i=xs.length:=by omega
  subst e;exact .inl ⟨⟨xs,q,aa5 _⟩,hd σ H p⟩
theorem zw {lo:Int} {n:Nat} {g:TG} {tb:TS} {D:Ends} {σ:St} {H:Hp} (Pv:Nat→St→Hp→Prop) (h0:Pv 0 σ H)
  (hs:∀i σ H,i < n→Pv i σ H→g (.int (lo+i)) σ H λσ2 H2=>tb { D with nx:=Pv (i+1),ct:=Pv (i+1),bk:=D.nx } σ2 H2) (hd:∀σ H,Pv n σ H→D.nx σ H):
  ∃W:Nat→Nat→St→Hp→Prop,(∃m,W 0 m σ H)∧∀i m σ H,W i m σ H→
   ((Itr lo n).stop i H∧D.nx σ H)∨((Itr lo n).go i H∧∃N:St→Hp→Prop,(∀σ' H',N σ' H'→∃m',m' < m∧W (i+1) m' σ' H')∧∀x H',(Itr lo n).yld i H x H'→g x σ H' λσ2 H2=>tb { D with nx:=N,ct:=N,bk:=D.nx } σ2 H2):=by
 refine ⟨λi m σ H=>m=n - i∧i≤n∧Pv i σ H,⟨n,by simp,aaa _,h0⟩,?_⟩;rintro i m σ H ⟨rfl,hi,p⟩;by_cases hlt:i < n
 ·refine .inr ⟨hlt,Pv (i+1),λσ' H' p'=>⟨n - (i+1),by omega,rfl,hlt,p'⟩,λx H' y=>?_⟩;obtain ⟨e,y⟩:=y;subst e y;exact hs i σ _ hlt p
 ·have e:i=n:=by omega
  subst e;exact .inl ⟨aa5 _,hd σ H p⟩
theorem jq {c:TT} {tb:TS} {D:Ends} {σ:St} {H:Hp} (Pv:St→Hp→Prop) (μ:St→Hp→Nat) (h0:Pv σ H)
  (hs:∀σ H,Pv σ H→c σ H λb H1=>if b=true then tb { D with nx:=λσ' H'=>Pv σ' H'∧μ σ' H' < μ σ H,ct:=λσ' H'=>Pv σ' H'∧μ σ' H' < μ σ H,bk:=D.nx } σ H1 else D.nx σ H1)
  (mono:∀σ H Q Q',(∀b H1,Q b H1→Q' b H1)→c σ H Q→c σ H Q'):Dy c tb D σ H:=by
 refine ⟨λm σ H=>m=μ σ H∧Pv σ H,⟨_,rfl,h0⟩,?_⟩;rintro m σ H ⟨rfl,p⟩;refine mono σ H _ _ (λb H1 q=>?_) (hs σ H p);cases b with
 | true=>exact ⟨_,λσ' H' ⟨p',l⟩=>⟨_,l,rfl,p'⟩,q⟩
 | false=>exact q
end L2
namespace L2
open PySem PySem.Spec PyProof.Rows
abbrev R2:=V→V→Hp→VK→Prop
def OpR (X:Cx) (f:Value→Value→Sem Value) (r:R2):Prop:=
 ∀(pins:List (Addr×Obj)) (s:Shared) (σ:St) (H:Hp) (x y:V) (v u:Value) (Q:VK),Inv X pins σ H s→RelV x v→RelV y u→r x y H Q→
  wpAny (model X.prog X.w) X.A (f v u) (EP X pins σ Q) X.xe s
def UnR (X:Cx) (f:Value→Sem Value) (r:V→Hp→VK→Prop):Prop:=
 ∀(pins:List (Addr×Obj)) (s:Shared) (σ:St) (H:Hp) (x:V) (v:Value) (Q:VK),Inv X pins σ H s→RelV x v→r x H Q→
  wpAny (model X.prog X.w) X.A (f v) (EP X pins σ Q) X.xe s
def fj (X:Cx) (f:Value) (r:List V→Hp→VK→Prop):Prop:=
 ∀(pins:List (Addr×Obj)) (s:Shared) (σ:St) (H:Hp) (xs:List V) (us:List Value) (Q:VK),Inv X pins σ H s→Vals xs us→r xs H Q→
  wpAny (model X.prog X.w) X.A (call f us) (EP X pins σ Q) X.xe s
def tOp (r:R2) (ta tb:TE):TE:=λσ H Q=>ta σ H λx H1=>tb σ H1 λy H2=>r x y H2 Q
def tUn (r:V→Hp→VK→Prop) (ta:TE):TE:=λσ H Q=>ta σ H λx H1=>r x H1 Q
def rI (C:Int→Int→Prop) (g:Int→Int→V):R2:=λx y H Q=>∃i j,x=.int i∧y=.int j∧C i j∧Q (g i j) H
def rI0 (g:Int→Int→V):R2:=λx y H Q=>∃i j,x=.int i∧y=.int j∧Q (g i j) H
def rU (g:Int→V):V→Hp→VK→Prop:=λx H Q=>∃i,x=.int i∧Q (g i) H
section
variable {X:Cx} {a b c:Expr} {ta tb tc:TE} {pos:Pos}
theorem binT (ha:PE X a ta) (hb:PE X b tb) {pins:List (Addr×Obj)} {s:Shared} {σ:St} {H:Hp} {R:V→V→Hp→Prop} (I:Inv X pins σ H s)
  (h:ta σ H λx H1=>tb σ H1 λy H2=>R x y H2) {Q:Value→Shared→Prop} {f:Value→Value→Sem Value}
  (hf:∀v u s2 x y H2,Inv X pins σ H2 s2→RelV x v→RelV y u→R x y H2→wpAny (model X.prog X.w) X.A (f v u) Q X.xe s2):
  wpAny (model X.prog X.w) X.A (eval a X.env) (λv s₁=>wpAny (model X.prog X.w) X.A (eval b X.env) (λu s₂=>wpAny (model X.prog X.w) X.A (f v u) Q X.xe s₂) X.xe s₁) X.xe s:=by
 refine thn (ha pins s σ H _ I h) λv s1 ⟨x,H1,I1,r1,q1⟩=>?_;refine thn (hb pins s1 σ H1 _ I1 q1) λu s2 ⟨y,H2,I2,r2,q2⟩=>?_;exact hf v u s2 x y H2 I2 r1 r2 q2
theorem pe_op {op:Operator} {r:R2} (ho:OpR X (binaryOp op) r) (ha:PE X a ta) (hb:PE X b tb):PE X (.BinOp a op b pos) (tOp r ta tb):=by
 intro pins s σ H Q I h;exact wpAny_BinOp (binT ha hb I h λv u s2 x y H2 I2 rx ry q=>ho pins s2 σ H2 x y v u Q I2 rx ry q)
theorem pe_un {op:UnaryOp} {r:V→Hp→VK→Prop} (ho:UnR X (unaryOp op) r) (ha:PE X a ta):PE X (.UnaryOp op a pos) (tUn r ta):=by
 intro pins s σ H Q I h;exact UnaryOp_ (thn (ha pins s σ H _ I h) λv s1 ⟨x,H1,I1,r1,q1⟩=>ho pins s1 σ H1 x v Q I1 r1 q1)
theorem opI {f:Value→Value→Sem Value} {C:Int→Int→Prop} {g:Int→Int→Int}
  (rule:∀(i j:Int) (t u:Tok) (s:Shared) (Q:Value→Shared→Prop) (E:Value→Shared→Prop),C i j→Q (.int (g i j) s.toks) { s with toks:=s.toks+1 }→wpAny (model X.prog X.w) X.A (f (.int i t) (.int j u)) Q E s):
  OpR X f (rI C λi j=>.int (g i j)):=by
 intro pins s σ H x y v u Q I rx ry h;obtain ⟨i,j,rfl,rfl,hc,q⟩:=h;obtain ⟨t,rfl⟩:=rx;obtain ⟨t',rfl⟩:=ry;exact rule i j t t' s _ _ hc ⟨.int (g i j),H,I.tok _,⟨_,rfl⟩,q⟩
theorem opI0 {f:Value→Value→Sem Value} {g:Int→Int→Int}
  (rule:∀(i j:Int) (t u:Tok) (s:Shared) (Q:Value→Shared→Prop) (E:Value→Shared→Prop),Q (.int (g i j) s.toks) { s with toks:=s.toks+1 }→wpAny (model X.prog X.w) X.A (f (.int i t) (.int j u)) Q E s):
  OpR X f (rI0 λi j=>.int (g i j)):=by
 intro pins s σ H x y v u Q I rx ry h;obtain ⟨i,j,rfl,rfl,q⟩:=h;obtain ⟨t,rfl⟩:=rx;obtain ⟨t',rfl⟩:=ry;exact rule i j t t' s _ _ ⟨.int (g i j),H,I.tok _,⟨_,rfl⟩,q⟩
theorem opB0 {f:Value→Value→Sem Value} {g:Int→Int→Bool}
  (rule:∀(i j:Int) (t u:Tok) (s:Shared) (Q:Value→Shared→Prop) (E:Value→Shared→Prop),Q (.bool (g i j)) s→wpAny (model X.prog X.w) X.A (f (.int i t) (.int j u)) Q E s):
  OpR X f (rI0 λi j=>.bl (g i j)):=by
 intro pins s σ H x y v u Q I rx ry h;obtain ⟨i,j,rfl,rfl,q⟩:=h;obtain ⟨t,rfl⟩:=rx;obtain ⟨t',rfl⟩:=ry;exact rule i j t t' s _ _ ⟨.bl (g i j),H,I,rfl,q⟩
def ke (i j:Int):Prop:=0 < j∧j < 1073741824
def CPow (i j:Int):Prop:=0≤j∧j≤1000000∧i.natAbs < 2 ^ 64
def vz (i j:Int):Prop:=(-(2 ^ 64) < i∧i < 2 ^ 64)∨(-(2 ^ 64) < j∧j < 2 ^ 64)
theorem vz.ok {i j:Int} (h:vz i j):IntMulOk i j:=by
 rcases h with ⟨h1,h2⟩ | ⟨h1,h2⟩
 ·exact .of_left (intBits_le_64 h1 h2)
 ·exact .of_right (intBits_le_64 h1 h2)
theorem op_add:OpR X (binaryOp .Add) (rI0 λi j=>.int (i+j)):=opI0 λ_ _ _ _ _ _ _ q=>add_int q
theorem op_sub:OpR X (binaryOp .Sub) (rI0 λi j=>.int (i - j)):=opI0 λ_ _ _ _ _ _ _ q=>sub_int q
theorem op_mul:OpR X (binaryOp .Mult) (rI vz λi j=>.int (i*j)):=opI λ_ _ _ _ _ _ _ hc q=>mul_int q hc.ok
theorem Hj:OpR X (binaryOp .FloorDiv) (rI ke λi j=>.int (i / j)):=opI λi j _ _ _ _ _ hc q=>by
 have h1:(0:Int) < j:=hc.1;have h2:j < 1073741824:=hc.2;exact floordiv_int (by omega) (by rw[Int.fdiv_eq_ediv_of_nonneg i (by omega)];exact q) (.inl (PyProof.noPylong_small (by omega)))
theorem op_mod:OpR X (binaryOp .Mod) (rI (λ_ j=>0 < j) λi j=>.int (i % j)):=opI λi j _ _ _ _ _ hc q=>by
 have h1:(0:Int) < j:=hc;exact mod_int' (by omega) (by rw[Int.fmod_eq_emod_of_nonneg i (by omega)];exact q)
theorem op_pow:OpR X (binaryOp .Pow) (rI CPow λi j=>.int (i ^ j.toNat)):=opI λ_ _ _ _ _ _ _ hc q=>pow_int_small hc.1 hc.2.1 hc.2.2 q
theorem unI {f:Value→Sem Value} {g:Int→Int}
  (rule:∀(i:Int) (t:Tok) (s:Shared) (Q:Value→Shared→Prop) (E:Value→Shared→Prop),Q (.int (g i) s.toks) { s with toks:=s.toks+1 }→wpAny (model X.prog X.w) X.A (f (.int i t)) Q E s):
  UnR X f (rU λi=>.int (g i)):=by
 intro pins s σ H x v Q I rx h;obtain ⟨i,rfl,q⟩:=h;obtain ⟨t,rfl⟩:=rx;exact rule i t s _ _ ⟨.int (g i),H,I.tok _,⟨_,rfl⟩,q⟩
theorem un_neg:UnR X (unaryOp .USub) (rU λi=>.int (-i)):=unI λ_ _ _ _ _ q=>neg_int q
end
noncomputable def scal:V→V→Bool
 | .non,.non=>true | .non,.int _=>true | .int _,.non=>true | .non,.bl _=>true | .bl _,.non=>true | .non,.str _=>true | .str _,.non=>true
 | .int _,.int _=>true | .bl _,.bl _=>true | .str _,.str _=>true | .byt _,.byt _=>true
 | .int _,.str _=>true | .str _,.int _=>true | .bl _,.str _=>true | .str _,.bl _=>true
 | _,_=>false
def rEq:R2:=λx y H Q=>scal x y=true∧Q (.bl (decide (x=y))) H
def rNe:R2:=λx y H Q=>scal x y=true∧Q (.bl (!decide (x=y))) H
theorem zc {i j:Int}:decide (V.int i=V.int j)=(i==j):=by
 rw[acr];simp
theorem Dg {i j:Bool}:decide (V.bl i=V.bl j)=(i==j):=by
 rw[acr];simp
theorem yz {i j:Str}:decide (V.str i=V.str j)=(i==j):=by
 rw[acr];simp
theorem ze {i j:Array UInt8}:decide (V.byt i=V.byt j)=(i.toList==j.toList):=by
 rw[acr];cases i
 cases j
 simp
section
variable {X:Cx} {a b c:Expr} {ta tb tc:TE} {pos:Pos}
theorem bg {pins:List (Addr×Obj)} {σ:St} {H:Hp} {s:Shared} {Q:VK} {k k':Bool} (I:Inv X pins σ H s) (q:Q (.bl k) H) (e:k=k'):EP X pins σ Q (.bool k') s:=by
 subst e;exact ⟨.bl k,H,I,rfl,q⟩
theorem op_eq:OpR X (compareOp .Eq) rEq:=by
 intro pins s σ H x y v u Q I rx ry h;obtain ⟨hs,q⟩:=h;cases x with
 | non=>
  cases rx
  cases y with
  | non=>cases ry;exact PySem.EqNone.eq_none_none (bg I q (by simp))
  | bl j=>cases ry;exact PySem.EqNone.eq_none_bool (bg I q (by simp))
  | int j=>obtain ⟨t',rfl⟩:=ry;exact PySem.EqNone.eq_none_int (bg I q (by simp))
  | str j=>obtain ⟨t',rfl⟩:=ry;exact PySem.EqNone.eq_none_str (bg I q (by simp))
  | _=>exact absurd (show false=true from hs) aab
 | bl i=>
  cases rx
  cases y with
  | non=>cases ry;exact PySem.EqNone.eq_bool_none (bg I q (by simp))
  | bl j=>cases ry;exact eq_bool (bg I q Dg)
  | str j=>obtain ⟨t',rfl⟩:=ry;exact PySem.EqMixed.eq_bool_str (bg I q (by simp))
  | _=>exact absurd (show false=true from hs) aab
 | int i=>
  obtain ⟨t,rfl⟩:=rx;cases y with
  | non=>cases ry;exact PySem.EqNone.eq_int_none (bg I q (by simp))
  | int j=>obtain ⟨t',rfl⟩:=ry;exact eq_int (bg I q zc)
  | str j=>obtain ⟨t',rfl⟩:=ry;exact PySem.EqMixed.eq_int_str (bg I q (by simp))
  | _=>exact absurd (show false=true from hs) aab
 | str i=>
  obtain ⟨t,rfl⟩:=rx;cases y with
  | non=>cases ry;exact PySem.EqNone.eq_str_none (bg I q (by simp))
  | bl j=>cases ry;exact PySem.EqMixed.eq_str_bool (bg I q (by simp))
  | int j=>obtain ⟨t',rfl⟩:=ry;exact PySem.EqMixed.eq_str_int (bg I q (by simp))
  | str j=>obtain ⟨t',rfl⟩:=ry;exact eq_str (bg I q yz)
  | _=>exact absurd (show false=true from hs) aab
 | byt i=>
  obtain ⟨t,rfl⟩:=rx;cases y with
  | byt j=>obtain ⟨t',rfl⟩:=ry;exact PySem.W.eq_bytes (bg I q ze)
  | _=>exact absurd (show false=true from hs) aab
 | _=>cases y <;> exact absurd (show false=true from hs) aab
theorem Co:OpR X (compareOp .NotEq) rNe:=by
 intro pins s σ H x y v u Q I rx ry h;obtain ⟨hs,q⟩:=h;cases x with
 | non=>
  cases rx
  cases y with
  | non=>cases ry;exact PySem.EqNone.ne_none_none (bg I q (by simp))
  | bl j=>cases ry;exact PySem.EqNone.ne_none_bool (bg I q (by simp))
  | int j=>obtain ⟨t',rfl⟩:=ry;exact PySem.EqNone.ne_none_int (bg I q (by simp))
  | str j=>obtain ⟨t',rfl⟩:=ry;exact PySem.EqNone.ne_none_str (bg I q (by simp))
  | _=>exact absurd (show false=true from hs) aab
 | bl i=>
  cases rx
  cases y with
  | non=>cases ry;exact PySem.EqNone.ne_bool_none (bg I q (by simp))
  | bl j=>cases ry;exact ne_bool (bg I q (congrArg not Dg))
  | str j=>obtain ⟨t',rfl⟩:=ry;exact PySem.EqMixed.ne_bool_str (bg I q (by simp))
  | _=>exact absurd (show false=true from hs) aab
 | int i=>
  obtain ⟨t,rfl⟩:=rx;cases y with
  | non=>cases ry;exact PySem.EqNone.ne_int_none (bg I q (by simp))
  | int j=>obtain ⟨t',rfl⟩:=ry;exact ne_int (bg I q (congrArg not zc))
  | str j=>obtain ⟨t',rfl⟩:=ry;exact PySem.EqMixed.ne_int_str (bg I q (by simp))
  | _=>exact absurd (show false=true from hs) aab
 | str i=>
  obtain ⟨t,rfl⟩:=rx;cases y with
  | non=>cases ry;exact PySem.EqNone.ne_str_none (bg I q (by simp))
  | bl j=>cases ry;exact PySem.EqMixed.ne_str_bool (bg I q (by simp))
  | int j=>obtain ⟨t',rfl⟩:=ry;exact PySem.EqMixed.ne_str_int (bg I q (by simp))
  | str j=>obtain ⟨t',rfl⟩:=ry;exact ne_str (bg I q (congrArg not yz))
  | _=>exact absurd (show false=true from hs) aab
 | byt i=>
  obtain ⟨t,rfl⟩:=rx;cases y with
  | byt j=>obtain ⟨t',rfl⟩:=ry;exact PySem.W.ne_bytes (bg I q (congrArg not ze))
  | _=>exact absurd (show false=true from hs) aab
 | _=>cases y <;> exact absurd (show false=true from hs) aab
theorem op_lt:OpR X (compareOp .Lt) (rI0 λi j=>.bl (decide (i < j))):=opB0 λ_ _ _ _ _ _ _ q=>lt_int q
theorem op_gt:OpR X (compareOp .Gt) (rI0 λi j=>.bl (decide (j < i))):=opB0 λ_ _ _ _ _ _ _ q=>gt_int q
theorem nomark (b:Expr) {op:CmpOp} (h:op≠.In:=by decide) (h2:op≠.NotIn:=by decide):behindInMarks op b=false:=by
 have e1:(op==CmpOp.In)=false:=by cases op <;> first | rfl | exact absurd rfl h
 have e2:(op==CmpOp.NotIn)=false:=by cases op <;> first | rfl | exact absurd rfl h2
 cases b <;> simp[behindInMarks,e1,e2]
theorem t5 {op:CmpOp} {r:R2} (ho:OpR X (compareOp op) r) (ha:PE X a ta) (hb:PE X b tb) (hm:behindInMarks op b=false):PE X (.Compare a [op] [b] pos) (tOp r ta tb):=by
 intro pins s σ H Q I h;exact wpAny_Compare1 (binT ha hb I h λv u s2 x y H2 I2 rx ry q=>ho pins s2 σ H2 x y v u Q I2 rx ry q) hm
def vg (t:TE):TT:=λσ H Q=>t σ H λx H'=>∃k,x=.bl k∧Q k H'
theorem Fx {op:CmpOp} {r:R2} (ho:OpR X (compareOp op) r) (ha:PE X a ta) (hb:PE X b tb) (hm:behindInMarks op b=false):PT X (.Compare a [op] [b] pos) (vg (tOp r ta tb)):=by
 intro pins s σ H Q I h;refine wpAny_isTrue_Compare1 (thn (ha pins s σ H _ I h) λv s1 ⟨x,H1,I1,r1,q1⟩=>thn (hb pins s1 σ H1 _ I1 q1) λu s2 ⟨y,H2,I2,r2,q2⟩=>
  thn (ho pins s2 σ H2 x y v u _ I2 r1 r2 q2) λc s3 ⟨z,H3,I3,r3,k,e,q3⟩=>?_) hm
 subst e;cases r3
 exact wpAny_truthy_bool ⟨H3,I3,q3⟩
theorem oy:(sizeLine:Nat) < 2 ^ 63:=by rw[sizeLine_eq];decide
theorem xn:OpR X (binaryOp .Add) (λx y H Q=>∃i j,x=.str i∧y=.str j∧i.length+j.length≤sizeLine∧Q (.str (i++j)) H):=by
 intro pins s σ H x y v u Q I rx ry h;obtain ⟨i,j,rfl,rfl,hz,q⟩:=h;obtain ⟨t,rfl⟩:=rx;obtain ⟨t',rfl⟩:=ry;exact add_str (λt' tk=>⟨.str (i++j),H,I.tok _,⟨_,rfl⟩,q⟩) hz
theorem vals1 {x:V} {us:List Value} (r:Vals [x] us):∃u,us=[u]∧RelV x u:=by
 cases r with
 | cons r1 r2=>cases r2;exact ⟨_,rfl,r1⟩
theorem vals2 {x y:V} {us:List Value} (r:Vals [x,y] us):∃u w',us=[u,w']∧RelV x u∧RelV y w':=by
 cases r with
 | cons r1 r2=>
  cases r2 with
  | cons r3 r4=>cases r4;exact ⟨_,_,rfl,r1,r3⟩
theorem Az (hc:X.calm=true):fj X (.builtin "min") (λxs H Q=>∃i j,xs=[.int i,.int j]∧Q (.int (if j < i then j else i)) H):=by
 intro pins s σ H xs us Q I r h;obtain ⟨i,j,rfl,q⟩:=h;obtain ⟨u,w',rfl,⟨t,rfl⟩,⟨t',rfl⟩⟩:=vals2 r;refine min_two_ints (I.ok.hd hc) λh' tk k=>⟨_,H,I.kept k,?_,q⟩;by_cases hj:j < i
 ·rw[if_pos hj,if_pos hj];exact ⟨_,rfl⟩
 ·rw[if_neg hj,if_neg hj];exact ⟨_,rfl⟩
theorem zz:fj X (.type "int") (λxs H Q=>(∃i,xs=[.int i]∧Q (.int i) H)∨∃k,xs=[.bl k]∧Q (.int (if k then 1 else 0)) H):=by
 intro pins s σ H xs us Q I r h;rcases h with ⟨i,rfl,q⟩ | ⟨k,rfl,q⟩
 ·obtain ⟨u,rfl,t,rfl⟩:=vals1 r;exact call_int_int ⟨.int i,H,I,⟨_,rfl⟩,q⟩
 ·obtain ⟨u,rfl,r1⟩:=vals1 r;cases r1
  exact call_int_bool ⟨.int (if k then 1 else 0),H,I.tok _,⟨_,rfl⟩,q⟩
end
end L2
namespace L2
open PySem PySem.Spec PyProof.Rows
structure ObjM (h:Heap) (x dx C:Addr) (mA:Str→Option Value):Prop where
 obj:h.get? x=some (PySem.W.instObj C dx)
 ns:h.Ns1 dx mA
 ne:dx≠x
theorem Ae {h:Heap} {dx:Addr} {mA:Str→Option Value} (n:h.Ns1 dx mA):∃od,h.get? dx=some od∧∀name,PySem.W.lookIn name od=some (mA name):=by
 obtain ⟨o,es,ep,ho,hd,hk,_,hm⟩:=n;refine ⟨o,ho,λname=>?_⟩;have e:=hm name;unfold nsFind findBy at e;rw[←Array.find?_toList] at e;unfold PySem.W.lookIn;rw[hd];dsimp only;split
 ·rename_i y q
  rw[q] at e;exact congrArg some e
 ·rename_i q
  rw[q] at e;have a:es.toList.any (·.refKey)=false:=by
   rw[ae3];intro y hy;obtain ⟨z,t,hkey⟩:=hk y (Array.mem_toList_iff.mp hy);simp[DictEntry.refKey,hkey]
  have a':¬es.toList.any (·.refKey)=true:=by rw[a];exact aab
  rw[if_neg a'];exact congrArg some e
theorem ObjM.look {h:Heap} {x dx C:Addr} {mA:Str→Option Value} (I:ObjM h x dx C mA):∃od,PySem.W.InstAt h x (PySem.W.instObj C dx) C (some od)∧∀name,PySem.W.lookIn name od=some (mA name):=
 let ⟨od,ho,hl⟩:=Ae I.ns
 ⟨od,⟨I.obj,rfl,rfl,ho⟩,hl⟩
section
variable {prog:Program} {w:World} {A:Around} {E:Value→Shared→Prop} {s:Shared} {K:PySem.W.Frag} {x dx C f:Addr} {mA:Str→Option Value} {name:Str} {v:Value}
end
theorem ku.some_of {v:V} {o:Option Value} (r:ku (some v) o):∃u,o=some u∧RelV v u:=by
 cases o with
 | none=>exact (show False from r).elim
 | some u=>exact ⟨u,rfl,r⟩
section
variable {P:Program} {w:World} {H H':Hp} {h h':Heap} {a C dx:Addr} {fs fs':List (Str×V)}
theorem Hi (hok:HOk P w H h) (e:H a=some (.ins C dx fs)):∃mA,ObjM h a dx C mA∧(∀f,ku (fs.lookup f) (mA f))∧PySem.Within mA (fs.map (·.1))∧fs.length≤1000∧H dx=some (.own a):=by
 obtain ⟨d,z,ne,ob,mA,n,r,q⟩:=(show bz P w H h a (.ins C dx fs) from hok a _ e);exact ⟨mA,⟨ob,n,ne⟩,r,q,z,d⟩
end
structure Cls (K:PySem.W.Frag) (C:Addr):Prop where
 pg:PySem.W.plainGet K C Str.empty=true
 hd:PySem.W.hasDictIn K C=true
 po:PySem.W.plainOver K C=true
 sa:PySem.W.findIn K (.ref C) "__setattr__"=some (some (.builtin "object.__setattr__"))
theorem Cls.get {K:PySem.W.Frag} {C:Addr} (c:Cls K C) (f:Str):PySem.W.plainGet K C f=true:=c.pg
section
variable {X:Cx} {pins:List (Addr×Obj)} {σ:St} {H:Hp} {s:Shared} {a C dx:Addr} {fs:List (Str×V)} {f:Str} {v:V} {A:Around} {E:Value→Shared→Prop}
end
section
variable {X:Cx} {o e value:Expr} {f:Str} {pos pos' tpos:Pos} {ta tv:TE}
end
section
variable {X:Cx} {pins:List (Addr×Obj)} {σ:St} {H:Hp} {s:Shared} {A:Around} {E:Value→Shared→Prop} {Q:Value→Shared→Prop} {c:Value} {b:Bool}
inductive lb (K:PySem.W.Frag) (H:Hp):V→Value→Prop where
 | non:lb K H .non (.type "NoneType")
 | bl (x:Bool):lb K H (.bl x) (.type "bool")
 | int (i:Int):lb K H (.int i) (.type "int")
 | str (x:Str):lb K H (.str x) (.type "str")
 | flt (x:UInt64):lb K H (.flt x) (.type "float")
 | lst {a:Addr} {xs:List V} (e:H a=some (.lst xs)):lb K H (.ref a) (.type "list")
 | frz {a:Addr} {o:Obj} {xs:List V} (e:H a=some (.frz o (.lst xs))):lb K H (.ref a) (.type "list")
 | tup {a:Addr} {xs:List V} (e:H a=some (.tup xs)):lb K H (.ref a) (.type "tuple")
 | dK {a:Addr} {kvs:List (Key×V)} (e:H a=some (.dK kvs)):lb K H (.ref a) (.type "dict")
 | dT {a:Addr} {kvs:List (List Key×V)} (e:H a=some (.dT kvs)):lb K H (.ref a) (.type "dict")
 | ins {a C dx:Addr} {fs:List (Str×V)} (e:H a=some (.ins C dx fs)) (cl:Cls K C) (ha:PySem.W.findIn K (.ref C) "__class__"=some (some (.builtin "object.__class__")))
   (hn:PySem.W.specialIn K (.builtin "object.__class__") "__get__"=some (some (.builtin "getset_descriptor.__get__"))) (htk:PySem.W.takesIn K (.builtin "object.__class__")=some true)
   (hm:PySem.W.mroIn K C (.type "object")=some true):lb K H (.ref a) (.ref C)
theorem Ay {x:V} {u t:Value} (I:Inv X pins σ H s) (rx:RelV x u) (ty:lb X.K H x t) (e:PySem.W.kitOne X.K t c=some b) (h:∀tk,Q (.bool b) { s with toks:=tk }):
  wpAny (model X.prog X.w) A (call (.builtin "isinstance") [u,c]) Q E s:=by
 cases ty with
 | non=>cases (show u=Value.none from rx);exact PySem.W.kia_one PySem.W.kitx_none I.kIn True.intro e (λz=>nomatch z) h
 | bl y=>cases (show u=Value.bool y from rx);exact PySem.W.kia_one PySem.W.kitx_bool I.kIn True.intro e (λz=>nomatch z) h
 | int i=>obtain ⟨t,q⟩:=(show ∃t,u=Value.int i t from rx);cases q;exact PySem.W.kia_one PySem.W.kitx_int I.kIn True.intro e (λz=>nomatch z) h
 | str y=>obtain ⟨t,q⟩:=(show ∃t,u=Value.str y t from rx);cases q;exact PySem.W.kia_one PySem.W.kitx_str I.kIn True.intro e (λz=>nomatch z) h
 | flt y=>obtain ⟨t,q⟩:=(show ∃t,u=Value.float y t from rx);cases q;exact PySem.W.kia_one PySem.W.kitx_float I.kIn True.intro e (λz=>nomatch z) h
 | @lst a xs ea=>
  cases (show u=Value.ref a from rx)
  obtain ⟨_,_,n,_,h1⟩:=(show bz X.prog X.w H s.heap a (.lst xs) from I.hok a _ ea);exact PySem.W.kia_one PySem.W.kitx_list I.kIn ⟨_,h1,rfl⟩ e (λz=>nomatch z) h
 | @frz a ob xs ea=>
  cases (show u=Value.ref a from rx)
  obtain ⟨_,_,_,n,_,h1⟩:=(show bz X.prog X.w H s.heap a (.frz ob (.lst xs)) from I.hok a _ ea);exact PySem.W.kia_one PySem.W.kitx_list I.kIn ⟨_,h1,rfl⟩ e (λz=>nomatch z) h
 | @tup a xs ea=>
  cases (show u=Value.ref a from rx)
  obtain ⟨_,_,_,p⟩:=(show bz X.prog X.w H s.heap a (.tup xs) from I.hok a _ ea);obtain ⟨o,h1,h2,_⟩:=p;exact PySem.W.kia_one PySem.W.kitx_tuple I.kIn ⟨o,h1,h2⟩ e (λz=>nomatch z) h
 | @dK a kvs ea=>
  cases (show u=Value.ref a from rx)
  obtain ⟨_,_,vs,_,p⟩:=(show bz X.prog X.w H s.heap a (.dK kvs) from I.hok a _ ea);obtain ⟨o,es,ep,h1,h2,_⟩:=p;exact PySem.W.kia_one PySem.W.kitx_dict I.kIn ⟨o,h1,h2.1⟩ e (λz=>nomatch z) h
 | @dT a kvs ea=>
  cases (show u=Value.ref a from rx)
  obtain ⟨_,_,xs,_,o,es,ep,h1,h2,_⟩:=(show bz X.prog X.w H s.heap a (.dT kvs) from I.hok a _ ea);exact PySem.W.kia_one PySem.W.kitx_dict I.kIn ⟨o,h1,h2.1⟩ e (λz=>nomatch z) h
 | @ins a C dx fs ea cl ha hn htk hm=>
  cases (show u=Value.ref a from rx)
  obtain ⟨mA,O,_⟩:=Hi I.hok ea;obtain ⟨od,J,_⟩:=O.look;exact PySem.W.kia_one (PySem.W.kitx_own (cl.get _) cl.hd ha hn htk hm) I.kIn J e (λz=>nomatch z) h
end
end L2
namespace L2
open PySem PySem.Spec PyProof.Rows
structure dr (k:Nat) (A:Around):Prop where
 hd:A.handled=none
 dp:A.depth+3*k+5 < recursionLimit
 un:A.units+16*k+200 < cLine
theorem dr.mono {j k:Nat} {A:Around} (r:dr k A) (h:j≤k):dr j A:=⟨r.hd,by have:=r.dp;omega,by have:=r.un;omega⟩
theorem dr.deeper {k:Nat} {A:Around} (r:dr (k+1) A) (env:Env):dr k (A.deeper env):=
 ⟨r.hd,by have:=r.dp;show A.depth+1+3*k+5 < _;omega,by have:=r.un;show A.units+3+16*k+200 < _;omega⟩
theorem dr.depth {k:Nat} {A:Around} (r:dr k A):A.depth < recursionLimit:=by have:=r.dp;omega
theorem dr.units {k:Nat} {A:Around} (r:dr k A):A.units+64 < cLine:=by have:=r.un;omega
def tNil:TA:=λ_ H Q=>Q [] H
def tCons (ta:TE) (tr:TA):TA:=λσ H Q=>ta σ H λx H1=>tr σ H1 λxs H2=>Q (x::xs) H2
section
variable {X:Cx} {e:Expr} {es:List Expr} {te:TE} {t:TA} {pos:Pos}
theorem Dj:PA X [] tNil:=λ_ _ _ _ H Q I h=>Calls.spliced_nil ⟨[],H,I,.nil,h⟩
theorem uf (ha:PE X e te) (hr:PA X es t) (hs:starEach (e::es) X.env=(false,eval e X.env)::starEach es X.env:=by rfl):PA X (e::es) (tCons te t):=by
 intro pos pins s σ H Q I h;rw[hs];show wpAny _ _ (spliced ((false,eval e X.env)::backTo pos (starEach es X.env))) _ _ s
 refine Calls.spliced_cons (thn (ha pins s σ H _ I h) λu s1 ⟨x,H1,I1,r1,q1⟩=>?_);exact thn (hr pos pins s1 σ H1 _ I1 q1) λus s2 ⟨xs,H2,I2,r2,q2⟩=>⟨x::xs,H2,I2,.cons r1 r2,q2⟩
def tTup (t:TA):TE:=λσ H Q=>t σ H λxs H1=>xs.length≤sizeLine∧∀p,H1 p=none→Q (.ref p) (upd H1 p (.tup xs))
def tLst (t:TA):TE:=λσ H Q=>t σ H λxs H1=>xs.length≤sizeLine∧∀p,H1 p=none→Q (.ref p) (upd H1 p (.lst xs))
theorem pe_tup {x1} (h:PA X es t):PE X (.Tuple es x1 pos) (tTup t):=by
 intro pins s σ H Q I hq;refine wpAny_Tuple_spliced (thn (h pos pins s σ H _ I hq) λus s1 ⟨xs,H1,I1,r,z,q⟩=>⟨by rw[←r.length];exact z,?_⟩);have hf:H1 s1.heap.objs.size=none:=I1.hok.fresh (aa5 _);refine ⟨.ref s1.heap.objs.size,upd H1 s1.heap.objs.size (.tup xs),I1.laid (t':=s1.toks) (λb u e=>Heap.get?_push_of_some _ e) (aa5 _) ?_,rfl,q _ hf⟩;exact ⟨z,us,r,⟨_,Heap.get?_push_size _ rfl,rfl,_,rfl,rfl⟩⟩
theorem pe_lst (h:PA X es t):PE X (.List es pos) (tLst t):=by
 intro pins s σ H Q I hq;refine wpAny_List_spliced (thn (h pos pins s σ H _ I hq) λus s1 ⟨xs,H1,I1,r,z,q⟩=>⟨by rw[←r.length];exact z,?_⟩);have hf:H1 s1.heap.objs.size=none:=I1.hok.fresh (aa5 _);refine ⟨.ref s1.heap.objs.size,upd H1 s1.heap.objs.size (.lst xs),I1.laid (t':=s1.toks) (λb u e=>Heap.get?_push_of_some _ e) (aa5 _) ?_,rfl,q _ hf⟩;exact ⟨z,us,0,r,Heap.get?_push_size _ rfl⟩
end
abbrev Sp:=List V→Hp→VK→XK→Prop
abbrev CXT:=List Env→Hp→Shared→XK→Value→Shared→Prop
structure Env0 (P:Program) (w:World) (K:PySem.W.Frag) (mg:Str→Option Value) (base:Heap) (A:Around) (outer:List Env) (s:Shared) (H:Hp):Prop where
 frames:A.frames=some outer
 mod:Mod K mg base
 bs:∀b o,base.get? b=some o→s.heap.get? b=some o∧H b=none
 bsz:base.objs.size≤s.heap.objs.size
 la:s.heap.FunFrames base outer
 frf:∀b∈frs outer,H b=none
 hok:HOk P w H s.heap
 bare:AllBare s.gens
def CE (outer:List Env) (P:Program) (w:World) (H:Hp) (s:Shared) (Q:VK) (u:Value) (s':Shared):Prop:=
 ∃v H',s'.os=s.os∧AllBare s'.gens∧Un (frs outer) [] H H' s.heap s'.heap∧HOk P w H' s'.heap∧RelV v u∧Q v H'
def CR (CX:CXT) (outer:List Env) (P:Program) (w:World) (H:Hp) (s:Shared) (Q:VK) (E:XK) (r:Result) (s':Shared):Prop:=
 match r with
 | .ok (.ret u)=>CE outer P w H s Q u s'
 | .ok _=>False
 | .error e=>CX outer H s E e s'
structure iz (P:Program) (w:World) (K:PySem.W.Frag) (mg:Str→Option Value) (base:Heap) (CX:CXT) (k:Nat) (f:Addr) (fd:FuncData) (ps:List Str) (sp:Sp):Prop where
 len:∀vs H Q E,sp vs H Q E→vs.length=ps.length
 run:∀(A:Around) (outer:List Env) (s:Shared) (H:Hp) (args:Args) (us:List Value) (vs:List V) (Q:VK) (E:XK),dr k A→Env0 P w K mg base A outer s H→BindsTo s fd args (ps.zip us)→Vals vs us→sp vs H Q E→
  codeAny (model P w) A (.call (.ref f) args) (CR CX outer P w H s Q E) s
theorem iz.mono {P:Program} {w:World} {K:PySem.W.Frag} {mg:Str→Option Value} {base:Heap} {CX:CXT} {j k:Nat} {f:Addr} {fd:FuncData} {ps:List Str} {sp:Sp} (F:iz P w K mg base CX j f fd ps sp) (h:j≤k):
  iz P w K mg base CX k f fd ps sp:=⟨F.len,λA outer s H args us vs Q E hr=>F.run A outer s H args us vs Q E (hr.mono h)⟩
section
variable {X:Cx} {pins:List (Addr×Obj)} {σ:St} {H:Hp} {s s':Shared}
theorem Inv.gb (I:Inv X pins σ H s):Env0 X.prog X.w X.K X.mg X.base X.A X.stack s H:=
 ⟨I.ok.frames,I.ok.mod,I.bs,aaw I.ok.bsz I.sz,I.stack,I.rm,I.hok,I.bare⟩
theorem Inv.after {Q:VK} {u:Value} (I:Inv X pins σ H s) (h:CE X.stack X.prog X.w H s Q u s'):EP X pins σ Q u s':=by
 obtain ⟨v,H',os,bare,un,hok,r,q⟩:=h;obtain ⟨hh,g,d,t,os'⟩:=s';obtain rfl:os'=s.os:=os;exact ⟨v,H',I.call (h':=hh) (g':=g) (d':=d) (t':=t) (ch:=[]) un hok bare (λb z=>absurd z (by simp)),r,q⟩
end
def zk (sp:Sp) (dvs:List V) (E:XK) (t:TA):TE:=λσ H Q=>t σ H λvs H1=>sp (vs++dvs) H1 Q E
def Binds (K:PySem.W.Frag) (fd:FuncData) (ps:List Str) (ds:List Value):Prop:=
 ∀(s:Shared) (us:List Value),K.In s.heap→(us++ds).length=ps.length→BindsTo s fd ⟨us,[]⟩ (ps.zip (us++ds))
theorem Binds.all {K:PySem.W.Frag} {fd:FuncData} {ps:List Str} (h:∀us:List Value,us.length=ps.length→bindArgs fd ⟨us,[]⟩=pure (ps.zip us)):Binds K fd ps []:=λs us _ hl=>by
 rw[abk] at hl ⊢;exact .of_eq (h us hl)
def Passes (CX:CXT) (X:Cx) (E:XK):Prop:=∀(pins:List (Addr×Obj)) (σ:St) (H:Hp) (s:Shared) (e:Value) (s':Shared),Inv X pins σ H s→CX X.stack H s E e s'→X.xe e s'
section
variable {X:Cx} {CX:CXT} {k:Nat} {f C:Addr} {fd:FuncData} {ps:List Str} {sp:Sp} {dvs:List V} {ds:List Value} {E:XK} {x m:Str} {p pos apos:Pos} {e o:Expr} {es:List Expr} {ta:TE} {t:TA}
theorem run_fn {pins:List (Addr×Obj)} {σ:St} {H:Hp} {s:Shared} {Q:VK} {us:List Value} {vs:List V} (F:iz X.prog X.w X.K X.mg X.base CX k f fd ps sp) (hr:dr k X.A) (hb:Binds X.K fd ps ds) (hd:Vals dvs ds) (hx:Passes CX X E)
  (I:Inv X pins σ H s) (r:Vals vs us) (h:sp (vs++dvs) H Q E):wpAny (model X.prog X.w) X.A (call (.ref f) us) (EP X pins σ Q) X.xe s:=by
 have r2:Vals (vs++dvs) (us++ds):=r.append hd;have hl:(us++ds).length=ps.length:=by rw[←r2.length];exact F.len _ _ _ _ h
 refine wpAny_call (codeAny_mono (F.run X.A X.stack s H ⟨us,[]⟩ (us++ds) (vs++dvs) Q E hr I.gb (hb s us I.kIn hl) r2 h) λr s' hq=>?_);cases r with
 | error e=>exact hx pins σ H s e s' I hq
 | ok fl=>
  cases fl with
  | ret u=>exact I.after hq
  | next=>exact False.elim hq
  | brk=>exact False.elim hq
  | cont=>exact False.elim hq
theorem yy (F:iz X.prog X.w X.K X.mg X.base CX k f fd ps sp) (hr:dr k X.A) (hg:Gl X x) (hm:X.mg x=some (.ref f)) (hk:PySem.W.keepIn X.K (.ref f)=true) (hb:Binds X.K fd ps ds) (hd:Vals dvs ds) (hx:Passes CX X E)
  (ha:PA X (e::es) t) (hdb:(x==("__debug__":Str))=false:=by decide) (he:starEach (e::es) X.env=(false,eval e X.env)::starEach es X.env:=by rfl) (hpl:(backTo pos (starEach es X.env)).any (·.1)=false:=by rfl):
  PE X (.Call (.Name x p) (e::es) [] pos) (zk sp dvs E t):=by
 intro pins s σ H Q I h;refine wpAny_Call_Name_kw (jz I hg hm ?_ hdb);refine PySem.W.callWith_K (h₀:=X.base) I.ok.mod.kin hk (thn (ha pos pins s σ H _ I h) λus s1 ⟨vs,H1,I1,r,q⟩=>⟨I1.kIn,?_⟩) he hpl;exact run_fn F hr hb hd hx I1 r q
end
section
variable {X:Cx} {CX:CXT} {k:Nat} {f C:Addr} {fd:FuncData} {ps ks:List Str} {sp:Sp} {E:XK} {x m:Str} {p pos apos kpos:Pos} {e o:Expr} {es:List Expr} {kws:List Keyword} {te ta:TE} {t tk:TA} {nm:Option Str}
variable {g:List Value→List Value→List Value} {gV:List V→List V→List V}
end
structure ba (N P:List Str) (sc:Scope):Prop where
 kind:sc.kind=.function
 co:sc.isCoroutine=false
 gen:sc.isGenerator=false
 nd:N.Nodup
 pre:N.take P.length=P
 par:∀x∈P,sc.names.lookup x=some .local∨sc.names.lookup x=some .cell
 nofree:∀y∈sc.names,y.2≠.free
theorem qy {kindOf:Str→Option NameKind} {x:Str}:∀{binds:List (Str×Value)} {m:Str→Option Value},(∀v,(x,v)∉binds)→bindL kindOf binds m x=m x
 | [],_,_=>rfl
 | (n,v)::r,m,h=>by
  unfold bindL;rw[qy λw hw=>h w (aak _ hw)];split
  ·have:x≠n:=by rintro rfl;exact h v aal
   simp[this]
  ·rfl
theorem qx {kindOf:Str→Option NameKind} {x:Str}:∀{binds:List (Str×Value)} {m:Str→Option Value},(∀v,(x,v)∉binds)→bindC kindOf binds m x=m x
 | [],_,_=>rfl
 | (n,v)::r,m,h=>by
  unfold bindC;rw[qx λw hw=>h w (aak _ hw)];split
  ·rfl
  ·have:x≠n:=by rintro rfl;exact h v aal
   simp[this]
theorem rf {kindOf:Str→Option NameKind} {x:Str} {v:Value}:∀{P:List Str} {vs:List Value} {i:Nat} {m:Str→Option Value},P.Nodup→P[i]?=some x→vs[i]?=some v→kindOf x=some .local→
  bindL kindOf (P.zip vs) m x=some v
 | [],_,_,_,_,h,_,_=>by simp at h
 | _::_,[],_,_,_,_,h,_=>by simp at h
 | p::P,w::vs,0,m,nd,h1,h2,hk=>by
  simp at h1 h2;subst h1;subst h2;show bindL kindOf ((p,w)::P.zip vs) m p=_
  unfold bindL;rw[qy λv hv=>(List.nodup_cons.mp nd).1 (ace hv).1,if_pos hk];simp
 | p::P,w::vs,i+1,m,nd,h1,h2,hk=>by
  show bindL kindOf ((p,w)::P.zip vs) m x=_
  unfold bindL;exact rf (i:=i) (List.nodup_cons.mp nd).2 (by simpa using h1) (by simpa using h2) hk
theorem qm {kindOf:Str→Option NameKind} {x:Str} {v:Value}:∀{P:List Str} {vs:List Value} {i:Nat} {m:Str→Option Value},P.Nodup→P[i]?=some x→vs[i]?=some v→kindOf x≠some .local→
  bindC kindOf (P.zip vs) m x=some v
 | [],_,_,_,_,h,_,_=>by simp at h
 | _::_,[],_,_,_,_,h,_=>by simp at h
 | p::P,w::vs,0,m,nd,h1,h2,hk=>by
  simp at h1 h2;subst h1;subst h2;show bindC kindOf ((p,w)::P.zip vs) m p=_
  unfold bindC;rw[qx λv hv=>(List.nodup_cons.mp nd).1 (ace hv).1,if_neg hk];simp
 | p::P,w::vs,i+1,m,nd,h1,h2,hk=>by
  show bindC kindOf ((p,w)::P.zip vs) m x=_
  unfold bindC;exact qm (i:=i) (List.nodup_cons.mp nd).2 (by simpa using h1) (by simpa using h2) hk
noncomputable def start (N:List Str) (vs:List V):St:=vs.map some++aac (N.length - vs.length) none
noncomputable def jk (CX:CXT) (P:Program) (w:World) (K:PySem.W.Frag) (mg:Str→Option Value) (base:Heap) (N:List Str) (qual:Str) (scope:Scope) (f:Addr) (cd:Value) (A:Around) (outer:List Env) (s:Shared) (H:Hp) (E:XK):Cx where
 prog:=P
 w:=w
 K:=K
 mg:=mg
 base:=base
 A:=A.deeper (envOfC qual scope s.heap.objs.size f cd)
 N:=N
 s₀:=s
 H₀:=H
 env:=envOfC qual scope s.heap.objs.size f cd
 outer:=outer
 stack:=envOfC qual scope s.heap.objs.size f cd::outer
 ex:=[]
 calm:=true
 fn:=λ_=>true
 pn:=[]
 xe:=λe s'=>wpAny (model P w) (A.deeper (envOfC qual scope s.heap.objs.size f cd)) (leaving (envOfC qual scope s.heap.objs.size f cd) e) (λ_ s''=>CX outer H s E e s'') (λe' s''=>CX outer H s E e' s'') s'
theorem wd {sc:Scope} {n:Nat} {x:Str} (h:sc.names.lookup x=some .cell):∃c,(cellsFrom n sc.names []).lookup x=some c:=by
 have q:=PySem.W.cellsFrom_some sc.names n [] (.inl h);exact Option.isSome_iff_exists.mp q
theorem Ap {CX:CXT} {P:Program} {w:World} {K:PySem.W.Frag} {mg:Str→Option Value} {base:Heap} {N ps:List Str} {qual:Str} {scope:Scope} {f:Addr} {cd:Value} {A:Around} {outer:List Env} {s s1:Shared} {H:Hp} {E:XK} {us:List Value} {vs:List V}
  (S:ba N ps scope) (hd:A.handled=none) (e0:Env0 P w K mg base A outer s H) (hl:vs.length=ps.length) (r:Vals vs us)
  (x:InCallC s s.heap.objs.size (bindL (envOfC qual scope s.heap.objs.size f cd).kindOf (ps.zip us) λ_=>none) (cellsFrom (s.heap.objs.size+1) scope.names []) (bindC (envOfC qual scope s.heap.objs.size f cd).kindOf (ps.zip us) λ_=>none) s1):
  Inv (jk CX P w K mg base N qual scope f cd A outer s H E) [] (start N vs) H s1:=by
 have hpl:ps.length≤N.length:=by have:=congrArg aca S.pre;rw[aay] at this;omega
 obtain ⟨h1,tk,rfl,hk⟩:=x.done;have noA:∀b:Addr,b∉(jk CX P w K mg base N qual scope f cd A outer s H E).ex:=λb z=>absurd (show b∈([]:List Addr) from z) (by simp);refine ⟨⟨e0.mod,S.kind,rfl,rfl,aa5 _,λy z c h1 h2=>?_,λy hy=>?_,λy c _ h=>?_,λ_=>hd,Around.frames_deeper e0.frames,.inr ⟨rfl,rfl⟩,λb z=>absurd z (noA b),e0.bs,e0.bsz,λb _ _=>noA b,λb z=>absurd z (noA b),e0.la,e0.frf⟩,
  rfl,e0.bare,Un.kept hk,⟨_,x.toInCall.ns,λi y v h1 h2 h3=>?_⟩,λy c h=>⟨_,x.cell y c h⟩,e0.hok.fresh (aa5 _),λy c h=>?_,λp hp=>absurd (show p∈([]:List (Addr×Obj)) from hp) (by simp),e0.hok.kept hk,?_⟩
 ·exact name_of_addr x.apart (PySem.mem_of_lookup h1) (PySem.mem_of_lookup h2)
 ·have hy:scope.names.lookup y=some .cell∨scope.names.lookup y=some .free:=hy;rcases hy with hy | hy
  ·exact wd hy
  ·exact absurd rfl (S.nofree _ (PySem.mem_of_lookup hy))
 ·exact abq (x.above y c (PySem.mem_of_lookup h))
 ·have hi:i < vs.length:=by
   unfold start at h2;by_cases hi:i < vs.length
   ·exact hi
   ·rw[aam (by simpa using hi)] at h2;rw[adh] at h2;split at h2 <;> cases h2
  have ha:vs[i]?=some v:=by
   unfold start at h2;rw[aao (by simpa using hi),aa7] at h2;cases e:vs[i]? with
   | none=>rw[e] at h2;cases h2
   | some a=>rw[e] at h2;cases h2;rfl
  obtain ⟨u,hu,rv⟩:=r.get ha;have hp:ps[i]?=some y:=by
   rw[←S.pre,acg (by omega)];exact h1
  have ndP:ps.Nodup:=by rw[←S.pre];exact S.nd.sublist (ad8 _ _)
  refine ⟨u,rv,?_⟩;rcases S.par y (aad hp) with k | k
  ·exact .inl ⟨k,rf ndP hp hu k⟩
  ·obtain ⟨c,e⟩:=wd (n:=s.heap.objs.size+1) k;refine .inr ⟨.inl k,c,e,?_⟩;have q:=x.cell y c e;rw[qm ndP hp hu (by show scope.names.lookup y≠_;rw[k];decide)] at q;exact q
 ·exact e0.hok.fresh (abq (x.above y c (PySem.mem_of_lookup h)))
 ·unfold start;show _=N.length
  rw[aa1,aa0,ab4];omega
theorem fn_of {CX:CXT} {P:Program} {w:World} {K:PySem.W.Frag} {mg:Str→Option Value} {base:Heap} {k:Nat} {f:Addr} {name qual:Str} {params:Arguments} {body:List Stmt} {scope:Scope} {dV kV doc pm cdv ct oc:Value} {an od:Option Addr}
  {osl:Array (Option Value)} {N ps:List Str} {sp:Sp} (lk:K.lookup f=some ⟨oc,od,.func (PySem.W.fnOf name qual params body scope dV kV doc pm an cdv ct),osl⟩) (hcd:PySem.W.codeIn K cdv qual=true) (S:ba N ps scope)
  (len:∀vs H Q E,sp vs H Q E→vs.length=ps.length)
  (hbody:∀(A:Around) (outer:List Env) (s:Shared) (H:Hp) (vs:List V) (Q:VK) (E:XK),dr k (A.deeper (envOfC qual scope s.heap.objs.size f cdv))→sp vs H Q E→
   ∃t,PSs (jk CX P w K mg base N qual scope f cdv A outer s H E) body t∧t { nx:=λ_ H'=>Q .non H',rt:=Q } (start N vs) H):
  iz P w K mg base CX (k+1) f (PySem.W.fnOf name qual params body scope dV kV doc pm an cdv ct) ps sp:=by
 refine ⟨len,λA outer s H args us vs Q E hr e0 hb r hsp=>?_⟩;have hl:=len _ _ _ _ hsp;have KX:K.In s.heap:=e0.mod.kin.keeps λb o e=>(e0.bs b o e).1;have lim:s.heap.NoLimit:=e0.mod.nolimit.keeps λb o e=>(e0.bs b o e).1;have hkind:∀y∈ps.zip us,scope.names.lookup y.1=some .local∨(scope.names.lookup y.1=some .cell∧((cellsFrom (s.heap.objs.size+1) scope.names []).lookup y.1).isSome=true):=λ⟨n,v⟩ hy=>by
  rcases S.par n (ace hy).1 with q | q
  ·exact .inl q
  ·exact .inr ⟨q,PySem.W.cellsFrom_some _ _ _ (.inl q)⟩
 refine codeAny_call_function hr.depth (KX _ _ lk) rfl S.co S.gen rfl (PySem.W.codeRec_of KX hcd) (hb _ _ _ _ ?_);refine wpAny_newFunctionEnv_cells S.kind hkind λenv he s1 x=>?_;subst he;refine ⟨lim.keeps x.toInCall.keep,codeAny_func ?_⟩;obtain ⟨t,ht,hq⟩:=hbody A outer s H vs Q E (hr.deeper _) hsp;have I:Inv (jk CX P w K mg base N qual scope f cdv A outer s H E) [] (start N vs) H s1:=Ap S hr.hd e0 hl r x;refine wpAny_mono (ht [] s1 (start N vs) H _ I hq) (λfl s' hs=>?_) λe s' hs=>hs;have fin:∀{σ':St} {H':Hp} {v:V} {u:Value},Inv (jk CX P w K mg base N qual scope f cdv A outer s H E) [] σ' H' s'→RelV v u→Q v H'→CE outer P w H s Q u s':=
  λ{σ' H' v u} J rv q=>⟨v,H',J.os,J.bare,J.base,J.hok,rv,q⟩
 cases fl with
 | ret u=>
  obtain ⟨v,σ',H',J,rv,q⟩:=hs;exact fin J rv q
 | next=>
  obtain ⟨σ',H',J,q⟩:=hs;exact fin (v:=V.non) (u:=Value.none) J rfl q
 | brk=>
  obtain ⟨_,_,_,q⟩:=hs;exact False.elim q
 | cont=>
  obtain ⟨_,_,_,q⟩:=hs;exact False.elim q
end L2
namespace L2
open PySem PySem.Spec PyProof.Rows
section
variable {X:Cx} {x:Str} {p pos:Pos} {e:Expr} {es:List Expr} {t:TA} {id T:String} {r:List V→Hp→VK→Prop}
def tCB (r:List V→Hp→VK→Prop) (t:TA):TE:=λσ H Q=>t σ H λvs H1=>r vs H1 Q
theorem De (hc:fj X (.builtin id) r) (hg:Gl X x) (hm:X.mg x=none) (hv:bootBuiltins x=some (.builtin id)) (ha:PA X (e::es) t) (hn:x≠"__name__":=by decide) (hdb:(x==("__debug__":Str))=false:=by decide)
  (he:starEach (e::es) X.env=(false,eval e X.env)::starEach es X.env:=by rfl) (hpl:(backTo pos (starEach es X.env)).any (·.1)=false:=by rfl):PE X (.Call (.Name x p) (e::es) [] pos) (tCB r t):=by
 intro pins s σ H Q I h;refine wpAny_Call_Name_kw (ic I hg hm hv ?_ hn hdb);exact PyProof.Rows.callWith_builtin1 (thn (ha pos pins s σ H _ I h) λus s1 ⟨vs,H1,I1,r1,q1⟩=>hc pins s1 σ H1 vs us Q I1 r1 q1) he hpl
theorem Af (hc:fj X (.type T) r) (hg:Gl X x) (hm:X.mg x=none) (hv:bootBuiltins x=some (.type T)) (ha:PA X (e::es) t) (hn:x≠"__name__":=by decide) (hdb:(x==("__debug__":Str))=false:=by decide)
  (he:starEach (e::es) X.env=(false,eval e X.env)::starEach es X.env:=by rfl) (hpl:(backTo pos (starEach es X.env)).any (·.1)=false:=by rfl):PE X (.Call (.Name x p) (e::es) [] pos) (tCB r t):=by
 intro pins s σ H Q I h;refine wpAny_Call_Name_kw (ic I hg hm hv ?_ hn hdb);exact PyProof.Rows.callWith_type1 (thn (ha pos pins s σ H _ I h) λus s1 ⟨vs,H1,I1,r1,q1⟩=>hc pins s1 σ H1 vs us Q I1 r1 q1) he hpl
end
end L2
namespace HT
open PySem PyProof.Rows
section
open PySem.SeqAt
open PySem.AutoSeq1 (wpAny_loadPart')
open PySem.MeetsSeq PySem.MeetsSeq2 PySem.MeetsSeq3
end
section
variable {prog:Program} {w:World} {A:Around} {E:Value→Shared→Prop} {s:Shared}
theorem Hr {t b:Addr} {vs ws:List Value} {Q:Value→Shared→Prop} (ht:IsTup s.heap t vs.toArray) (hb:IsTup s.heap b ws.toArray) (hv:vs≠[])
  (h1:ws=[]→Q (.ref t) s) (h2:ws≠[]→Q (.ref s.heap.objs.size) { s with heap:=s.heap.push { cls:=.type "tuple",data:=.seq (vs++ws).toArray } })
  (hsz:vs.length+ws.length≤sizeLine):wpAny (model prog w) A (binaryOp .Add (.ref t) (.ref b)) Q E s:=by
 obtain ⟨⟨cls,dd,data,sl⟩,ho,hc,n,hd⟩:=id ht;obtain ⟨⟨cls2,dd2,data2,sl2⟩,ho2,hc2,n2,hd2⟩:=id hb;simp only at hc hd hc2 hd2;subst hc hd hc2 hd2;have e:vs.toArray++ws.toArray=(vs++ws).toArray:=by simp
 by_cases hw:ws=[]
 ·exact concat_meets ⟨_,ho,rfl⟩ ⟨_,ho2,rfl⟩ noFill_tuple_add seq_tuple_add PySem.F.slot_tuple_add PySem.F.entry_tuple_add (PySem.F.args_tuple_add_2 _ _)
   (tuple_addW1 t b vs.toArray ws.toArray n n2 dd dd2 sl sl2 (by simpa using hv) (by simp[hw])) ⟨ho,ho2,h1 hw⟩
 ·refine concat_meets ⟨_,ho,rfl⟩ ⟨_,ho2,rfl⟩ noFill_tuple_add seq_tuple_add PySem.F.slot_tuple_add PySem.F.entry_tuple_add (PySem.F.args_tuple_add_2 _ _)
   (tuple_addW2 t b vs.toArray ws.toArray n n2 dd dd2 sl sl2 (by simpa using hv) (by simpa using hw) (by rw[aa3,aa3];exact hsz)) ⟨ho,ho2,?_⟩
  rw[e];exact h2 hw
noncomputable def sIx (n d:Nat):Option Int→Nat
 | none=>d
 | some v=>if v < 0 then (v+(n:Int)).toNat else min v.toNat n
theorem ux (n d:Nat):sIx n d none=d:=rfl
theorem yk (n d k:Nat):sIx n d (some (k:Int))=min k n:=by
 show (if (k:Int) < 0 then ((k:Int)+(n:Int)).toNat else min (k:Int).toNat n)=min k n
 rw[if_neg (by omega),ac0]
theorem sIx_le (n d:Nat) (hd:d≤n) (o:Option Int):sIx n d o≤n:=by
 cases o with
 | none=>exact hd
 | some v=>
  show (if v < 0 then (v+(n:Int)).toNat else min v.toNat n)≤n
  by_cases hv:v < 0
  ·rw[if_pos hv];omega
  ·rw[if_neg hv];exact Nat.min_le_right _ _
theorem yg (v:Int) (n d:Nat):(if v < 0 then max (v+(n:Int)) 0 else min v (n:Int))=((sIx n d (some v):Nat):Int):=by
 show (if v < 0 then max (v+(n:Int)) 0 else min v (n:Int))=(((if v < 0 then (v+(n:Int)).toNat else min v.toNat n):Nat):Int)
 by_cases hv:v < 0
 ·simp only[if_pos hv];omega
 ·simp only[if_neg hv];omega
theorem xw (lo hi:Option Int) (n:Nat):Builtin.Slice.sliceAdjust lo hi 1 (n:Int)=(((sIx n 0 lo:Nat):Int),((sIx n n hi:Nat):Int)):=by
 have h1:¬((1:Int) < 0):=by omega
 unfold Builtin.Slice.sliceAdjust;simp only[h1,if_false];refine Prod.ext ?_ ?_
 ·cases lo with
  | none=>rfl
  | some v=>exact yg v n 0
 ·cases hi with
  | none=>rfl
  | some v=>exact yg v n n
theorem xi (i j:Nat):Builtin.Slice.slicePlaces (i:Int) (j:Int) 1=j - i:=by
 unfold Builtin.Slice.slicePlaces;have h1:(1:Int) > 0:=by omega
 simp only[h1,if_true,Int.ediv_one];split <;> omega
theorem pw {v:Value} {o:Option Int} {Q:Option Int→Shared→Prop} (p:IsPart v o) (h:Q o s):wpAny (model prog w) A (Builtin.Slice.slicePartIndex v) Q E s:=by
 cases p with
 | none=>exact slicePart_none h
 | int i t=>exact slicePart_int h
theorem gg {sl:Addr} {vl vu:Value} {lo hi:Option Int} {n:Nat} {Q:Int×Int×Nat→Shared→Prop} (hs:s.heap.IsSliceOf sl vl vu .none) (pl:IsPart vl lo) (pu:IsPart vu hi)
  (h:Q (((sIx n 0 lo:Nat):Int),1,sIx n n hi - sIx n 0 lo) s):wpAny (model prog w) A (Builtin.Slice.sliceApplied (.ref sl) (pure (n:Int))) Q E s:=by
 obtain ⟨os,hos,hcs,hds⟩:=id hs;unfold Builtin.Slice.sliceApplied Builtin.Slice.sliceFields;refine wpAny_bind (wpAny_bind (wpAny_field hos hds (x:=vl) rfl (wpAny_bind (wpAny_field hos hds (x:=vu) rfl (wpAny_bind (wpAny_field hos hds (x:=.none) rfl (wpAny_pure ?_)))))));refine wpAny_bind (slicePart_none ?_);show wpAny _ _ (if ((1:Int)==0)=true then _ else _) _ _ s
 rw[if_neg (by decide)];refine wpAny_bind (pw pl (wpAny_bind (pw pu (wpAny_bind (wpAny_pure ?_)))));show wpAny _ _ (match Builtin.Slice.sliceAdjust lo hi 1 (n:Int) with | (lo,hi)=>pure (lo,(1:Int),Builtin.Slice.slicePlaces lo hi 1)) _ _ s
 rw[xw lo hi n];show wpAny _ _ (pure (((sIx n 0 lo:Nat):Int),(1:Int),Builtin.Slice.slicePlaces ((sIx n 0 lo:Nat):Int) ((sIx n n hi:Nat):Int) 1)) _ _ s
 rw[xi];exact wpAny_pure h
theorem Dw (xs:Array Value) (i k:Nat):((ab3 k).filterMap λ(m:Nat)=>xs[((i:Int)+(m:Int)*1).toNat]?).toArray=((xs.toList.drop i).take k).toArray:=by
 have e:(λ(m:Nat)=>xs[((i:Int)+(m:Int)*1).toNat]?)=λm=>xs[i+m]?:=by
  funext m
  have:((i:Int)+(m:Int)*1).toNat=i+m:=by omega
  rw[this]
 rw[e];have:=pick_run xs i k;rw[List.filterMap_map] at this;have e2:((λx=>xs[x]?) ∘ λx=>i+x)=λm=>xs[i+m]?:=rfl;rw[e2] at this;rw[this]
theorem j7 {t sl:Addr} {items:Array Value} {vl vu:Value} {lo hi:Option Int} {Q:Value→Shared→Prop} (ht:IsTup s.heap t items) (hs:s.heap.IsSliceOf sl vl vu .none) (pl:IsPart vl lo) (pu:IsPart vu hi)
  (hw:¬(sIx items.size 0 lo=0∧sIx items.size items.size hi=items.size))
  (h:Q (.ref s.heap.objs.size) { s with heap:=s.heap.push { cls:=.type "tuple",data:=.seq ((items.toList.drop (sIx items.size 0 lo)).take (sIx items.size items.size hi - sIx items.size 0 lo)).toArray } })
  (hsz:items.size≤sizeLine):wpAny (model prog w) A (getItem (.ref t) (.ref sl)) Q E s:=by
 have htake:sizeOk (.seq ((items.toList.drop (sIx items.size 0 lo)).take (sIx items.size items.size hi - sIx items.size 0 lo)).toArray):=by
  show ((items.toList.drop (sIx items.size 0 lo)).take (sIx items.size items.size hi - sIx items.size 0 lo)).toArray.size≤sizeLine
  rw[aa3,aay,aah,abx];omega
 have hj:sIx items.size items.size hi≤items.size:=sIx_le _ _ (aa5 _) hi;obtain ⟨os,hos,hcs,hds⟩:=id hs;have hTs:s.TypeIs (.ref sl) "slice":=⟨os,hos,hcs⟩;unfold getItem;try with_reducible refine wpAny_holding ?_
 first | refine wpAny_bind (wpAny_pure ?_) | skip
 refine wpAny_bind (wpAny_sequenceKey ht.typeIs (by decide) ?_);refine wpAny_bind (wpAny_callSpecial?_slot (name:=Str.ofString "__getitem__") ht.typeIs PyProof.Rows.slot_tuple_getitem
  (wpAny_call_entry PyProof.Rows.slot_tuple_getitem ht.typeIs entry_tuple_getitem ?_ (args_tuple_getitem _ _)))
 show wpAny _ _ (Builtin.Tuple.tupleItemsOf (.ref t) >>=_) _ _ s
 refine wpAny_bind (tupleItemsOf_ ht ?_);refine wpAny_bind (wpAny_typeOf hTs ?_);rw[if_pos (by decide)];refine wpAny_bind (gg hs pl pu ?_);have hno:¬((((sIx items.size 0 lo:Nat):Int)==0&&(1:Int)==1&&(sIx items.size items.size hi - sIx items.size 0 lo)==items.size)=true):=by
  intro q;rw[ac6,ac6] at q;have q1:((sIx items.size 0 lo:Nat):Int)=0:=eq_of_beq q.1.1;have q2:sIx items.size items.size hi - sIx items.size 0 lo=items.size:=eq_of_beq q.2;exact hw ⟨by omega,by omega⟩
 show wpAny _ _ (if (((sIx items.size 0 lo:Nat):Int)==0&&(1:Int)==1&&(sIx items.size items.size hi - sIx items.size 0 lo)==items.size)=true then _ else _) _ _ s
 rw[if_neg hno,Dw];first
  | exact wpAny_bind (m:=Builtin.Tuple.tupleExact _) (wpAny_newObj_type (wpAny_pure ⟨_,rfl,wpAny_pure h⟩) htake)
  | exact wpAny_bind (m:=Builtin.Tuple.tupleExact _) (wpAny_newObj_type (wpAny_bind (wpAny_pure (wpAny_pure ⟨_,rfl,wpAny_pure h⟩))) htake)
  | exact wpAny_bind (wpAny_bind (m:=Builtin.Tuple.tupleExact _) (wpAny_newObj_type (wpAny_pure (wpAny_pure ⟨_,rfl,wpAny_pure h⟩)) htake))
  | exact wpAny_bind (wpAny_bind (m:=Builtin.Tuple.tupleExact _) (wpAny_newObj_type (wpAny_pure ⟨_,rfl,wpAny_pure h⟩) htake))
end
end HT
namespace L2
open PySem PySem.Spec PyProof.Rows
abbrev TO:=St→Hp→(Option Int→Hp→Prop)→Prop
def PO (X:Cx) (e:Option Expr) (t:TO):Prop:=
 ∀(pins:List (Addr×Obj)) (s:Shared) (σ:St) (H:Hp) (Q:Option Int→Hp→Prop),Inv X pins σ H s→t σ H Q→
  wpAny (model X.prog X.w) X.A (evalPart e X.env) (λu s'=>∃o H',Inv X pins σ H' s'∧IsPart u o∧Q o H') X.xe s
def zq:TO:=λ_ H Q=>Q none H
def Bu (t:TE):TO:=λσ H Q=>t σ H λx H1=>∃i,x=.int i∧Q (some i) H1
theorem intsAre_of {ns:List Int}:∀{us:List Value},Vals (ns.map V.int) us→IntsAre us ns:=by
 induction ns with
 | nil=>intro us r;rw[acs] at r;cases r;exact .nil
 | cons n ns ih=>
  intro us r;rw[ab0] at r;cases r with
  | cons r1 r2=>
   obtain ⟨t,e⟩:=r1;subst e;exact .cons n t (ih r2)
section
variable {X:Cx} {e:Expr} {te:TE} {lo hi:Option Expr} {tl th:TO} {pos p2:Pos}
theorem Hv:PO X none zq:=by
 intro pins s σ H Q I h;rw[evalPart_none];exact wpAny_pure ⟨none,H,I,.none,h⟩
theorem G9 (h:PE X e te):PO X (some e) (Bu te):=by
 intro pins s σ H Q I hw;rw[evalPart_some];refine thn (h pins s σ H _ I hw) λu s1 ⟨x,H1,I1,r1,q1⟩=>?_;obtain ⟨i,rfl,q⟩:=q1;obtain ⟨t,rfl⟩:=r1;exact ⟨some i,H1,I1,.int i t,q⟩
def SlR (X:Cx) (r:V→Option Int→Option Int→Hp→VK→Prop):Prop:=
 ∀(pins:List (Addr×Obj)) (s:Shared) (σ:St) (H:Hp) (x:V) (v vl vu:Value) (lo hi:Option Int) (sl:Addr) (Q:VK),Inv X pins σ H s→RelV x v→s.heap.IsSliceOf sl vl vu .none→IsPart vl lo→IsPart vu hi→r x lo hi H Q→
  ∃T id,typeLookup (.type T) "__getitem__"=pure (some (.builtin id))∧s.TypeIs v T∧wpAny (model X.prog X.w) X.A (getItem v (.ref sl)) (EP X pins σ Q) X.xe s
def tSl (r:V→Option Int→Option Int→Hp→VK→Prop) (te:TE) (tl th:TO):TE:=λσ H Q=>te σ H λx H1=>tl σ H1 λl H2=>th σ H2 λu H3=>r x l u H3 Q
theorem Fe {r:V→Option Int→Option Int→Hp→VK→Prop} (hr:SlR X r) (he:PE X e te) (hl:PO X lo tl) (hu:PO X hi th):PE X (.Subscript e (.Slice lo hi none p2) pos) (tSl r te tl th):=by
 intro pins s σ H Q I h;refine Subscript_ (thn (he pins s σ H _ I h) λv s1 ⟨x,H1,I1,r1,q1⟩=>?_);refine wpAny_Slice (thn (hl pins s1 σ H1 _ I1 q1) λvl s2 ⟨l,H2,I2,pl,q2⟩=>thn (hu pins s2 σ H2 _ I2 q2) λvu s3 ⟨u,H3,I3,pu,q3⟩=>?_);rw[evalPart_none];refine wpAny_pure ?_;have I4:Inv X pins σ H3 { s3 with heap:=s3.heap.push { cls:=.type "slice",data:=.fields #[vl,vu,.none] } }:=I3.kept (t':=s3.toks) λb ob q=>Heap.get?_push_of_some _ q;obtain ⟨T,id,hT,ht,hg⟩:=hr pins { s3 with heap:=s3.heap.push { cls:=.type "slice",data:=.fields #[vl,vu,.none] } } σ H3 x v vl vu l u s3.heap.objs.size Q I4 r1 (Heap.IsSliceOf.new ..) pl pu q3;show wpAny (model X.prog X.w) X.A (subscriptTail e (.Slice lo hi none p2) v (.ref s3.heap.objs.size)) (EP X pins σ Q) X.xe { s3 with heap:=s3.heap.push { cls:=.type "slice",data:=.fields #[vl,vu,.none] } }
 exact tail_any (ops:=[.ref s3.heap.objs.size,v]) ht hT hg (by with_unfolding_all rfl)
noncomputable def fu (xs:List V) (lo hi:Option Int):List V:=(xs.drop (HT.sIx xs.length 0 lo)).take (HT.sIx xs.length xs.length hi - HT.sIx xs.length 0 lo)
theorem lh (xs:List V) (lo hi:Option Int):(fu xs lo hi).length≤xs.length:=by
 unfold fu;rw[aay,aah];omega
def rSlT (K:PySem.W.Frag):V→Option Int→Option Int→Hp→VK→Prop:=λx lo hi H Q=>∃a xs,x=.ref a∧SqT K H a xs∧
 ¬(HT.sIx xs.length 0 lo=0∧HT.sIx xs.length xs.length hi=xs.length)∧∀p,H p=none→Q (.ref p) (upd H p (.tup (fu xs lo hi)))
theorem sl_tup:SlR X (rSlT X.K):=by
 intro pins s σ H x v vl vu lo hi sl Q I rx hs pl pu h;obtain ⟨a,xs,rfl,hx,hw,q⟩:=h;cases rx
 obtain ⟨its,r,ht,hz⟩:=I.tuple hx;have hlen:its.toArray.size=xs.length:=by rw[aa3];exact r.length.symm
 refine ⟨"tuple",_,PyProof.Rows.slot_tuple_getitem.lookup,ht.typeIs,?_⟩;refine HT.j7 ht hs pl pu (by rw[hlen];exact hw) ?_ (by rw[hlen];exact hz);rw[hlen];refine ⟨.ref s.heap.objs.size,_,I.laid (t':=s.toks) (o:=.tup (fu xs lo hi)) (λb ob q=>Heap.get?_push_of_some _ q) (aa5 _) ?_,rfl,q _ (I.hok.fresh (aa5 _))⟩;exact ⟨aaw (lh xs lo hi) hz,_,(r.drop (HT.sIx xs.length 0 lo)).take (HT.sIx xs.length xs.length hi - HT.sIx xs.length 0 lo),⟨_,Heap.get?_push_size _ rfl,rfl,_,rfl,rfl⟩⟩
def rCatT (K:PySem.W.Frag):R2:=λx y H Q=>∃a b xs ys,x=.ref a∧y=.ref b∧SqT K H a xs∧SqT K H b ys∧xs≠[]∧xs.length+ys.length≤sizeLine∧
 (ys=[]→Q (.ref a) H)∧(ys≠[]→∀p,H p=none→Q (.ref p) (upd H p (.tup (xs++ys))))
theorem Vals.mn {xs:List V} {us:List Value} (r:Vals xs us):us=[]↔xs=[]:=by
 cases r with
 | nil=>simp
 | cons _ _=>simp
theorem Hb:OpR X (binaryOp .Add) (rCatT X.K):=by
 intro pins s σ H x y v u Q I rx ry h;obtain ⟨a,b,xs,ys,rfl,rfl,ha,hb,hx,hz,q1,q2⟩:=h;cases rx
 cases ry
 obtain ⟨its,r1,p1,_⟩:=I.tuple ha;obtain ⟨its2,r2,p2,_⟩:=I.tuple hb;refine HT.Hr p1 p2 (λz=>hx (r1.mn.mp z)) (λz=>⟨.ref a,H,I,rfl,q1 (r2.mn.mp z)⟩) (λz=>?_) (by rw[←r1.length,←r2.length];exact hz);refine ⟨.ref s.heap.objs.size,_,I.laid (t':=s.toks) (o:=.tup (xs++ys)) (λb ob q=>Heap.get?_push_of_some _ q) (aa5 _) ?_,rfl,q2 (λw=>z (r2.mn.mpr w)) _ (I.hok.fresh (aa5 _))⟩;exact ⟨by rw[aa1];exact hz,_,r1.append r2,⟨_,Heap.get?_push_size _ rfl,rfl,_,rfl,rfl⟩⟩
end
end L2
namespace L2
open PySem PySem.Spec PyProof.Rows
noncomputable def ixN (n:Nat) (i:Int):Option Nat:=if 0≤i then (if i < n then some i.toNat else none) else if -(n:Int)≤i then some (i+n).toNat else none
noncomputable def atI {α:Type} (xs:List α) (i:Int):Option α:=(ixN xs.length i).bind λj=>xs[j]?
theorem ye {n:Nat} {i:Int} {j:Nat} (h:ixN n i=some j):seqIndex? i n=some j∧j < n∧-(n:Int)≤i∧i < n:=by
 unfold ixN at h;by_cases h0:0≤i
 ·rw[if_pos h0] at h;by_cases h1:i < n
  ·rw[if_pos h1] at h;have e:i.toNat=j:=aa6 h;exact ⟨by rw[seqIndex_of h0 h1,e],by omega,by omega,h1⟩
  ·rw[if_neg h1] at h;cases h
 ·rw[if_neg h0] at h;by_cases h1:-(n:Int)≤i
  ·rw[if_pos h1] at h;have e:(i+n).toNat=j:=aa6 h;exact ⟨by rw[seqIndex_neg (by omega) h1,e],by omega,h1,by omega⟩
  ·rw[if_neg h1] at h;cases h
theorem sg {α:Type} {xs:List α} {i:Int} {v:α} (h:atI xs i=some v):∃j,seqIndex? i xs.length=some j∧xs[j]?=some v∧j < xs.length∧-(xs.length:Int)≤i∧i < xs.length:=by
 unfold atI at h;cases e:ixN xs.length i with
 | none=>rw[e] at h;cases h
 | some j=>
  rw[e] at h;obtain ⟨h1,h2,h3,h4⟩:=ye e;exact ⟨j,h1,h,h2,h3,h4⟩
theorem ay {α:Type} {xs:List α} {j:Nat} {v:α} (h:xs[j]?=some v):atI xs (j:Int)=some v:=by
 have hj:j < xs.length:=(List.getElem?_eq_some_iff.mp h).1;have e:ixN xs.length (j:Int)=some j:=by
  unfold ixN;rw[if_pos (by omega),if_pos (by omega)];simp
 unfold atI;rw[e];exact h
def Ig (b:Expr):Prop:=∀o i,subscripted b false o i=operate [o,i] (getItem o i)
def IxR (X:Cx) (r:R2):Prop:=
 ∀(value slice:Expr) (pins:List (Addr×Obj)) (s:Shared) (σ:St) (H:Hp) (x y:V) (v u:Value) (Q:VK),Inv X pins σ H s→RelV x v→RelV y u→r x y H Q→
  subscripted slice false v u=operate [v,u] (getItem v u)→wpAny (model X.prog X.w) X.A (subscriptTail value slice v u) (EP X pins σ Q) X.xe s
def MtR (X:Cx) (id:String) (r:V→List V→Hp→VK→Prop):Prop:=
 ∀(pins:List (Addr×Obj)) (s:Shared) (σ:St) (H:Hp) (x:V) (xs:List V) (v:Value) (us:List Value) (Q:VK),Inv X pins σ H s→RelV x v→Vals xs us→r x xs H Q→
  wpAny (model X.prog X.w) X.A (call (.builtin id) (v::us)) (EP X pins σ Q) X.xe s
section
variable {X:Cx} {a b:Expr} {ta tb:TE} {pos:Pos}
theorem pe_ix {r:R2} (hr:IxR X r) (ha:PE X a ta) (hb:PE X b tb) (hs:Ig b):PE X (.Subscript a b pos) (tOp r ta tb):=by
 intro pins s σ H Q I h;exact Subscript_ (binT ha hb I h λv u s2 x y H2 I2 rx ry q=>hr a b pins s2 σ H2 x y v u Q I2 rx ry q (hs _ _))
def rIxL (K:PySem.W.Frag):R2:=λx y H Q=>∃p xs i v,x=.ref p∧y=.int i∧SqL K H p xs∧atI xs i=some v∧Q v H
def rIxT (K:PySem.W.Frag):R2:=λx y H Q=>∃p xs i v,x=.ref p∧y=.int i∧SqT K H p xs∧atI xs i=some v∧Q v H
def rIxS:R2:=λx y H Q=>∃z i c,x=.str z∧y=.int i∧z.length≤sizeLine∧atI z.cps.toList i=some c∧Q (.str ⟨#[c]⟩) H
theorem yl:IxR X (rIxL X.K):=by
 intro value slice pins s σ H x y v u Q I rx ry h hs;obtain ⟨p,xs,i,z,rfl,rfl,hq,he,q⟩:=h;cases rx
 obtain ⟨t,rfl⟩:=ry;obtain ⟨its,r,pl,hz⟩:=I.list hq;obtain ⟨j,h1,h2,h3,h4,h5⟩:=sg he;obtain ⟨w,ew,rw'⟩:=r.get h2;have hl:=r.length;have hn:=oy;have fin:EP X pins σ Q w s:=⟨z,H,I,rw',q⟩;by_cases h0:0≤i
 ·have hj:i.toNat=j:=by
   rw[seqIndex_of h0 h5] at h1;exact aa6 h1
  exact item_listR pl.isList h0 (by omega) (by rw[hj];simpa using ew) fin hs
 ·have hj:(i+(its.toArray.size:Int)).toNat=j:=by
   rw[seqIndex_neg (by omega) h4] at h1;rw[aa3,←hl];exact aa6 h1
  exact subscriptTail_builtinR (x:=w) pl.isList.typeIs slot_list_getitem.lookup
   (wpAny_getItem_list_neg (Q:=λr s'=>r=w∧EP X pins σ Q r s') pl.isList (by omega) (by rw[aa3] <;> omega) (by omega) (by rw[hj];simpa using ew) ⟨rfl,fin⟩) hs
theorem Ex:IxR X (rIxT X.K):=by
 intro value slice pins s σ H x y v u Q I rx ry h hs;obtain ⟨p,xs,i,z,rfl,rfl,hq,he,q⟩:=h;cases rx
 obtain ⟨t,rfl⟩:=ry;obtain ⟨its,r,pl,hz⟩:=I.tuple hq;obtain ⟨j,h1,h2,h3,h4,h5⟩:=sg he;obtain ⟨w,ew,rw'⟩:=r.get h2;have hl:=r.length;have hn:=oy;have fin:EP X pins σ Q w s:=⟨z,H,I,rw',q⟩;exact subscriptTail_builtinR (x:=w) pl.typeIs slot_tuple_getitem.lookup
  (getItem_tuple (j:=j) (Q:=λr s'=>r=w∧EP X pins σ Q r s') pl (by omega) (by omega) (by rw[aa3,←hl];exact h1) (by simpa using ew) ⟨rfl,fin⟩) hs
theorem ij:IxR X rIxS:=by
 intro value slice pins s σ H x y v u Q I rx ry h hs;obtain ⟨z,i,c,rfl,rfl,hz,he,q⟩:=h;obtain ⟨t,rfl⟩:=rx;obtain ⟨t',rfl⟩:=ry;obtain ⟨j,h1,h2,h3,h4,h5⟩:=sg he;have hl:z.cps.toList.length=z.length:=by simp[Str.length]
 rw[hl] at h1 h4 h5;have hn:=oy;exact tail_any (typeIs_str s z t) slot_str_getitem.lookup (getItem_str (c:=c) (by
  have e1:decide (i < -(2 ^ 63:Int))=false:=decide_eq_false (by omega);have e2:decide (i≥2 ^ 63)=false:=decide_eq_false (by omega);rw[e1,e2,ad6]) (by rw[h1];simpa using h2) ⟨.str ⟨#[c]⟩,H,I.tok _,⟨_,rfl⟩,q⟩) hs
theorem xl (its:List Value) (n j:Nat) (u:Value):Obj.mapSeq (·.setIfInBounds j u) { cls:=.type "list",data:=.seq its.toArray n }={ cls:=.type "list",data:=.seq (its.set j u).toArray n }:=by
 simp[Obj.mapSeq]
theorem Inv.lst {pins:List (Addr×Obj)} {σ:St} {H:Hp} {s:Shared} {p:Addr} {xs:List V} (I:Inv X pins σ H s) (h:H p=some (.lst xs)):
  ∃(its:List Value) (n:Nat),Vals xs its∧s.heap.get? p=some { cls:=.type "list",data:=.seq its.toArray n }∧xs.length≤sizeLine:=by
 obtain ⟨z,its,n,r,e⟩:=I.hok p _ h;exact ⟨its,n,r,e,z⟩
theorem Inv.lstUpd {pins:List (Addr×Obj)} {σ:St} {H:Hp} {s:Shared} {p:Addr} {xs ys:List V} {its its':List Value} {n n':Nat} {f:Obj→Obj} (I:Inv X pins σ H s) (h:H p=some (.lst xs))
  (ho:s.heap.get? p=some { cls:=.type "list",data:=.seq its.toArray n }) (hf:f { cls:=.type "list",data:=.seq its.toArray n }={ cls:=.type "list",data:=.seq its'.toArray n' }) (r:Vals ys its') (hz:ys.length≤sizeLine) (t:Nat):
  Inv X pins σ (upd H p (.lst ys)) { s with heap:=s.heap.update p f,toks:=t }:=by
 have e:(s.heap.update p f).get? p=some { cls:=.type "list",data:=.seq its'.toArray n' }:=by
  rw[Heap.get?_update_self f ho (by rw[hf] <;> rfl),hf]
 refine I.write (x:=p) (e:=p) (by rw[h];trivial) (.inl rfl) (λb u hb q=>(Heap.get?_update_other _ _ (Ne.symm hb)).trans q) ⟨_,e⟩ ?_;exact ⟨hz,its',n',r,e⟩
def Bv:V→V→V→Hp→(Hp→Prop)→Prop:=λo i v H Q=>∃p xs k j,o=.ref p∧i=.int k∧H p=some (.lst xs)∧ixN xs.length k=some j∧Q (upd H p (.lst (xs.set j v)))
theorem set_list:PSet X Bv:=by
 intro pins s σ H o i v ov iv u Q I ro ri rv h;obtain ⟨p,xs,k,j,rfl,rfl,hp,hj,q⟩:=h;cases ro
 obtain ⟨t,rfl⟩:=ri;obtain ⟨its,n,r,ho,hz⟩:=I.lst hp;obtain ⟨h1,h2,h3,h4⟩:=ye hj;have hl:=r.length;have hn:=oy;have I':Inv X pins σ (upd H p (.lst (xs.set j v))) { s with heap:=s.heap.update p (Obj.mapSeq (·.setIfInBounds j u)) }:=
  I.lstUpd hp ho (xl its n j u) (r.set rv j) (by rw[ae9];exact hz) s.toks
 by_cases h0:0≤k
 ·have hk:k.toNat=j:=by
   rw[seqIndex_of h0 h4] at h1;exact aa6 h1
  exact PySem.W.ki_setAt ho h0 (by omega) (by rw[aa3,←hl];exact h4) (by rw[hk];exact ⟨_,I',q⟩)
 ·have hk:(k+(its.toArray.size:Int)).toNat=j:=by
   rw[seqIndex_neg (by omega) h3] at h1;rw[aa3,←hl];exact aa6 h1
  exact PySem.W.ki_setBack ho (by omega) (by rw[aa3,←hl];exact h3) (by omega) (by rw[hk];exact ⟨_,I',q⟩)
theorem uk (lo hi:Option Int) (n:Nat):(sliceBounds lo hi none n).1=((HT.sIx n 0 lo:Nat):Int)∧(sliceBounds lo hi none n).2.1=((HT.sIx n n hi:Nat):Int)∧(sliceBounds lo hi none n).2.2=1:=by
 refine ⟨?_,?_,rfl⟩
 ·cases lo with
  | none=>simp[sliceBounds,HT.sIx]
  | some i=>
   simp only[sliceBounds,HT.sIx,ada,show (1:Int) > 0 by decide,if_true];by_cases h:i < 0
   ·simp only[h,if_true] <;> omega
   ·simp only[h,if_false] <;> omega
 ·cases hi with
  | none=>simp[sliceBounds,HT.sIx]
  | some i=>
   simp only[sliceBounds,HT.sIx,ada,show (1:Int) > 0 by decide,if_true];by_cases h:i < 0
   ·simp only[h,if_true] <;> omega
   ·simp only[h,if_false] <;> omega
theorem qb (its:List Value) (lo hi:Option Int):slicePick its.toArray lo hi none=((its.drop (HT.sIx its.length 0 lo)).take (HT.sIx its.length its.length hi - HT.sIx its.length 0 lo)).toArray:=by
 obtain ⟨h1,h2,h3⟩:=uk lo hi its.toArray.size;unfold slicePick;rw[h1,h2,h3];simp only[sliceRange_one,pick_run,aa3] <;> rfl
def rSlL (K:PySem.W.Frag):V→Option Int→Option Int→Hp→VK→Prop:=λx lo hi H Q=>∃a xs,x=.ref a∧SqL K H a xs∧∀p,H p=none→Q (.ref p) (upd H p (.lst (fu xs lo hi)))
theorem lz:SlR X (rSlL X.K):=by
 intro pins s σ H x v vl vu lo hi sl Q I rx hs pl pu h;obtain ⟨a,xs,rfl,hx,q⟩:=h;cases rx
 obtain ⟨its,r,ht,hz⟩:=I.list hx;have hlen:=r.length;refine ⟨"list",_,slot_list_getitem.lookup,ht.isList.typeIs,?_⟩;refine wpAny_getItem_list_slice ht.isList hs pl pu .none (by simp) ?_ (by rw[aa3] <;> omega);rw[qb,←hlen];refine ⟨.ref s.heap.objs.size,_,I.laid (t':=s.toks) (o:=.lst (fu xs lo hi)) (λb ob q=>Heap.get?_push_of_some _ q) (aa5 _) ?_,rfl,q _ (I.hok.fresh (aa5 _))⟩;exact ⟨aaw (lh xs lo hi) hz,_,0,(r.drop (HT.sIx xs.length 0 lo)).take (HT.sIx xs.length xs.length hi - HT.sIx xs.length 0 lo),Heap.get?_push_size _ rfl⟩
noncomputable def eu:V→Bool
 | .non=>true
 | .bl _=>true
 | .int _=>true
 | .str _=>true
 | _=>false
noncomputable def eqV:V→V→Bool
 | .non,.non=>true
 | .bl a,.bl b=>a==b
 | .bl a,.int b=>(if a then 1 else 0)==b
 | .int a,.bl b=>a==(if b then 1 else 0)
 | .int a,.int b=>a==b
 | .str a,.str b=>a==b
 | _,_=>false
theorem eqAt_V {A:Around} {s:Shared} {y x:V} {u v:Value} (ry:RelV y u) (rx:RelV x v) (fy:eu y=true) (fx:eu x=true):SeqAt.EqAt A s u v (eqV y x):=by
 cases y with
 | non=>
  cases ry
  cases x with
  | non=>cases rx;exact SeqAt.EqAt.same _
  | bl b=>cases rx;exact SeqAt.EqAt.none_bool b
  | int b=>obtain ⟨t,rfl⟩:=rx;exact SeqAt.EqAt.none_int b t
  | str b=>obtain ⟨t,rfl⟩:=rx;exact SeqAt.EqAt.none_str b t
  | _=>exact absurd (show false=true from fx) aab
 | bl a=>
  cases ry
  cases x with
  | non=>cases rx;exact SeqAt.EqAt.bool_none a
  | bl b=>cases rx;exact SeqAt.EqAt.bool_bool a b
  | int b=>obtain ⟨t,rfl⟩:=rx;exact SeqAt.EqAt.bool_int a b t
  | str b=>obtain ⟨t,rfl⟩:=rx;exact SeqAt.EqAt.bool_str a b t
  | _=>exact absurd (show false=true from fx) aab
 | int a=>
  obtain ⟨t',rfl⟩:=ry;cases x with
  | non=>cases rx;exact SeqAt.EqAt.int_none a t'
  | bl b=>cases rx;exact SeqAt.EqAt.int_bool a t' b
  | int b=>obtain ⟨t,rfl⟩:=rx;exact SeqAt.EqAt.int_int a t' b t
  | str b=>obtain ⟨t,rfl⟩:=rx;exact SeqAt.EqAt.int_str a t' b t
  | _=>exact absurd (show false=true from fx) aab
 | str a=>
  obtain ⟨t',rfl⟩:=ry;cases x with
  | non=>cases rx;exact SeqAt.EqAt.str_none a t'
  | bl b=>cases rx;exact SeqAt.EqAt.str_bool a t' b
  | int b=>obtain ⟨t,rfl⟩:=rx;exact SeqAt.EqAt.str_int a t' b t
  | str b=>obtain ⟨t,rfl⟩:=rx;exact SeqAt.EqAt.str_str a t' b t
  | _=>exact absurd (show false=true from fx) aab
 | _=>exact absurd (show false=true from fy) aab
noncomputable def eqU (x:V) (u:Value):Bool:=match u with
 | .none=>eqV .non x
 | .bool b=>eqV (.bl b) x
 | .int i _=>eqV (.int i) x
 | .str z _=>eqV (.str z) x
 | _=>false
theorem Ep {x y:V} {u:Value} (r:RelV y u) (f:eu y=true):eqU x u=eqV y x:=by
 cases y with
 | non=>cases r;rfl
 | bl b=>cases r;rfl
 | int i=>obtain ⟨t,rfl⟩:=r;rfl
 | str z=>obtain ⟨t,rfl⟩:=r;rfl
 | _=>exact absurd (show false=true from f) aab
theorem jn {x:V}:∀{xs:List V} {us:List Value},Vals xs us→xs.all eu=true→us.any (eqU x)=xs.any λy=>eqV y x
 | _,_,.nil,_=>rfl
 | y::xs,u::us,.cons r t,f=>by
  rw[List.all_cons,ac6] at f;rw[acn,acn,Ep r f.1,jn t f.2]
theorem g9 {A:Around} {s:Shared} {x:V} {v:Value} (rx:RelV x v) (fx:eu x=true):∀{xs:List V} {us:List Value},Vals xs us→xs.all eu=true→∀u∈us,SeqAt.EqAt A s u v (eqU x u)
 | _,_,.nil,_=>λu hu=>by cases hu
 | y::xs,u::us,.cons r t,f=>λu' hu=>by
  rw[List.all_cons,ac6] at f;rcases List.mem_cons.mp hu with rfl | hu
  ·rw[Ep r f.1];exact eqAt_V r rx f.1 fx
  ·exact g9 rx fx t f.2 u' hu
noncomputable def inV (x:V) (xs:List V):Bool:=xs.any λy=>eqV y x
def rIn (K:PySem.W.Frag) (neg:Bool):R2:=λx y H Q=>∃p xs,y=.ref p∧(SqL K H p xs∨SqT K H p xs)∧eu x=true∧xs.all eu=true∧Q (.bl (if neg then !inV x xs else inV x xs)) H
theorem qr:OpR X (compareOp .In) (rIn X.K false):=by
 intro pins s σ H x y v u Q I rx ry h;obtain ⟨p,xs,rfl,hq,fx,fs,q⟩:=h;cases ry
 rcases hq with hq | hq
 ·obtain ⟨its,r,pl,hz⟩:=I.list hq;refine SeqAt.in_listAt (eqU x) pl.isList (λw hw=>g9 rx fx r fs w (by simpa using hw)) ⟨.bl _,H,I,rfl,?_⟩;rw[show its.toArray.any (eqU x)=its.any (eqU x) by simp,jn r fs];exact q
 ·obtain ⟨its,r,pl,hz⟩:=I.tuple hq;refine SeqAt.in_tupleAt (eqU x) pl (λw hw=>g9 rx fx r fs w (by simpa using hw)) ⟨.bl _,H,I,rfl,?_⟩;rw[show its.toArray.any (eqU x)=its.any (eqU x) by simp,jn r fs];exact q
theorem j9:OpR X (compareOp .NotIn) (rIn X.K true):=by
 intro pins s σ H x y v u Q I rx ry h;obtain ⟨p,xs,rfl,hq,fx,fs,q⟩:=h;cases ry
 rcases hq with hq | hq
 ·obtain ⟨its,r,pl,hz⟩:=I.list hq;refine SeqAt.notIn_listAt (eqU x) pl.isList (λw hw=>g9 rx fx r fs w (by simpa using hw)) ⟨.bl _,H,I,rfl,?_⟩;rw[show its.toArray.any (eqU x)=its.any (eqU x) by simp,jn r fs];exact q
 ·obtain ⟨its,r,pl,hz⟩:=I.tuple hq;refine SeqAt.notIn_tupleAt (eqU x) pl (λw hw=>g9 rx fx r fs w (by simpa using hw)) ⟨.bl _,H,I,rfl,?_⟩;rw[show its.toArray.any (eqU x)=its.any (eqU x) by simp,jn r fs];exact q
theorem ub:fj X (.builtin "len") (λxs H Q=>∃p ys,xs=[.ref p]∧(SqL X.K H p ys∨SqT X.K H p ys)∧Q (.int ys.length) H):=by
 intro pins s σ H xs us Q I r h;obtain ⟨p,ys,rfl,hq,q⟩:=h;obtain ⟨u,rfl,rx⟩:=vals1 r;cases rx
 have hn:=oy;rcases hq with hq | hq
 ·obtain ⟨its,r',pl,hz⟩:=I.list hq;have hlen:=r'.length;exact Calls.call_len_list pl.isList (by simp only[aa3] <;> omega) ⟨.int ys.length,H,I.tok _,⟨s.toks+1,by rw[aa3,hlen]⟩,q⟩
 ·obtain ⟨its,r',pl,hz⟩:=I.tuple hq;have hlen:=r'.length;exact len_tuple pl (by simp only[aa3] <;> omega) ⟨.int ys.length,H,I.tok _,⟨s.toks+1,by rw[aa3,hlen]⟩,q⟩
theorem qa:fj X (.type "tuple") (λxs H Q=>∃p ys,xs=[.ref p]∧((SqL X.K H p ys∧∀l,H l=none→Q (.ref l) (upd H l (.tup ys)))∨(SqT X.K H p ys∧Q (.ref p) H))):=by
 intro pins s σ H xs us Q I r h;obtain ⟨p,ys,rfl,h⟩:=h;obtain ⟨u,rfl,rx⟩:=vals1 r;cases rx
 rcases h with ⟨hq,q⟩ | ⟨hq,q⟩
 ·obtain ⟨its,r',pl,hz⟩:=I.list hq;have hlen:=r'.length;refine call_tuple_list pl.isList (λh' kp=>?_) (by simp only[aa3] <;> omega);have I1:Inv X pins σ H { s with heap:=h' }:=I.kept (t':=s.toks) kp;have I2:Inv X pins σ (upd H h'.objs.size (.tup ys)) { s with heap:=h'.push { cls:=.type "tuple",data:=.seq its.toArray } }:=
   I1.laid (t':=s.toks) (λb o e=>Heap.get?_push_of_some _ e) (aa5 _) (show bz X.prog X.w _ _ _ (.tup ys) from ⟨hz,its,r',⟨_,Heap.get?_push_size _ rfl,rfl,_,rfl,rfl⟩⟩)
  exact ⟨.ref h'.objs.size,_,I2,rfl,q _ (I1.hok.fresh (aa5 _))⟩
 ·obtain ⟨its,r',pl,hz⟩:=I.tuple hq;exact call_tuple_same pl ⟨.ref p,H,I,rfl,q⟩
def tyV (K:PySem.W.Frag) (T:String) (x:V) (H:Hp):Prop:=match x with
 | .str _=>T="str"
 | .int _=>T="int"
 | .ref p=>(T="list"∧∃xs,SqL K H p xs)∨(T="tuple"∧((∃o,K.lookup p=some o∧o.cls=.type "tuple"∧o.dict=none)∨∃xs,H p=some (.tup xs)))∨
   (T="dict"∧((∃kvs,H p=some (.dK kvs))∨∃kvs,H p=some (.dT kvs)))∨(T="set"∧∃S n,H p=some (.set S n))
 | _=>False
theorem Di {pins:List (Addr×Obj)} {σ:St} {H:Hp} {s:Shared} {T:String} {x:V} {v:Value} (I:Inv X pins σ H s) (r:RelV x v) (ty:tyV X.K T x H):
  s.TypeIs v T∧∀a,v=.ref a→∃ob,s.heap.get? a=some ob∧ob.dict=none:=by
 cases x with
 | str z=>
  obtain ⟨t,rfl⟩:=r;cases (show T="str" from ty)
  exact ⟨typeIs_str s z t,λ_ e=>nomatch e⟩
 | int i=>
  obtain ⟨t,rfl⟩:=r;cases (show T="int" from ty)
  exact ⟨typeIs_int s i t,λ_ e=>nomatch e⟩
 | ref p=>
  cases r
  rcases ty with ⟨rfl,xs,hq⟩ | ⟨rfl,⟨o,hk,hc,hd⟩ | ⟨xs,hx⟩⟩ | ⟨rfl,hk⟩ | ⟨rfl,S,n,hk⟩
  ·obtain ⟨its,_,pl,_⟩:=I.list hq;refine ⟨pl.isList.typeIs,λa e=>?_⟩;cases e
   obtain ⟨o,n,e,c,hd,_⟩:=pl;exact ⟨o,e,hd⟩
  ·refine ⟨⟨o,I.kIn p o hk,hc⟩,λa e=>?_⟩;cases e
   exact ⟨o,I.kIn _ o hk,hd⟩
  ·obtain ⟨_,its,_,o,h1,h2,n,_,h3⟩:=I.hok p _ hx;refine ⟨⟨o,h1,h2⟩,λa e=>?_⟩;cases e
   exact ⟨o,h1,h3⟩
  ·have z:∃o,s.heap.get? p=some o∧o.ExactDict:=by
    rcases hk with ⟨kvs,hk⟩ | ⟨kvs,hk⟩
    ·obtain ⟨_,_,_,_,o,_,_,e,ex,_⟩:=I.hok p _ hk;exact ⟨o,e,ex⟩
    ·obtain ⟨_,_,_,_,o,_,_,e,ex,_⟩:=I.hok p _ hk;exact ⟨o,e,ex⟩
   obtain ⟨o,e,ex⟩:=z;refine ⟨⟨o,e,ex.1⟩,λa e2=>?_⟩;cases e2
   exact ⟨o,e,ex.2.1⟩
  ·obtain ⟨o,_,_,_,e,ex,_⟩:=I.hok p _ hk;refine ⟨⟨o,e,ex.1⟩,λa e2=>?_⟩;cases e2
   exact ⟨o,e,ex.2.1⟩
 | _=>exact False.elim ty
def tBM0 (K:PySem.W.Frag) (T:String) (r:V→List V→Hp→VK→Prop) (to:TE):TE:=λσ H Q=>to σ H λx H1=>tyV K T x H1∧r x [] H1 Q
def tBM (K:PySem.W.Frag) (T:String) (r:V→List V→Hp→VK→Prop) (to:TE) (t:TA):TE:=λσ H Q=>to σ H λx H1=>tyV K T x H1∧t σ H1 λxs H2=>r x xs H2 Q
variable {o e:Expr} {es:List Expr} {to:TE} {t:TA} {name:Str} {apos cpos:Pos} {T id:String} {r:V→List V→Hp→VK→Prop}
theorem pe_bm0 (pa:PlainAttrs T) (slot:Slot T name id) (hty:typeOf (.builtin id)=pure (.type "method_descriptor")) (hm:MtR X id r) (ho:PE X o to)
  (hbase:attributeBase o name X.env (eval o X.env)=eval o X.env:=by rfl) (hline:(apos.endLine==cpos.line)=true:=by rfl):PE X (.Call (.Attribute o name apos) [] [] cpos) (tBM0 X.K T r to):=by
 intro pins s σ H Q I h;refine wpAny_Call_method0_late hbase hline (thn (ho pins s σ H _ I h) λv s1 ⟨x,H1,I1,r1,ty,q1⟩=>?_);obtain ⟨h1,h2⟩:=Di I1 r1 ty;exact ⟨T,id,pa,slot,hty,h1,h2,Calls.callWith_builtin rfl (PySem.evalArgs_none (hm pins s1 σ H1 x [] v [] Q I1 r1 .nil q1))⟩
theorem pe_bm (pa:PlainAttrs T) (slot:Slot T name id) (hty:typeOf (.builtin id)=pure (.type "method_descriptor")) (hm:MtR X id r) (ho:PE X o to) (ha:PA X (e::es) t)
  (hbase:attributeBase o name X.env (eval o X.env)=eval o X.env:=by rfl)
  (hfew:((backTo cpos (starEach (e::es) X.env)).all (λx=>!x.1)&&(backToKw cpos (keywordEach [] X.env)).all (λx=>x.1.isSome)
   &&decide ((e::es).length+([]:List Keyword).length+(if ([]:List Keyword).isEmpty then 0 else 1) < 30))=true:=by rfl)
  (hline:(apos.endLine==cpos.line)=true:=by rfl) (hs:starEach (e::es) X.env=(false,eval e X.env)::starEach es X.env:=by rfl) (hplain:(backTo cpos (starEach es X.env)).any (·.1)=false:=by rfl):
  PE X (.Call (.Attribute o name apos) (e::es) [] cpos) (tBM X.K T r to t):=by
 intro pins s σ H Q I h;refine wpAny_Call_method_late hbase hfew hline rfl (thn (ho pins s σ H _ I h) λv s1 ⟨x,H1,I1,r1,ty,q1⟩=>?_);obtain ⟨h1,h2⟩:=Di I1 r1 ty;refine ⟨T,id,pa,slot,hty,h1,h2,?_⟩;have hA:=ha cpos pins s1 σ H1 _ I1 q1;rw[hs] at hA ⊢;refine Calls.callWith_builtin (by show (false||(backTo cpos (starEach es X.env)).any (·.1))=false;rw[hplain] <;> rfl) (Calls.evalArgs_plain ?_);exact thn hA λus s2 ⟨vs,H2,I2,r2,q2⟩=>hm pins s2 σ H2 x vs v us Q I2 r1 r2 q2
end
end L2
namespace L2
open PySem PySem.Spec PyProof.Rows
def MtM (X:Cx) (id:String) (r:V→List V→Hp→VK→Prop):Prop:=
 ∀(pins:List (Addr×Obj)) (s:Shared) (σ:St) (H:Hp) (x:V) (xs:List V) (v:Value) (us:List Value) (Q:VK),Inv X pins σ H s→RelV x v→Vals xs us→r x xs H Q→
  wpAny (model X.prog X.w) X.A (call (.builtin id) (v::us)) (EP X pins σ Q) X.xe s
theorem Vals.one:∀{x:V} {us:List Value},Vals [x] us→∃u,us=[u]∧RelV x u
 | _,_,.cons r .nil=>⟨_,rfl,r⟩
theorem Vals.zero:∀{us:List Value},Vals [] us→us=[]
 | _,.nil=>rfl
theorem Vals.dropLast {xs:List V} {us:List Value} (h:Vals xs us):Vals xs.dropLast us.dropLast:=by
 induction h with
 | nil=>exact .nil
 | cons r t ih=>
  cases t with
  | nil=>exact .nil
  | cons q t'=>exact .cons r ih
theorem Vals.reverse {xs:List V} {us:List Value} (h:Vals xs us):Vals xs.reverse us.reverse:=by
 induction h with
 | nil=>exact .nil
 | cons r t ih=>rw[ac1,ac1];exact Vals.append ih (.cons r .nil)
theorem Vals.rep {xs:List V} {us:List Value} (h:Vals xs us):∀k:Nat,Vals (aac k xs).flatten (aac k us).flatten
 | 0=>.nil
 | k+1=>by
  rw[aax,aax,abl,abl];exact Vals.append h (Vals.rep h k)
theorem x8 {α:Type} (l:List α):l.eraseIdx (l.length - 1)=l.dropLast:=by
 induction l with
 | nil=>rfl
 | cons a r ih=>
  cases r with
  | nil=>rfl
  | cons b r=>
   have e:(a::b::r).length - 1=((b::r).length - 1)+1:=by
    have h1:(a::b::r).length=r.length+2:=rfl;have h2:(b::r).length=r.length+1:=rfl;omega
   rw[e,adi,ih];all_goals rfl
theorem foldl_rep (its:List Value):∀(k:Nat) (acc:List Value),
  aea (λx1 x2=>x1++x2) acc.toArray (aac k its.toArray)=(acc++(aac k its).flatten).toArray
 | 0,acc=>by simp
 | k+1,acc=>by
  have e:acc.toArray++its.toArray=(acc++its).toArray:=by simp
  have e2:(acc++its)++(aac k its).flatten=acc++(aac (k+1) its).flatten:=by
   rw[aax,abl,ac2]
  rw[←e2,←foldl_rep its k (acc++its),←e,aax,aeb]
section
variable {X:Cx} {pins:List (Addr×Obj)} {σ:St} {H:Hp} {s:Shared} {l b:Addr} {xs ys zs:List V}
theorem Inv.lset {its its':List Value} {n:Nat} {f:Array Value→Array Value} {t':Nat} (I:Inv X pins σ H s) (hH:H l=some (.lst xs))
  (e:s.heap.get? l=some { cls:=.type "list",data:=.seq its.toArray n }) (hf:f its.toArray=its'.toArray) (hv:Vals ys its') (hz:ys.length≤sizeLine):
  Inv X pins σ (upd H l (.lst ys)) { s with heap:=s.heap.update l (Obj.mapSeq f),toks:=t' }:=by
 have q:=PySem.IsL.update e f;rw[hf] at q;refine I.write (x:=l) (e:=l) (by rw[hH];exact trivial) (.inl rfl) (λb' u hb hu=>(Heap.get?_update_other s.heap (Obj.mapSeq f) (Ne.symm hb)).trans hu) ⟨_,q⟩ ?_;exact ⟨hz,its',_,hv,q⟩
theorem Inv.lnew {its:List Value} {t':Nat} (I:Inv X pins σ H s) (hv:Vals ys its) (hz:ys.length≤sizeLine):
  Inv X pins σ (upd H s.heap.objs.size (.lst ys)) { s with heap:=s.heap.push { cls:=.type "list",data:=.seq its.toArray },toks:=t' }:=
 I.laid (λ_ _ q=>Heap.get?_push_of_some _ q) (aa5 _) ⟨hz,its,0,hv,Heap.get?_push_size _ rfl⟩
theorem Inv.fresh (I:Inv X pins σ H s):H s.heap.objs.size=none:=I.hok.fresh (aa5 _)
theorem Inv.yc (I:Inv X pins σ H s) (hH:H l=some (.lst xs)):xs.length≤sizeLine∧∃(its:List Value) (n:Nat),Vals xs its∧xs.length=its.length∧s.heap.get? l=some { cls:=.type "list",data:=.seq its.toArray n }:=by
 obtain ⟨z,its,n,r,e⟩:=I.hok l _ hH;exact ⟨z,its,n,r,r.length,e⟩
theorem vm {n:Nat} (h:n≤sizeLine):Builtin.List.listTooLong n=false:=by
 unfold Builtin.List.listTooLong;exact decide_eq_false (by omega)
end
section
variable {X:Cx}
def jo:V→List V→Hp→VK→Prop:=λx vs H Q=>∃l xs y,x=.ref l∧vs=[y]∧H l=some (.lst xs)∧xs.length < sizeLine∧Q .non (upd H l (.lst (xs++[y])))
theorem qu:MtM X "list.append" jo:=by
 intro pins s σ H x vs v us Q I rx rv h;obtain ⟨l,xs,y,rfl,rfl,hH,hz,q⟩:=h;cases rx
 obtain ⟨u,rfl,ru⟩:=rv.one;obtain ⟨z,its,n,r,hl,e⟩:=I.yc hH;refine call_meets F.slot_list_append ⟨_,e,rfl⟩ F.entry_list_append (F.args_list_append_2 _ _) (PySem.list_append l its.toArray n u (by rw[aa3];omega)) ⟨e,?_⟩;refine ⟨.non,_,I.lset (its':=its++[u]) hH e (by simp) (r.append (.cons ru .nil)) ?_,rfl,q⟩;rw[aa1,aa9];omega
def Ij:V→List V→Hp→VK→Prop:=λx vs H Q=>∃l b xs zs,x=.ref l∧vs=[.ref b]∧H l=some (.lst xs)∧H b=some (.lst zs)∧xs.length+zs.length≤sizeLine∧Q .non (upd H l (.lst (xs++zs)))
theorem iq:MtM X "list.extend" Ij:=by
 intro pins s σ H x vs v us Q I rx rv h;obtain ⟨l,b,xs,zs,rfl,rfl,hH,hB,hz,q⟩:=h;cases rx
 obtain ⟨u,rfl,ru⟩:=rv.one;cases ru
 obtain ⟨z,its,n,r,hl,e⟩:=I.yc hH;obtain ⟨z2,its2,n2,r2,hl2,e2⟩:=I.yc hB;have hsz:its.toArray.size+its2.toArray.size≤sizeLine:=by rw[aa3,aa3];omega
 have hlong:¬(!its.toArray.isEmpty&&Builtin.List.listTooLong (its.toArray.size+its2.toArray.size))=true:=by
  rw[vm hsz,adn];exact aab
 refine call_meets F.slot_list_extend ⟨_,e,rfl⟩ F.entry_list_extend (F.args_list_extend_2 _ _)
  (AutoSeq1.list_extend_list_list_0 l its.toArray n b its2.toArray n2 hlong (by rw[aa3];omega) (by omega)) ⟨e,e2,?_⟩
 refine ⟨.non,_,I.lset (its':=its++its2) hH e (by simp) (r.append r2) ?_,rfl,q⟩;rw[aa1];omega
def rPop:V→List V→Hp→VK→Prop:=λx vs H Q=>∃l xs y,x=.ref l∧vs=[]∧H l=some (.lst xs)∧xs[xs.length - 1]?=some y∧Q y (upd H l (.lst xs.dropLast))
theorem jj:MtM X "list.pop" rPop:=by
 intro pins s σ H x vs v us Q I rx rv h;obtain ⟨l,xs,y,rfl,rfl,hH,hy,q⟩:=h;cases rx
 have hus:=rv.zero;subst hus;obtain ⟨z,its,n,r,hl,e⟩:=I.yc hH;obtain ⟨u,hu,ru⟩:=r.get hy;have hy':its.toArray[its.toArray.size - 1]?=some u:=by
  show its.toArray[its.length - 1]?=some u
  rw[←ado,←hl];exact hu
 refine call_meets F.slot_list_pop ⟨_,e,rfl⟩ F.entry_list_pop (F.args_list_pop_1 _) (MeetsSeq.list_pop_last l its.toArray n u hy' (by rw[aa3];omega)) ⟨e,?_⟩;refine ⟨y,_,I.lset (its':=its.dropLast) hH e ?_ r.dropLast ?_,ru,q⟩
 ·show its.toArray.eraseIdxIfInBounds (its.toArray.size - 1)=its.dropLast.toArray
  rw[aa3,acp,x8]
 ·rw[acu];omega
def rCat:R2:=λx y H Q=>∃l b xs zs,x=.ref l∧y=.ref b∧H l=some (.lst xs)∧H b=some (.lst zs)∧xs.length+zs.length≤sizeLine∧∀p,H p=none→Q (.ref p) (upd H p (.lst (xs++zs)))
theorem B4:OpR X (binaryOp .Add) rCat:=by
 intro pins s σ H x y v u Q I rx ry h;obtain ⟨l,b,xs,zs,rfl,rfl,hH,hB,hz,q⟩:=h;cases rx
 cases ry
 obtain ⟨z,its,n,r,hl,e⟩:=I.yc hH;obtain ⟨z2,its2,n2,r2,hl2,e2⟩:=I.yc hB;refine PySem.P.add_list e e2 ?_ (by rw[aa3,aa3];omega);have ea:its.toArray++its2.toArray=(its++its2).toArray:=by simp
 rw[ea];exact ⟨.ref _,_,I.lnew (t':=s.toks) (r.append r2) (by rw[aa1];omega),rfl,q _ I.fresh⟩
def rRep:R2:=λx y H Q=>∃l k xs,x=.ref l∧y=.int k∧H l=some (.lst xs)∧-(2 ^ 63)≤k∧k < 2 ^ 63∧xs.length*k.toNat≤sizeLine∧
 ∀p,H p=none→Q (.ref p) (upd H p (.lst (aac k.toNat xs).flatten))
theorem len_rep {α:Type} (xs:List α) (k:Nat):(aac k xs).flatten.length=k*xs.length:=by
 induction k with
 | zero=>simp
 | succ k ih=>rw[aax,abl,aa1,ih,Nat.succ_mul,adx]
theorem op_rep:OpR X (binaryOp .Mult) rRep:=by
 intro pins s σ H x y v u Q I rx ry h;obtain ⟨l,k,xs,rfl,rfl,hH,h1,h2,hz,q⟩:=h;cases rx
 obtain ⟨t,rfl⟩:=ry;obtain ⟨z,its,n,r,hl,e⟩:=I.yc hH;have hlen:its.toArray.size*k.toNat≤sizeLine:=by rw[aa3,←hl];exact hz
 have hcap:¬its.toArray.size*k.toNat > (2 ^ 63 - 1) / 8:=by
  have:(sizeLine:Nat)≤(2 ^ 63 - 1) / 8:=by decide
  omega
 have hfit:¬(!Builtin.List.listFitsIndex k)=true:=by
  rw[fitsIndex_both h1 h2];exact aab
 have hlong:¬Builtin.List.listTooLong (its.toArray.size*k.toNat)=true:=by
  rw[vm hlen];exact aab
 have hnew:aea (λx1 x2=>x1++x2) #[] (aac (if its.toArray.isEmpty=true then 0 else k.toNat) its.toArray)=(aac k.toNat its).flatten.toArray:=by
  have f0:∀m:Nat,aea (λx1 x2=>x1++x2) #[] (aac m its.toArray)=(aac m its).flatten.toArray:=λm=>by
   have:=foldl_rep its m [];rw[aec] at this;exact this
  rw[f0];cases its with
  | nil=>simp
  | cons a r'=>rw[if_neg (by simp)]
 refine wpAny_binaryOp_repeat_ref (T:="list") (U:="int") (by decide) ⟨_,e,rfl⟩ (λs'=>typeIs_int s' k t) noFill_list_mul F.fills_int_mul F.slot_int_rmul repeat_list F.slot_int_index.lookup
  (call_meets F.slot_int_rmul (typeIs_int s k t) F.entry_int_rmul (F.args_int_rmul_2 _ _) (int___rmul___int_list k t l its.toArray n)
   ⟨e,rfl,⟨_,e,rfl⟩,call_meets F.slot_list_mul ⟨_,e,rfl⟩ F.entry_list_mul (F.args_list_mul_2 _ _) (AutoListH.list___mul___list_int_3 l its.toArray n k t hfit hcap hlong) ⟨e,?_⟩⟩)
 rw[hnew];exact ⟨.ref _,_,I.lnew (t':=s.toks) (r.rep k.toNat) (by rw[len_rep,Nat.mul_comm];exact hz),rfl,q _ I.fresh⟩
end
section
variable {prog:Program} {w:World} {A:Around} {E:Value→Shared→Prop} {s:Shared}
set_option maxRecDepth 100000 in
end
section
variable {X:Cx}
end
end L2
namespace Att
open PySem PySem.W PySem.Calls PyProof.Rows
theorem ly {P:Params} {h:Heap}:∀(ns:List Int) (vs:List Value),WellAll P h vs (ns.map WData.int)→IntsAre vs ns:=by
 intro ns;induction ns with
 | nil=>
  intro vs w;rw[acs] at w;cases w
  exact .nil
 | cons n ns ih=>
  intro vs w;rw[ab0] at w;cases w with
  | cons a b=>
   cases a
   exact .cons _ _ (ih _ b)
theorem Ak {l:OpenLaw} {n:Nat} (hn:l.most=some n) {P:Params} {h:Heap} {args:List WData} {vals:List Value}
  (hpre:l.row.toRowW.claim.pre args=true) (hwl:WellAll P h vals args):
  ∃a vs ns,vals=[Value.ref a]∧args=[WData.list (ns.map WData.int)]∧h.get? a=some { cls:=.type "list",data:=.seq vs.toArray }∧IntsAre vs ns∧ns.length≤n:=by
 have hsh:WShape.hasAll [] args [.list .int]=true:=(pre_splitW hpre).1;have hc:l.pre.holds [] { args:=args }=true:=(pre_splitW hpre).2;obtain ⟨d,r,rfl,h1,h2⟩:=hasAllW_cons hsh;obtain rfl:=hasAllW_nil h2;obtain ⟨xs,rfl,h3⟩:=hasW_list h1;obtain ⟨ns,rfl⟩:=items_int h3;have hlen:ns.length≤n:=by
  unfold OpenLaw.pre at hc;have h4:(WTm.not (.lt (.lit (.int (n:Int))) (.len (.arg 0)))).holds [] { args:=[.list (ns.map .int)] }=true:=by
   have h4:=(holds_andW hc).1;rw[hn] at h4;exact h4
  have h5:=condW_of h4 (w_not (w_lt w_lit (w_len_list (w_arg rfl))));rw[aa0] at h5;refine ae6 λq=>?_;have q':(n:Int) < ((ns.length:Nat):Int):=by omega
  first
   | (rw[decide_eq_true q'] at h5;exact absurd h5 (by decide))
   | (simp at h5;omega)
 cases hwl with
 | cons w1 w2=>
  cases w2
  cases w1 with
  | list ho hall=>exact ⟨_,_,ns,rfl,rfl,ho,ly ns _ hall,hlen⟩
theorem zx (l:OpenLaw) (args:List WData):l.row.toRowW.claim.post args (.bool true) args=true:=
 postW_of (r:=l.row.toRowW) (X:=(true==true))
  (show WShape.has [] (.bool true) .bool=true by first | rfl | decide | simp[WShape.has,WShape.arms,WShape.armsAll])
  (show (WTm.eq .res (.lit (.bool true))).value [] { args:=args,res:=some (.bool true),after:=args }=some (.bool (true==true)) from w_eq_bool (w_res rfl) w_lit) rfl
theorem vb {l:OpenLaw} {n:Nat} {q:Program} {loose:List Str} {XP:(Str→Option Value)→Heap→Prop} {YP:World→Heap→Prop} {d:DefRec}
  (hn:l.most=some n) (hdf:d.params.defaults=[])
  (call:∀(w:World) (s₀ s₁:Shared) (mg mb:Str→Option Value) (fa:Addr) (o:Obj) (pm cd doc:Value) (a:Addr) (vs:List Value) (ns:List Int),
   Ground q loose [] XP w s₀ mg mb s₁.heap→YP w s₁.heap→
   s₁.heap.get? fa=some o→o.data=.func (docDef d.name d.params d.body d.scope pm cd doc)→s₁.heap.CodeRec cd d.name→mg d.name=some (.ref fa)→
   s₁.heap.get? a=some { cls:=.type "list",data:=.seq vs.toArray }→IntsAre vs ns→ns.length≤n→s₁.gens=#[]→
   codeAny (model l.prog w) callerA (.call (.ref fa) ⟨[.ref a],[]⟩) (λr s'=>r=.ok (.ret (.bool true))∧OldK s₁.heap s'.heap∧s'.os=s₁.os∧AllBare s'.gens) s₁):
  WalkO q loose XP YP l.row.toRowW d [] (λf vs=>PySem.call f vs):=by
 intro w s₀ s₁ mg mb G Y fa o pm cd doc dV kV ho hd hcd hD hmg hg args vals as hpre hlay hrd hwl hlo;obtain rfl:dV=.none:=Dflts.none hD hdf;obtain rfl:kV=.none:=Dflts.noKw hD;obtain ⟨a,vs,ns,rfl,rfl,hobj,hints,hlen⟩:=Ak hn hpre hwl;refine enter_call (codeAny_mono (call w s₀ s₁ mg mb fa o pm cd doc a vs ns G Y ho (fd_plain hd) hcd hmg hobj hints hlen hg) λr s' hq=>?_);obtain ⟨rfl,h2,h3,h4⟩:=hq;exact ⟨.inl ⟨.bool true,.bool true,[],rfl,λ_=>rfl,.bool true,zx l _,λ_=>⟨List.Pairwise.nil,λ_ hm=>(nomatch hm)⟩⟩,h2,h3,h4⟩
section
variable {prog:Program} {w:World} {A:Around} {E:Value→Shared→Prop} {s:Shared} {K:Frag}
end
end Att
namespace L2
open PySem PySem.Spec PyProof.Rows
theorem qk:∀{vs:List Value} {ns:List Int},IntsAre vs ns→Vals (ns.map V.int) vs
 | _,_,.nil=>.nil
 | _,_,.cons n t h=>.cons ⟨t,rfl⟩ (qk h)
def Only (H:Hp):Prop:=∀b,H b=none∨∃o xs,H b=some (.frz o (.lst xs))
theorem Ej {P:Program} {w:World} {K:PySem.W.Frag} {mg mb:Str→Option Value} {CX:CXT} {k:Nat} {fa a:Addr} {fd:FuncData} {x:Str} {sp:Sp} {s₁:Shared} {vs:List Value} {ns:List Int}
  (KX:K.In s₁.heap) (hns:s₁.heap.Ns mainGlobals mg) (hb:s₁.heap.Ns builtinsNs mb) (hbb:∀x:Str,x≠"__name__"→mb x=bootBuiltins x) (hlim:s₁.heap.NoLimit) (hg:s₁.gens=#[])
  (ha:s₁.heap.get? a=some { cls:=.type "list",data:=.seq vs.toArray }) (hi:IntsAre vs ns) (hl:ns.length≤sizeLine) (hr:dr k callerA)
  (F:∀base:Heap,K.In base→base.Ns mainGlobals mg→iz P w K mg base CX k fa fd [x] sp) (hbind:∀(s:Shared) (u:Value),BindsTo s fd ⟨[u],[]⟩ [(x,u)])
  (hsp:∀H:Hp,Only H→SqL K H a (ns.map V.int)→sp [.ref a] H (λv _=>v=.bl true) λ_ _ _=>False)
  (hCX:∀H e s',CX [] H s₁ (λ_ _ _=>False) e s'→False):
  codeAny (model P w) callerA (.call (.ref fa) ⟨[.ref a],[]⟩) (λr s'=>r=.ok (.ret (.bool true))∧OldK s₁.heap s'.heap∧s'.os=s₁.os∧AllBare s'.gens) s₁:=by
 have rv:=qk hi;have lenV:=hi.length;have core:∀H:Hp,Only H→SqL K H a (ns.map V.int)→HOk P w H s₁.heap→(∀b,H b≠none→b=a)→(H a≠none→K.lookup a=none)→
   codeAny (model P w) callerA (.call (.ref fa) ⟨[.ref a],[]⟩) (λr s'=>r=.ok (.ret (.bool true))∧OldK s₁.heap s'.heap∧s'.os=s₁.os∧AllBare s'.gens) s₁:=by
  intro H hO hS hok hA hK;have base_of:∀{b:Addr} {o:Obj},s₁.heap.get? b=some o→H b=none→(t4 s₁.heap H).get? b=some o:=λe n=>Cu e n;have noA:∀{b:Addr} {o:Obj} {es:Array DictEntry} {ep:Nat},s₁.heap.get? b=some o→o.data=.dict es ep→H b=none:=λ{b o es ep} e d=>by
   cases q:H b with
   | none=>rfl
   | some u=>
    have e':b=a:=hA b (by rw[q];simp);subst e';rw[ha] at e;cases e;have d':Data.seq vs.toArray _=Data.dict es ep:=d;cases d'
  have nsK:∀{b:Addr} {m:Str→Option Value},s₁.heap.Ns b m→(t4 s₁.heap H).Ns b m:=λ{b m} ⟨o,es,ep,e,d,r⟩=>⟨o,es,ep,base_of e (noA e d),d,r⟩;have hKb:K.In (t4 s₁.heap H):=λb o e=>base_of (KX b o e) (by
   cases q:H b with
   | none=>rfl
   | some u=>
    have e':b=a:=hA b (by rw[q];simp);subst e';rw[hK (by rw[q];simp)] at e;cases e)
  have hM:Mod K mg (t4 s₁.heap H):=⟨hKb,nsK hns,⟨mb,nsK hb,hbb⟩,let ⟨mc,h1,h2⟩:=hlim;⟨mc,nsK h1,h2⟩⟩;have e0:Env0 P w K mg (t4 s₁.heap H) callerA [] s₁ H:=⟨rfl,hM,λb o e=>Gy e,Nat.le_of_eq (Ax _ _),trivial,λb hb=>absurd (show b∈([]:List Addr) from hb) (by simp),hok,.of_eq hg⟩;refine codeAny_mono ((F _ hKb (nsK hns)).run callerA [] s₁ H ⟨[.ref a],[]⟩ [.ref a] [.ref a] _ _ hr e0 (hbind s₁ (.ref a)) (.cons rfl .nil) (hsp H hO hS)) λr s' h=>?_;cases r with
  | error e=>exact (hCX H e s' h).elim
  | ok fl=>
   cases fl with
   | next=>exact False.elim h
   | brk=>exact False.elim h
   | cont=>exact False.elim h
   | ret u=>
    obtain ⟨v,H',os,bare,un,hok',r',q⟩:=h;have q':v=.bl true:=q;subst q';obtain rfl:u=Value.bool true:=r';refine ⟨rfl,OldK.of_keep λb o e=>?_,os,bare⟩;cases q:H b with
    | none=>exact un.keep b o e q (by intro z;exact absurd (show b∈([]:List Addr) from z) (by simp)) (by simp)
    | some u=>
     rcases hO b with z | ⟨ob,xs,z⟩
     ·rw[q] at z;cases z
     ·have z2:=un.frzs b ob _ z;obtain ⟨e1,_⟩:=hok b _ z;obtain ⟨e2,_⟩:=hok' b _ z2;rw[e] at e1;cases e1;exact e2
 cases hk:K.lookup a with
 | some o=>
  have e:=KX a o hk;rw[ha] at e;cases e
  refine core (λ_=>none) (λ_=>.inl rfl) (.inr ⟨_,vs.toArray,_,hk,rfl,rfl,rfl,by rw[aa3,lenV];exact hl,by simpa using rv⟩) (λb u z=>by have z':(none:Option HO)=some u:=z;cases z') (λb z=>absurd rfl z) λz=>absurd rfl z
 | none=>
  refine core (λb=>if b=a then some (.frz { cls:=.type "list",data:=.seq vs.toArray } (.lst (ns.map V.int))) else none) (λb=>?_) (.inl (.inr ⟨{ cls:=.type "list",data:=.seq vs.toArray },if_pos rfl⟩)) (λb u z=>?_) (λb z=>?_) λ_=>hk
  ·by_cases hb:b=a
   ·exact .inr ⟨_,_,if_pos hb⟩
   ·exact .inl (if_neg hb)
  ·by_cases hb:b=a
   ·have z':=(if_pos hb).symm.trans z;cases z'
    subst hb;exact ⟨ha,by rw[aa0];exact hl,vs,_,rv,ha⟩
   ·have z':=(if_neg hb).symm.trans z;cases z'
  ·by_cases hb:b=a
   ·exact hb
   ·exact absurd (if_neg hb) z
end L2
namespace L2
open PySem PySem.Spec PyProof.Rows
noncomputable abbrev KOf {K:PySem.W.Frag} {h:Heap} (_:K.In h):PySem.W.Frag:=K
theorem Ge {l:PySem.W.OpenLaw} {n k:Nat} {q:Program} {loose:List Str} {XP:(Str→Option Value)→Heap→Prop} {YP:World→Heap→Prop} {d:DefRec} {K:Params→PySem.W.Frag} {CX:World→CXT} {sp:World→Sp} {x:Str}
  (hn:l.most=some n) (hn2:n≤sizeLine) (hdf:d.params.defaults=[]) (hr:dr k callerA)
  (hY:∀(w:World) (h:Heap),YP w h→(K w.params).In h)
  (F:∀(w:World) (mg:Str→Option Value) (fa:Addr) (h:Heap),(K w.params).In h→h.Ns mainGlobals mg→mg d.name=some (.ref fa)→
   ∃fd:FuncData,(∀(s:Shared) (u:Value),BindsTo s fd ⟨[u],[]⟩ [(x,u)])∧
    ∀base:Heap,(K w.params).In base→base.Ns mainGlobals mg→iz l.prog w (K w.params) mg base (CX w) k fa fd [x] (sp w))
  (hsp:∀(w:World) (H:Hp) (a:Addr) (ns:List Int),ns.length≤n→Only H→SqL (K w.params) H a (ns.map V.int)→sp w [.ref a] H (λv _=>v=.bl true) λ_ _ _=>False)
  (hCX:∀(w:World) (H:Hp) (s:Shared) (e:Value) (s':Shared),CX w [] H s (λ_ _ _=>False) e s'→False):
  PySem.W.WalkO q loose XP YP l.row.toRowW d [] (λf vs=>PySem.call f vs):=by
 refine Att.vb hn hdf λw s₀ s₁ mg mb fa o pm cd doc a vs ns G Y ho hd hcd hmg hobj hints hlen hg=>?_;have KX:=hY w _ Y;obtain ⟨fd,hb,hF⟩:=F w mg fa _ KX G.T.g hmg;exact Ej KX G.T.g G.T.b G.T.builtins G.T.nolimit hg hobj hints (aaw hlen hn2) hr hF hb (λH hO hS=>hsp w H a ns hlen hO hS) λH e s'=>hCX w H s₁ e s'
end L2
namespace L2
open PySem PySem.Spec PyProof.Rows
noncomputable def bb (s:Stmt):Arguments:=match s with
 | .FunctionDef _ a _ _ _ _ _ _ _ _=>a
 | _=>{ posonlyargs:=[],args:=[],vararg:=none,kwonlyargs:=[],kw_defaults:=[],kwarg:=none,defaults:=[] }
noncomputable def ax (s:Stmt):List Stmt:=match s with
 | .FunctionDef _ _ b _ _ _ _ _ _ _=>b
 | _=>[]
noncomputable def ah (s:Stmt):Scope:=match s with
 | .FunctionDef _ _ _ _ _ _ sc _ _ _=>sc
 | _=>{ kind:=.function,names:=[],isGenerator:=false,isCoroutine:=false }
noncomputable abbrev CX0:CXT:=λ_ _ _ _ _ _=>False
abbrev E0:XK:=λ_ _ _=>False
theorem pass0 {X:Cx}:Passes CX0 X E0:=λ_ _ _ _ _ _ _ h=>h.elim
structure Fun (K:PySem.W.Frag) (x qual:Str) (st:Stmt) (f:Addr) (fd:FuncData):Prop where
 ex:∃(oc:Value) (od:Option Addr) (kV doc pm:Value) (an:Option Addr) (cdv ct:Value) (osl:Array (Option Value)),
  fd=PySem.W.fnOf x qual (bb st) (ax st) (ah st) .none kV doc pm an cdv ct∧K.lookup f=some ⟨oc,od,.func fd,osl⟩∧PySem.W.codeIn K cdv qual=true
 kp:PySem.W.keepIn K (.ref f)=true
section
variable {P:Program} {w:World} {K:PySem.W.Frag} {mg:Str→Option Value} {base:Heap}
theorem Fun.ok {x qual:Str} {st:Stmt} {f:Addr} {fd:FuncData} {N ps:List Str} {k:Nat} {sp:Sp} (F:Fun K x qual st f fd) (S:ba N ps (ah st)) (len:∀vs H Q E,sp vs H Q E→vs.length=ps.length)
  (hbody:∀(cdv:Value) (A:Around) (outer:List Env) (s:Shared) (H:Hp) (vs:List V) (Q:VK) (E:XK),dr k (A.deeper (envOfC qual (ah st) s.heap.objs.size f cdv))→sp vs H Q E→
   ∃t,PSs (jk CX0 P w K mg base N qual (ah st) f cdv A outer s H E).nox (ax st) t∧t { nx:=λ_ H'=>Q .non H',rt:=Q } (start N vs) H):iz P w K mg base CX0 (k+1) f fd ps sp:=by
 obtain ⟨oc,od,kV,doc,pm,an,cdv,ct,osl,rfl,lk,hcd⟩:=F.ex;refine fn_of lk hcd S len λA outer s H vs Q E hr hsp=>?_;obtain ⟨t,h,q⟩:=hbody cdv A outer s H vs Q E hr hsp;exact ⟨t,h.nox,q⟩
theorem Fun.binds {x qual:Str} {st:Stmt} {f:Addr} {fd:FuncData} {ps:List Str} (F:Fun K x qual st f fd)
  (h:∀(kV doc pm:Value) (an:Option Addr) (cdv ct:Value) (us:List Value),us.length=ps.length→bindArgs (PySem.W.fnOf x qual (bb st) (ax st) (ah st) .none kV doc pm an cdv ct) ⟨us,[]⟩=pure (ps.zip us)):Binds K fd ps []:=by
 obtain ⟨oc,od,kV,doc,pm,an,cdv,ct,osl,rfl,lk,hcd⟩:=F.ex;exact .all (h kV doc pm an cdv ct)
theorem bx {x qual:Str} {st:Stmt} {f:Addr} {oc:Value} {od an:Option Addr} {osl:Array (Option Value)} {kV doc pm cdv ct:Value} (l:K.lookup f=some ⟨oc,od,.func (PySem.W.fnOf x qual (bb st) (ax st) (ah st) .none kV doc pm an cdv ct),osl⟩)
  (c:PySem.W.codeIn K cdv qual=true) (k:PySem.W.keepIn K (.ref f)=true):Fun K x qual st f (PySem.W.fnOf x qual (bb st) (ax st) (ah st) .none kV doc pm an cdv ct):=⟨⟨oc,od,kV,doc,pm,an,cdv,ct,osl,rfl,l,c⟩,k⟩
end
theorem cv {A:Around} {k:Nat} (hr:dr k A):A.units+1 < cLine:=ach (Nat.add_le_add_left (by decide:1≤64) _) hr.units
section
variable {X:Cx}
theorem pv (i:Nat) {x:Str} {pos:Pos} (hN:X.N[i]?=some x:=by rfl) (hv:Vis X.env.scope x:=by first | exact ab8 rfl | exact abc (ab8 rfl) | exact abc (abc rfl)) (hd:(x==("__debug__":Str))=false:=by decide)
  (hcd:(x==("__classdict__":Str))=false:=by decide):PE X (.Name x pos) (tVar i):=pe_var hN hv hd hcd
end
theorem uj {A B:Prop} (h:B):if false=true then A else B:=by
 rw[if_neg aab];exact h
theorem o8 {A B:Prop} (h:A):if true=true then A else B:=by
 rw[if_pos rfl];exact h
theorem bp {c A B:Prop} [Decidable c] (h1:c→A) (h2:¬c→B):if c then A else B:=by
 by_cases h:c
 ·rw[if_pos h];exact h1 h
 ·rw[if_neg h];exact h2 h
def ak (H H':Hp):Prop:=∀b o,H b=some o→H' b=some o
theorem ak.refl (H:Hp):ak H H:=λ_ _ h=>h
theorem ak.trans {H H1 H2:Hp} (a:ak H H1) (b:ak H1 H2):ak H H2:=λc o h=>b c o (a c o h)
theorem ak.free {H H':Hp} (e:ak H H') {l:Addr} (h:H' l=Option.none):H l=Option.none:=by
 cases q:H l with
 | none=>rfl
 | some o=>
  rw[e l o q] at h;cases h
theorem ak.seq {K:PySem.W.Frag} {H H':Hp} {a:Addr} {xs:List V} (e:ak H H') (h:SqL K H a xs):SqL K H' a xs:=by
 rcases h with (h | ⟨o,h⟩) | h
 ·exact .inl (.inl (e _ _ h))
 ·exact .inl (.inr ⟨o,e _ _ h⟩)
 ·exact .inr h
end L2
namespace L2
open PySem PySem.Spec PyProof.Rows
section
variable {κ:Type} [DecidableEq κ]
noncomputable def ky (kvs:List (κ×V)) (k:κ):Option V:=(kvs.find? λkv=>decide (kv.1=k)).map (·.2)
noncomputable def putK (kvs:List (κ×V)) (k:κ) (v:V):List (κ×V):=
 if (kvs.any λkv=>decide (kv.1=k))=true then kvs.map (λkv=>if kv.1=k then (kv.1,v) else kv) else kvs++[(k,v)]
theorem gh {p:κ×V} {r:List (κ×V)} {k:κ} (e:p.1=k):ky (p::r) k=some p.2:=by simp[ky,abh,e]
theorem gd {p:κ×V} {r:List (κ×V)} {k:κ} (e:¬p.1=k):ky (p::r) k=ky r k:=by simp[ky,abh,e]
theorem wb (kvs:List (κ×V)) (k:κ) (v:V):(putK kvs k v).length≤kvs.length+1:=by
 unfold putK;split
 ·rw[aa0];omega
 ·rw[aa1,aaq,acv];omega
theorem ku.getD {o:Option V} {u:Option Value} {d:V} {d':Value} (r:ku o u) (rd:RelV d d'):RelV (o.getD d) (u.getD d'):=by
 cases o with
 | none=>cases u with
  | none=>exact rd
  | some _=>exact (show False from r).elim
 | some _=>cases u with
  | none=>exact (show False from r).elim
  | some _=>exact r
theorem KV.val {kvs:List (κ×V)} {vs:List (κ×Value)} (r:KV kvs vs) (k:κ):ku (ky kvs k) (valueAt vs k):=by
 unfold KV at r;induction r with
 | nil=>exact True.intro
 | @cons p q ps qs h t ih=>
  obtain ⟨h1,h2⟩:=h;by_cases e:p.1=k
  ·have e':q.1=k:=h1.symm.trans e;have b:valueAt (q::qs) k=some q.2:=by simp[valueAt,abh,e']
   rw[gh e,b];exact h2
  ·have e':¬q.1=k:=λz=>e (h1.trans z);have b:valueAt (q::qs) k=valueAt qs k:=by simp[valueAt,abh,e']
   rw[gd e,b];exact ih
theorem KV.any {kvs:List (κ×V)} {vs:List (κ×Value)} (r:KV kvs vs) (k:κ):(kvs.any λkv=>decide (kv.1=k))=vs.any λkv=>decide (kv.1=k):=by
 unfold KV at r;induction r with
 | nil=>rfl
 | cons h t ih=>rw[acn,acn,ih,h.1]
theorem KV.repl {kvs:List (κ×V)} {vs:List (κ×Value)} (r:KV kvs vs) (k:κ) {y:V} {u:Value} (ry:RelV y u):
  KV (kvs.map λkv=>if kv.1=k then (kv.1,y) else kv) (vs.map λkv=>if kv.1=k then (kv.1,u) else kv):=by
 unfold KV at r ⊢;induction r with
 | nil=>exact .nil
 | @cons p q ps qs h t ih=>
  rw[ab0,ab0];refine .cons ?_ ih;obtain ⟨h1,h2⟩:=h;by_cases e:p.1=k
  ·rw[if_pos e,if_pos (h1.symm.trans e)];exact ⟨h1,ry⟩
  ·rw[if_neg e,if_neg (λz=>e (h1.trans z))];exact ⟨h1,h2⟩
theorem KV.put {kvs:List (κ×V)} {vs:List (κ×Value)} (r:KV kvs vs) (k:κ) {y:V} {u:Value} (ry:RelV y u):KV (putK kvs k y) (stored vs k u):=by
 unfold putK stored;rw[r.any k];by_cases e:(vs.any λkv=>decide (kv.1=k))=true
 ·rw[if_pos e,if_pos e];exact r.repl k ry
 ·rw[if_neg e,if_neg e];exact Paired.snoc r ⟨rfl,ry⟩
end
theorem y6 {P:Program} {w:World} {k:Key} {u:Value} (r:RelV (kV k) u):(cb P w).is k u=true:=by
 cases k with
 | inl i=>obtain ⟨t,e⟩:=(show ∃t,u=Value.int i t from r);subst e;exact wj P w i t
 | inr x=>obtain ⟨t,e⟩:=(show ∃t,u=Value.str x t from r);subst e;exact ia P w x t
theorem qi {P:Program} {w:World}:∀{ks:List Key} {us:List Value},Vals (ks.map kV) us→ItemsAre (cb P w) ks us
 | [],_,r=>by rw[acs] at r;cases r;exact .nil
 | k::ks,_,r=>by
  rw[ab0] at r;cases r with
  | cons h t=>exact .cons (y6 h) (qi t)
abbrev KT (H:Hp):List (List Key×V)→List (List Key×Addr×Value)→Prop:=Paired λp q=>p.1=q.1∧H q.2.1=some (.tup (p.1.map kV))∧RelV p.2 q.2.2
theorem KT.val {H:Hp} {kvs:List (List Key×V)} {xs:List (List Key×Addr×Value)} (r:KT H kvs xs) (k:List Key):ku (ky kvs k) ((atKey xs k).map (·.2)):=by
 induction r with
 | nil=>exact True.intro
 | @cons p q ps qs h t ih=>
  obtain ⟨h1,_,h2⟩:=h;by_cases e:p.1=k
  ·have e':q.1=k:=h1.symm.trans e;have b:atKey (q::qs) k=some q.2:=by simp[atKey,abh,e']
   rw[gh e,b];exact h2
  ·have e':¬q.1=k:=λz=>e (h1.trans z);have b:atKey (q::qs) k=atKey qs k:=by simp[atKey,abh,e']
   rw[gd e,b];exact ih
section
variable {P:Program} {w:World} {H:Hp} {h:Heap} {a:Addr}
theorem rd_of {u:HO} (ok:HOk P w H h) (e:Rd H a u):bz P w H h a u:=e.ok ok
theorem Dz {kvs:List (Key×V)} (ok:HOk P w H h) (e:Rd H a (.dK kvs)):kvs.length≤sizeLine∧(a==sysModules)=false∧∃vs,KV kvs vs∧h.DictOf (cb P w) a vs:=
 show bz P w H h a (.dK kvs) from rd_of ok e
theorem dk_of {kvs:List (Key×V)} (ok:HOk P w H h) (e:H a=some (.dK kvs)):kvs.length≤sizeLine∧(a==sysModules)=false∧∃vs,KV kvs vs∧h.DictOf (cb P w) a vs:=Dz ok (.inl e)
theorem Cs {ks:List Key} (ok:HOk P w H h) (e:H a=some (.tup (ks.map kV))):(tupleKind (cb P w)).is h ks a:=by
 obtain ⟨_,its,r,o,h1,h2,n,h3,_⟩:=(show bz P w H h a (.tup (ks.map kV)) from ok a _ e);exact ⟨o,its.toArray,n,h1,h2,h3,by simpa using qi r⟩
theorem dt_rd {kvs:List (List Key×V)} (ok:HOk P w H h) (e:Rd H a (.dT kvs)):kvs.length≤sizeLine∧(a==sysModules)=false∧
  ∃xs,KT H kvs xs∧h.DictOfH (tupleKind (cb P w)) a xs:=by
 obtain ⟨z,y,xs,r,o,es,ep,h1,h2,h3,h4,h5⟩:=(show bz P w H h a (.dT kvs) from rd_of ok e);refine ⟨z,y,xs,r,o,es,ep,h1,h2,h3,h4,λx hx=>?_,h5⟩;have all:∀{l:List (List Key×V)} {m:List (List Key×Addr×Value)},KT H l m→∀x∈m,(tupleKind (cb P w)).is h x.1 x.2.1:=by
  intro l m q;induction q with
  | nil=>intro x hx;exact nomatch hx
  | @cons p q ps qs hq t ih=>
   intro x hx;rcases List.mem_cons.mp hx with e | hx
   ·subst e;exact Cs ok (by rw[←hq.1];exact hq.2.1)
   ·exact ih x hx
 exact all r x hx
end
def vd (H:Hp) (a:Addr) (y:V) (r:Option V):Prop:=
 (∃kvs k,Rd H a (.dK kvs)∧y=kV k∧r=ky kvs k)∨∃kvs k b,Rd H a (.dT kvs)∧y=.ref b∧H b=some (.tup (k.map kV))∧r=ky kvs k
def DPut (H:Hp) (a:Addr) (y v:V) (H':Hp):Prop:=
 (∃kvs k,H a=some (.dK kvs)∧y=kV k∧kvs.length < sizeLine∧H'=upd H a (.dK (putK kvs k v)))∨
 ∃kvs k b,H a=some (.dT kvs)∧y=.ref b∧H b=some (.tup (k.map kV))∧kvs.length < sizeLine∧H'=upd H a (.dT (putK kvs k v))
section
variable {X:Cx} {pins:List (Addr×Obj)} {σ:St} {H:Hp} {s:Shared} {a:Addr} {y v:V} {u r:Value} {o:Option V} {A:Around} {E:Value→Shared→Prop}
theorem Inv.big (I:Inv X pins σ H s):sysModules < s.heap.objs.size:=by
 have h:mainGlobals < s.heap.objs.size:=(I.mod.glob.keeps I.bk).lt;exact ady (by decide) h
theorem zv {Q:Value→Shared→Prop} (hu:A.units+1 < cLine) (I:Inv X pins σ H s) (g:vd H a y (some v)) (ry:RelV y u) (h:∀w' s',Inv X pins σ H s'→RelV v w'→Q w' s'):
  wpAny (model X.prog X.w) A (getItem (.ref a) u) Q E s:=by
 rcases g with ⟨kvs,k,e,ey,l⟩ | ⟨kvs,k,b,e,ey,eb,l⟩
 ·subst ey;obtain ⟨z,hd,vs,rel,dd⟩:=Dz I.hok e;obtain ⟨w',hw,rw'⟩:=ku.some_of (v:=v) (o:=valueAt vs k) (by rw[l];exact rel.val k);exact wpAny_getItem_of (y6 ry) dd.mapOf hw (h w' _ (I.tok _) rw')
 ·subst ey;cases (show u=Value.ref b from ry)
  obtain ⟨z,hd,xs,rel,dd⟩:=dt_rd I.hok e;obtain ⟨w',hw,rw'⟩:=ku.some_of (v:=v) (o:=(atKey xs k).map (·.2)) (by rw[l];exact rel.val k);obtain ⟨p,hp,hp2⟩:=Option.map_eq_some_iff.mp hw;refine wpAny_getItem_heap (tupleKind_room_in1 hu) (Cs I.hok eb) dd hp ?_;rw[hp2];exact h w' _ (I.tok _) rw'
theorem Hg {h':Heap} {t':Nat} {ob:HO} (I:Inv X pins σ H s) (mu:Mut (H a)) (hs:Heap.SameBut a s.heap h') (he:∃q,h'.get? a=some q) (new:bz X.prog X.w (upd H a ob) h' a ob):
  Inv X pins σ (upd H a ob) { s with heap:=h',toks:=t' }:=
 I.write (x:=a) (e:=a) mu (.inl rfl) (λb q hb z=>(hs.2 b hb).trans z) he new
theorem dk_new {P:Program} {w:World} {H':Hp} {h':Heap} {kvs:List (Key×V)} {vs:List (Key×Value)} (z:kvs.length≤sizeLine) (hd:(a==sysModules)=false) (rel:KV kvs vs) (dd:h'.DictOf (cb P w) a vs):
  bz P w H' h' a (.dK kvs):=⟨z,hd,vs,rel,dd⟩
end
section
variable {X:Cx} {pins:List (Addr×Obj)} {σ:St} {H:Hp} {s:Shared} {a:Addr} {kvs:List (Key×V)} {k:Key} {u:Value} {A:Around} {E:Value→Shared→Prop}
end
def NoSl (i:Expr):Prop:=∀ov iv,subscripted i false ov iv=operate [ov,iv] (getItem ov iv)
theorem Il {prog:Program} {w:World} {A:Around} {E:Value→Shared→Prop} {s:Shared} {env:Env} {value slice:Expr} {pos:Pos} {T id:String} {Q:Value→Shared→Prop}
  (hl:typeLookup (.type T) "__getitem__"=pure (some (.builtin id))) (hs:NoSl slice)
  (h:wpAny (model prog w) A (eval value env) (λo s₁=>wpAny (model prog w) A (eval slice env) (λi s₂=>s₂.TypeIs o T∧wpAny (model prog w) A (getItem o i) Q E s₂) E s₁) E s):
  wpAny (model prog w) A (eval (.Subscript value slice pos) env) Q E s:=by
 refine Subscript_ (wpAny_mono h (λo s₁ h₁=>wpAny_mono h₁ (λi s₂ h₂=>?_) λ_ _ x=>x) λ_ _ x=>x);obtain ⟨hT,h₂⟩:=h₂;unfold subscriptTail;refine wpAny_bind ?_;rw[getitemInPython_of_ne hT.not_modules];refine wpAny_bind (wpAny_specialOf hT hl ?_);have fin:wpAny (model prog w) A (subscripted slice false o i) (λr s₃=>wpAny (model prog w) A (letTemporaryGo value o r >>=λ_=>pure r) Q E s₃) E s₂:=by
  rw[hs o i];exact wpAny_operating (wpAny_mono h₂ (λr s₃ h₃=>wpAny_bind (wpAny_letTemporaryGo (wpAny_pure h₃))) λ_ _ x=>x)
 first
  | exact wpAny_pure (wpAny_bind fin)
  | exact wpAny_bind (wpAny_pure (wpAny_bind fin))
  | exact wpAny_bind fin
theorem wa {X:Cx} {pins:List (Addr×Obj)} {σ:St} {H:Hp} {s:Shared} {a:Addr} {y:V} {o:Option V} (I:Inv X pins σ H s) (g:vd H a y o):s.TypeIs (.ref a) "dict":=by
 rcases g with ⟨kvs,k,e,_,_⟩ | ⟨kvs,k,b,e,_,_,_⟩
 ·obtain ⟨_,_,vs,_,dd⟩:=Dz I.hok e;exact dd.typeIs
 ·obtain ⟨_,_,xs,_,dd⟩:=dt_rd I.hok e;exact dd.typeIs
def tDGet (td ty:TE):TE:=λσ H Q=>td σ H λx H1=>ty σ H1 λy H2=>∃a v,x=.ref a∧vd H2 a y (some v)∧Q v H2
def tDIn (ty td:TE):TE:=λσ H Q=>ty σ H λy H1=>td σ H1 λx H2=>∃a o,x=.ref a∧vd H2 a y o∧Q (.bl o.isSome) H2
def Gn (ty td:TE):TE:=λσ H Q=>ty σ H λy H1=>td σ H1 λx H2=>∃a o,x=.ref a∧vd H2 a y o∧Q (.bl (!o.isSome)) H2
def sDPut (td ty tv:TE):TS:=λD σ H=>tv σ H λv H1=>td σ H1 λx H2=>ty σ H2 λy H3=>∃a H4,x=.ref a∧DPut H3 a y v H4∧D.nx σ H4
section
variable {X:Cx} {o i e value:Expr} {pos pos' tpos:Pos} {td ty tv:TE}
theorem Ft (hu:X.A.units+1 < cLine) (ho:PE X o td) (hi:PE X i ty) (hs:NoSl i):PE X (.Subscript o i pos) (tDGet td ty):=by
 intro pins s σ H Q I h;refine Il PySem.F.slot_dict_getitem.lookup hs (thn (ho pins s σ H _ I h) λu s1 ⟨x,H1,I1,rx,q1⟩=>thn (hi pins s1 σ H1 _ I1 q1) λiv s2 ⟨y,H2,I2,ry,a,v,ex,g,q2⟩=>?_);subst ex;obtain rfl:u=Value.ref a:=rx;exact ⟨wa I2 g,zv hu I2 g ry λw' s3 I3 rw'=>⟨v,H2,I3,rw',q2⟩⟩
end
theorem Bx {P:Program} {w:World} {H:Hp} (h:Heap) (hb:sysModules < h.objs.size):bz P w H (h.push { cls:=.type "dict",data:=.dict #[] }) h.objs.size (.dK []):=
 ⟨aaa _,beq_eq_false_iff_ne.mpr (Ne.symm (aap hb)),[],.nil,Heap.DictOf.new h⟩
def tDNewK:TE:=λ_ H Q=>∀p,H p=none→Q (.ref p) (upd H p (.dK []))
section
variable {X:Cx} {pos:Pos}
end
def sr:List (TE×TE)→St→Hp→(List (V×V)→Hp→Prop)→Prop
 | [],_,H,Q=>Q [] H
 | (tk,tv)::r,σ,H,Q=>tk σ H λx H1=>tv σ H1 λy H2=>sr r σ H2 λps H3=>Q ((x,y)::ps) H3
abbrev VV:List (V×V)→List (Value×Value)→Prop:=Paired λp q=>RelV p.1 q.1∧RelV p.2 q.2
def PPs (X:Cx) (pos:Pos) (keys:List (Option Expr)) (values:List Expr) (trs:List (TE×TE)):Prop:=
 ∀(pins:List (Addr×Obj)) (s:Shared) (σ:St) (H:Hp) (Q:List (V×V)→Hp→Prop),Inv X pins σ H s→sr trs σ H Q→
  wpAny (model X.prog X.w) X.A (evalPairs (pairTrees keys values X.env pos)) (λvs s'=>∃ps H',Inv X pins σ H' s'∧VV ps vs∧Q ps H') X.xe s
theorem Gu {X:Cx} {pos:Pos}:PPs X pos [] [] []:=λpins s σ H Q I h=>pairTrees_nil_walk ⟨[],H,I,.nil,h⟩
theorem E5 {X:Cx} {pos:Pos} {k v:Expr} {ks:List (Option Expr)} {vs:List Expr} {tk tv:TE} {trs:List (TE×TE)} (hk:PE X k tk) (hv:PE X v tv) (hr:PPs X pos ks vs trs):
  PPs X pos (some k::ks) (v::vs) ((tk,tv)::trs):=λpins s σ H Q I h=>
 pairTrees_cons_walk (thn (hk pins s σ H _ I h) λu s1 ⟨x,H1,I1,rx,q1⟩=>thn (hv pins s1 σ H1 _ I1 q1) λw2 s2 ⟨y,H2,I2,ry,q2⟩=>
  thn (hr pins s2 σ H2 _ I2 q2) λws s3 ⟨ps,H3,I3,rel,q3⟩=>⟨(x,y)::ps,H3,I3,.cons ⟨rx,ry⟩ rel,q3⟩)
noncomputable def lg (kvs more:List (Key×V)):List (Key×V):=more.foldl (λacc kv=>putK acc kv.1 kv.2) kvs
theorem KV.merge:∀{more:List (Key×V)} {rs:List (Key×Value)} {kvs:List (Key×V)} {vs:List (Key×Value)},KV more rs→KV kvs vs→KV (lg kvs more) (merged vs rs):=by
 intro more rs kvs vs r;unfold KV at r;induction r generalizing kvs vs with
 | nil=>intro q;exact q
 | @cons p q ps qs h t ih=>
  intro r0;have e:KV (putK kvs p.1 p.2) (stored vs q.1 q.2):=by
   have:=r0.put p.1 h.2;rw[←h.1];exact this
  exact ih e
theorem i5:∀(more kvs:List (Key×V)),(lg kvs more).length≤kvs.length+more.length
 | [],kvs=>by show kvs.length≤kvs.length+0;omega
 | p::r,kvs=>by
  have h1:=i5 r (putK kvs p.1 p.2);have h2:=wb kvs p.1 p.2;show (lg (putK kvs p.1 p.2) r).length≤_
  rw[aaq];omega
theorem m3 {P:Program} {w:World}:∀{kvs:List (Key×V)} {ws:List (Value×Value)},VV (kvs.map λkv=>(kV kv.1,kv.2)) ws→∃rs,Carries (cb P w) ws rs∧KV kvs rs
 | [],_,r=>by rw[acs] at r;cases r;exact ⟨[],True.intro,.nil⟩
 | p::kvs,_,r=>by
  rw[ab0] at r;cases r with
  | @cons a b as bs h t=>
   obtain ⟨rs,c,q⟩:=m3 (P:=P) (w:=w) t;obtain ⟨b1,b2⟩:=b;exact ⟨(p.1,b2)::rs,⟨y6 h.1,rfl,c⟩,.cons ⟨rfl,h.2⟩ q⟩
def tDisp (trs:List (TE×TE)):TE:=λσ H Q=>∀p,H p=none→sr trs σ (upd H p (.dK [])) λps H2=>H2 p=some (.dK [])∧∃kvs:List (Key×V),ps=kvs.map (λkv=>(kV kv.1,kv.2))∧kvs.length≤15∧Q (.ref p) (upd H2 p (.dK (lg [] kvs)))
theorem Fn {X:Cx} {pos:Pos} {keys:List (Option Expr)} {values:List Expr} {trs:List (TE×TE)} (h:PPs X pos keys values trs) (hall:keys.all (·.isSome)=true) (hl:keys.length=values.length) (h0:keys≠[])
  (h15:keys.length≤15):PE X (.Dict keys values pos) (tDisp trs):=by
 intro pins s σ H Q I q;have hn:=I.hok.fresh (aa5 s.heap.objs.size);have I1:=I.laid (a:=s.heap.objs.size) (o:=.dK []) (h':=s.heap.push { cls:=.type "dict",data:=.dict #[] }) (t':=s.toks) (λ_ _ q=>Heap.get?_push_of_some _ q) (aa5 _) (Bx s.heap I.big);refine wpAny_Dict_walk (knd:=cb X.prog X.w) hall hl h0 h15 (thn (h pins _ σ _ _ I1 (q _ hn)) λws s2 ⟨ps,H2,I2,rel,e,kvs,ep,lk,q2⟩=>?_);subst ep;obtain ⟨rs,c,rk⟩:=m3 (P:=X.prog) (w:=X.w) rel;obtain ⟨z,hd,vs0,r0,dd⟩:=dk_of I2.hok e;cases r0
 refine ⟨rs,c,dd,λh' dd' hs=>⟨.ref s.heap.objs.size,_,?_,rfl,q2⟩⟩;have hz:(lg [] kvs).length≤sizeLine:=by
  have h1:=i5 kvs [];rw[acv] at h1;rw[sizeLine_eq];omega
 have he:∃q,h'.get? s.heap.objs.size=some q:=let ⟨q,_,_,hq,_⟩:=dd';⟨q,hq⟩
 exact Hg I2 (by rw[e];exact True.intro) hs he (dk_new hz hd (rk.merge .nil) dd')
structure M2 (X:Cx) (o:Expr) (m:Str) (apos:Pos) (e f:Expr) (cpos:Pos):Prop where
 base:attributeBase o m X.env (eval o X.env)=eval o X.env
 few:((backTo cpos (starEach [e,f] X.env)).all (λx=>!x.1)&&(backToKw cpos (keywordEach [] X.env)).all (λx=>x.1.isSome)
  &&decide (([e,f]:List Expr).length+([]:List Keyword).length+(if ([]:List Keyword).isEmpty then 0 else 1) < 30))=true
 line:(apos.endLine==cpos.line)=true
 trees:backTo cpos (starEach [e,f] X.env)=[(false,eval e X.env),(false,eval f X.env)]
section
variable {X:Cx} {pins:List (Addr×Obj)} {σ:St} {H:Hp} {s:Shared} {a:Addr} {y d:V} {u r:Value} {o:Option V} {A:Around} {E:Value→Shared→Prop}
end
section
variable {X:Cx} {o e f:Expr} {apos cpos:Pos} {td ty tx:TE}
end
section
variable {X:Cx} {pins:List (Addr×Obj)} {σ:St} {H:Hp} {s:Shared} {a:Addr} {kvs:List (Key×V)} {A:Around} {E:Value→Shared→Prop}
end
section
variable {X:Cx} {pins:List (Addr×Obj)} {σ:St} {H:Hp} {s:Shared} {a:Addr} {y:V} {u:Value} {A:Around} {E:Value→Shared→Prop}
end
end L2
namespace L2
open PySem PySem.Spec PyProof.Rows
section
variable {X:Cx}
end
section
variable {κ:Type} [DecidableEq κ]
end
end L2
namespace L2
open PySem PySem.Spec PyProof.Rows
def jy (i:Nat):TE:=λσ H Q=>match σ[i]? with | some (some v)=>Q v H | _=>False
theorem pvD {X:Cx} (i:Nat) {x:Str} {pos:Pos} (hN:X.N[i]?=some x) (hv:Vis X.env.scope x) (hd:(x==("__debug__":Str))=false) (hcd:(x==("__classdict__":Str))=false):PE X (.Name x pos) (jy i):=λpins s σ H Q I h=>pv i hN hv hd hcd pins s σ H Q I (by
 unfold jy at h;split at h
 ·exact ⟨_,‹_›,h⟩
 ·exact h.elim)
theorem pl {X:Cx} (i:Nat) {x:Str} {pos:Pos} (hN:X.N[i]?=some x) (hv:X.env.scope.names.lookup x=some .local) (hd:(x==("__debug__":Str)||x==("__classdict__":Str))=false):PE X (.Name x pos) (jy i):=pvD i hN (.inl hv) (Bool.or_eq_false_iff.mp hd).1 (Bool.or_eq_false_iff.mp hd).2
theorem pk {X:Cx} (i:Nat) {x:Str} {pos:Pos} (hN:X.N[i]?=some x) (hv:X.env.scope.names.lookup x=some .cell) (hd:(x==("__debug__":Str)||x==("__classdict__":Str))=false):PE X (.Name x pos) (jy i):=pvD i hN (.inr (.inl hv)) (Bool.or_eq_false_iff.mp hd).1 (Bool.or_eq_false_iff.mp hd).2
theorem iy {i:Nat} {σ:L2.St} {H:Hp} {Q:VK}:jy i σ H Q=∃v,σ[i]?=some (some v)∧Q v H:=by
 unfold jy;refine propext ⟨λh=>?_,λ⟨v,e,h⟩=>?_⟩
 ·split at h
  ·exact ⟨_,‹_›,h⟩
  ·exact h.elim
 ·rw[e];exact h
theorem Bb {α:Type} {a:α} {x y:List α}:(a::x=a::y)=(x=y):=propext ⟨λh=>(abb h).2,λh=>by rw[h]⟩
theorem Gm {α:Type} {a b:α}:([a]=[b])=(a=b):=propext ⟨λh=>(abb h).1,λh=>by rw[h]⟩
theorem G2 {α:Type} {a b c d:α}:([a,c]=[b,d])=(a=b∧c=d):=propext ⟨λh=>⟨(abb h).1,(abb (abb h).2).1⟩,λ⟨h,k⟩=>by rw[h,k]⟩
theorem Fz {α:Type} {a b c d e f:α}:([a,c,e]=[b,d,f])=(a=b∧c=d∧e=f):=propext ⟨λh=>⟨(abb h).1,(abb (abb h).2).1,(abb (abb (abb h).2).2).1⟩,λ⟨h,k,l⟩=>by rw[h,k,l]⟩
theorem int_ex {a:Int} {p:Int→Prop}:(∃x,V.int a=V.int x∧p x)=p a:=propext ⟨λ⟨x,e,h⟩=>by cases e;exact h,λh=>⟨a,rfl,h⟩⟩
theorem ref_ex {a:Addr} {p:Addr→Prop}:(∃x,V.ref a=V.ref x∧p x)=p a:=propext ⟨λ⟨x,e,h⟩=>by cases e;exact h,λh=>⟨a,rfl,h⟩⟩
theorem bl_ex {a:Bool} {p:Bool→Prop}:(∃x,V.bl a=V.bl x∧p x)=p a:=propext ⟨λ⟨x,e,h⟩=>by cases e;exact h,λh=>⟨a,rfl,h⟩⟩
theorem Gz {a b:Int} {p:Int→Int→Prop}:(∃x y,V.int a=V.int x∧V.int b=V.int y∧p x y)=p a b:=propext ⟨λ⟨x,y,e,e2,h⟩=>by cases e;cases e2;exact h,λh=>⟨a,b,rfl,rfl,h⟩⟩
theorem ifY {c:Prop} [Decidable c] {A B:Prop} (hc:c) (h:A):if c then A else B:=by rw[if_pos hc];exact h
theorem ifN {c:Prop} [Decidable c] {A B:Prop} (hc:¬c) (h:B):if c then A else B:=by rw[if_neg hc];exact h
theorem us0 {α:Type} {P:List α→Prop} {us:List α} (hl:us.length=0) (h:P []):P us:=by
 rw[List.length_eq_zero_iff.mp hl];exact h
theorem usS {α:Type} {P:List α→Prop} {us:List α} {n:Nat} (hl:us.length=n+1) (h:∀a us,us.length=n→P (a::us)):P us:=by
 cases us with
 | nil=>exact absurd hl.symm (Nat.succ_ne_zero n)
 | cons a l=>exact h a l (Nat.succ.inj hl)
theorem us1 {α:Type} {P:List α→Prop} {us:List α} (hl:us.length=1) (h:∀a,P [a]):P us:=usS hl λa us hl=>us0 (P:=λus=>P (a::us)) hl (h a)
theorem us2 {α:Type} {P:List α→Prop} {us:List α} (hl:us.length=2) (h:∀a b,P [a,b]):P us:=usS hl λa us hl=>us1 (P:=λus=>P (a::us)) hl (h a)
theorem us3 {α:Type} {P:List α→Prop} {us:List α} (hl:us.length=3) (h:∀a b c,P [a,b,c]):P us:=usS hl λa us hl=>us2 (P:=λus=>P (a::us)) hl (h a)
theorem us4 {α:Type} {P:List α→Prop} {us:List α} (hl:us.length=4) (h:∀a b c d,P [a,b,c,d]):P us:=usS hl λa us hl=>us3 (P:=λus=>P (a::us)) hl (h a)
theorem us5 {α:Type} {P:List α→Prop} {us:List α} (hl:us.length=5) (h:∀a b c d e,P [a,b,c,d,e]):P us:=usS hl λa us hl=>us4 (P:=λus=>P (a::us)) hl (h a)
def x4 (g:Int→Int→V):R2:=λx y H Q=>match x,y with | .int i,.int j=>Q (g i j) H | _,_=>False
def rID (C:Int→Int→Prop) (g:Int→Int→V):R2:=λx y H Q=>match x,y with | .int i,.int j=>C i j∧Q (g i j) H | _,_=>False
def rUD (g:Int→V):V→Hp→VK→Prop:=λx H Q=>match x with | .int i=>Q (g i) H | _=>False
def tBD (t:TE):TT:=λσ H Q=>t σ H λx H1=>match x with | .bl c=>Q c H1 | _=>False
def ya (t:TE):TO:=λσ H Q=>t σ H λx H1=>match x with | .int i=>Q (some i) H1 | _=>False
theorem gn:@x4=@rI0:=by
 funext g x y H Q
 refine propext ⟨λh=>?_,λ⟨i,j,e,f,h⟩=>by subst e;subst f;exact h⟩;unfold x4 at h;split at h
 ·exact ⟨_,_,rfl,rfl,h⟩
 ·exact h.elim
theorem um:@rID=@rI:=by
 funext C g x y H Q
 refine propext ⟨λh=>?_,λ⟨i,j,e,f,h⟩=>by subst e;subst f;exact h⟩;unfold rID at h;split at h
 ·exact ⟨_,_,rfl,rfl,h⟩
 ·exact h.elim
theorem rUD_eq:@rUD=@rU:=by
 funext g x H Q
 refine propext ⟨λh=>?_,λ⟨i,e,h⟩=>by subst e;exact h⟩;unfold rUD at h;split at h
 ·exact ⟨_,rfl,h⟩
 ·exact h.elim
theorem blD {x:V} {Q:Bool→Prop}:(match x with | .bl c=>Q c | _=>False)=∃c,x=.bl c∧Q c:=by
 refine propext ⟨λh=>?_,λ⟨i,e,h⟩=>by subst e;exact h⟩;split at h
 ·exact ⟨_,rfl,h⟩
 ·exact h.elim
theorem je:@tBD=@tB:=by
 funext t σ H Q
 exact congrArg (t σ H) (funext λx=>funext λH1=>blD)
theorem Aj:@ya=@Bu:=by
 funext t σ H Q
 refine congrArg (t σ H) (funext λx=>funext λH1=>propext ⟨λh=>?_,λ⟨i,e,h⟩=>by subst e;exact h⟩);split at h
 ·exact ⟨_,rfl,h⟩
 ·exact h.elim
variable {X:Cx}
theorem Ir:OpR X (binaryOp .Add) (x4 λi j=>.int (i+j)):=gn ▸ op_add
theorem Hh:OpR X (binaryOp .Sub) (x4 λi j=>.int (i - j)):=gn ▸ op_sub
theorem sq:OpR X (compareOp .Lt) (x4 λi j=>.bl (decide (i < j))):=gn ▸ op_lt
theorem op_gtD:OpR X (compareOp .Gt) (x4 λi j=>.bl (decide (j < i))):=gn ▸ op_gt
theorem jv:OpR X (binaryOp .Mult) (rID vz λi j=>.int (i*j)):=um ▸ op_mul
theorem Bz:OpR X (binaryOp .FloorDiv) (rID ke λi j=>.int (i / j)):=um ▸ Hj
theorem Ga:OpR X (binaryOp .Mod) (rID (λ_ j=>0 < j) λi j=>.int (i % j)):=um ▸ op_mod
theorem gq:OpR X (binaryOp .Pow) (rID CPow λi j=>.int (i ^ j.toNat)):=um ▸ op_pow
theorem yp:UnR X (unaryOp .USub) (rUD λi=>.int (-i)):=rUD_eq ▸ un_neg
theorem G7 {e:Expr} {t:TE} (h:PE X e t) (he:∀whole,isTrue e X.env whole=(do let v ←whole;standAt e.pos;holding [v] (truthy v))):PT X e (tBD t):=je ▸ pt_val h he
theorem Hu {a b:Expr} {pos:Pos} {op:CmpOp} {t:TE} (h:PC X op a b t) (h1:behindInMarks op b=false):PT X (.Compare a [op] [b] pos) (tBD t):=je ▸ pt_cmp h h1
theorem uy {a b:Expr} {ta tb:TE} {pos:Pos} {op:CmpOp} {r:R2} (ho:OpR X (compareOp op) r) (ha:PE X a ta) (hb:PE X b tb) (hm:behindInMarks op b=false):PT X (.Compare a [op] [b] pos) (tBD (tOp r ta tb)):=je ▸ Fx ho ha hb hm
theorem Cq {e:Expr} {te:TE} (h:PE X e te):PO X (some e) (ya te):=Aj ▸ G9 h
def E6 (K:PySem.W.Frag):List V→Hp→VK→Prop:=λxs H Q=>match xs with | [.ref p]=>∃ys,(SqL K H p ys∨SqT K H p ys)∧Q (.int ys.length) H | _=>False
def Ff (K:PySem.W.Frag):List V→Hp→VK→Prop:=λxs H Q=>match xs with | [.ref p]=>∃ys,(SqL K H p ys∧∀l,H l=none→Q (.ref l) (upd H l (.tup ys)))∨(SqT K H p ys∧Q (.ref p) H) | _=>False
def Dl:List V→Hp→VK→Prop:=λxs H Q=>match xs with | [.int i]=>Q (.int i) H | [.bl k]=>Q (.int (if k then 1 else 0)) H | _=>False
theorem qf:fj X (.builtin "len") (E6 X.K):=by
 refine Eq.mp (congrArg _ ?_) ub;funext xs H Q
 refine propext ⟨λ⟨p,ys,e,h⟩=>by subst e;exact ⟨ys,h⟩,λh=>?_⟩;unfold E6 at h;split at h
 ·exact h.elim λys h=>⟨_,ys,rfl,h⟩
 ·exact h.elim
theorem oz:fj X (.type "tuple") (Ff X.K):=by
 refine Eq.mp (congrArg _ ?_) qa;funext xs H Q
 refine propext ⟨λ⟨p,ys,e,h⟩=>by subst e;exact ⟨ys,h⟩,λh=>?_⟩;unfold Ff at h;split at h
 ·exact h.elim λys h=>⟨_,ys,rfl,h⟩
 ·exact h.elim
theorem eo:fj X (.type "int") Dl:=by
 refine Eq.mp (congrArg _ ?_) zz;funext xs H Q
 refine propext ⟨λh=>?_,λh=>?_⟩
 ·rcases h with ⟨i,e,h⟩ | ⟨k,e,h⟩ <;> subst e <;> exact h
 unfold Dl at h;split at h
 ·exact .inl ⟨_,rfl,h⟩
 ·exact .inr ⟨_,rfl,h⟩
 ·exact h.elim
end L2
namespace L2
open PySem PySem.Spec PyProof.Rows
theorem lookup_mem {α:Type} {x:Str} {c:α}:∀{l:List (Str×α)},l.lookup x=some c→(x,c)∈l
 | [],h=>by cases h
 | (y,d)::r,h=>by
  rw[adb] at h;cases e:x==y with
  | true=>
   rw[e] at h;have e':x=y:=eq_of_beq e;cases h
   subst e';exact aal
  | false=>
   rw[e] at h;exact aak _ (lookup_mem h)
noncomputable def qc (ix:List Nat) (σ:St):St:=ix.map λj=>(σ[j]?).getD none
def SubP (cs:List (Str×Addr)):List (Str×Addr)→Prop
 | []=>True
 | p::r=>cs.lookup p.1=some p.2∧SubP cs r
theorem SubP.of {cs:List (Str×Addr)}:∀{cl:List (Str×Addr)},SubP cs cl→∀p∈cl,cs.lookup p.1=some p.2
 | [],_,_,h=>by cases h
 | p::r,⟨h1,h2⟩,q,hq=>by
  rcases List.mem_cons.mp hq with e | e
  ·rw[e];exact h1
  ·exact SubP.of h2 q e
def wc (X:Cx) (scope:Scope):List Str→List Nat→Prop
 | [],[]=>True
 | x::fr,j::ix=>(X.N[j]?=some x∧X.env.kindOf x=some .cell∧(relabel scope X.env).names.lookup x=some .cell)∧wc X scope fr ix
 | _,_=>False
theorem wc.len {X:Cx} {scope:Scope}:∀{fr:List Str} {ix:List Nat},wc X scope fr ix→fr.length=ix.length
 | [],[],_=>rfl
 | x::fr,j::ix,h=>by rw[aaq,aaq,wc.len h.2]
 | [],_::_,h=>h.elim
 | _::_,[],h=>h.elim
theorem wc.get {X:Cx} {scope:Scope}:∀{fr:List Str} {ix:List Nat},wc X scope fr ix→∀(k j:Nat),ix[k]?=some j→∃x,fr[k]?=some x∧X.N[j]?=some x∧X.env.kindOf x=some .cell∧(relabel scope X.env).names.lookup x=some .cell
 | [],[],_,k,j,e=>by simp at e
 | x::fr,i::ix,h,0,j,e=>by
  have e':i=j:=by simpa using e
  subst e';exact ⟨x,rfl,h.1⟩
 | x::fr,i::ix,h,k+1,j,e=>by
  obtain ⟨y,hy,r⟩:=wc.get h.2 k j (by simpa using e);exact ⟨y,by simpa using hy,r⟩
 | [],_::_,h,_,_,_=>h.elim
 | _::_,[],h,_,_,_=>h.elim
structure g8 (X:Cx) (scope:Scope) (own fr:List Str) (ix:List Nat) (cl:List (Str×Addr)):Prop where
 clos:closureFor scope X.env=pure cl
 kind:scope.kind=.function
 nocell:(scope.names.all λy=>decide (y.2≠.cell))=true
 names:(scope.names.all λy=>decide (y.2≠.local)||decide (scope.names.lookup y.1=some .local))=true
 sub:SubP X.env.cells cl
 has:((relabel scope X.env).names.all λy=>!(decide (y.2=.cell)||decide (y.2=.free))||(cl.lookup y.1).isSome)=true
 out':wc X scope fr ix
section
variable {X:Cx} {scope:Scope} {own fr:List Str} {ix:List Nat} {cl:List (Str×Addr)}
theorem g8.len (C:g8 X scope own fr ix cl):fr.length=ix.length:=C.out'.len
theorem g8.out (C:g8 X scope own fr ix cl):∀(k j:Nat),ix[k]?=some j→∃x,fr[k]?=some x∧X.N[j]?=some x∧Vis X.env.scope x∧X.env.kindOf x≠some .local∧(relabel scope X.env).names.lookup x≠some .local:=λk j e=>by
 obtain ⟨x,h1,h2,h3,h4⟩:=C.out'.get k j e;exact ⟨x,h1,h2,.inr (.inl h3),(by rw[h3];intro z;cases z),(by rw[h4];intro z;cases z)⟩
theorem g8.Ht (C:g8 X scope own fr ix cl):∀x∈scope.names,x.2≠.cell:=λx hx=>of_decide_eq_true (List.all_eq_true.mp C.nocell x hx)
theorem g8.Er (C:g8 X scope own fr ix cl):∀x∈scope.names,x.2=.local→scope.names.lookup x.1=some .local:=λx hx e=>by
 have h:=List.all_eq_true.mp C.names x hx;rw[adk] at h;rcases h with h | h
 ·exact absurd e (of_decide_eq_true h)
 ·exact of_decide_eq_true h
theorem g8.vc (C:g8 X scope own fr ix cl):∀x c,cl.lookup x=some c→X.env.cells.lookup x=some c:=λx c h=>C.sub.of _ (lookup_mem h)
theorem g8.has' (C:g8 X scope own fr ix cl):∀x,((relabel scope X.env).names.lookup x=some .cell∨(relabel scope X.env).names.lookup x=some .free)→∃c,cl.lookup x=some c:=λx hx=>by
 have key:∀k,(relabel scope X.env).names.lookup x=some k→(k=.cell∨k=.free)→∃c,cl.lookup x=some c:=λk e hk=>by
  have h:=List.all_eq_true.mp C.has (x,k) (lookup_mem e);rw[adk] at h;rcases h with h | h
  ·rcases hk with rfl | rfl
   ·simp at h
   ·simp at h
  ·exact Option.isSome_iff_exists.mp h
 rcases hx with h | h
 ·exact key _ h (.inl rfl)
 ·exact key _ h (.inr rfl)
end
noncomputable def cxC (X:Cx) (scope:Scope) (cl:List (Str×Addr)) (ns:List Str) (fp:List Addr) (s:Shared) (H:Hp):Cx where
 prog:=X.prog
 w:=X.w
 K:=X.K
 mg:=X.mg
 base:=X.base
 A:=X.A
 N:=ns
 s₀:=s
 H₀:=H
 env:=compEnvC scope cl s.heap.objs.size X.env
 outer:=X.stack
 stack:=X.stack
 ex:=fp
 fn:=λ_=>false
 calm:=X.calm
 pn:=[]
 xe:=λ_ _=>False
section
variable {X:Cx} {scope:Scope} {own fr:List Str} {ix:List Nat} {cl:List (Str×Addr)} {pins:List (Addr×Obj)} {σ:St} {H:Hp} {s:Shared} {fp:List Addr}
theorem cxC_ok (C:g8 X scope own fr ix cl) (I:Inv X pins σ H s) (f:∀b∈fp,lu X pins H b) (lt:∀b∈fp,b < s.heap.objs.size):(cxC X scope cl (own++fr) fp s H).Ok where
 mod:=I.ok.mod
 kind:=C.kind
 glob:=I.ok.glob
 blt:=I.ok.blt
 above:=aa5 _
 inj:=λx y c h1 h2=>I.ok.inj x y c (C.vc x c h1) (C.vc y c h2)
 has:=λx hx=>C.has' x hx
 cab:=λx c h _=>ade h
 hd:=I.ok.hd
 frames:=I.ok.frames
 stk:=.inl rfl
 exf:=λb hb=>⟨aap (lt b hb),λx c e=>(f b hb).2.2.2.2.1 x c (C.vc x c e)⟩
 bs:=λb o e=>I.bs b o e
 bsz:=aaw I.ok.bsz I.sz
 noex:=λb o e hb=>by
  rcases (f b hb).2.2.2.1 with z | z
  ·exact I.ok.noex b o e z
  ·exact absurd (aaf (Heap.lt_size e) (aaw I.ok.bsz z)) (ab6 _)
 exfs:=λb hb z=>by
  rcases List.mem_cons.mp (I.xj b z) with q | q
  ·exact (f b hb).2.1 q
  ·exact (f b hb).2.2.1 q
 la:=I.stack
 frf:=I.rm
theorem Ek (C:g8 X scope own fr ix cl) (I:Inv X pins σ H s) (f:∀b∈fp,lu X pins H b) (lt:∀b∈fp,b < s.heap.objs.size) {h₁:Heap} {t:Nat} {m:Str→Option Value}
  (hns:h₁.Ns s.heap.objs.size m) (k:∀b o,s.heap.get? b=some o→h₁.get? b=some o):
  Inv (cxC X scope cl (own++fr) fp s H) [] (aac own.length none++qc ix σ) H { s with heap:=h₁,toks:=t } where
 ok:=cxC_ok C I f lt
 os:=rfl
 bare:=I.bare
 base:=Un.kept k
 loc:=⟨m,hns,λi x v e1 e2 e3=>by
  have e1:(own++fr)[i]?=some x:=e1;by_cases hi:i < own.length
  ·rw[aao (by simpa using hi),adh] at e2;rw[if_pos hi] at e2;cases e2
  ·have hi':own.length≤i:=ae6 hi;rw[aam (by simpa using hi')] at e2;rw[aam hi'] at e1;rw[ab4] at e2;unfold qc at e2;rw[aa7] at e2;cases q:ix[i - own.length]? with
   | none=>rw[q] at e2;cases e2
   | some j=>
    rw[q] at e2;have e2':(σ[j]?).getD none=some v:=aa6 e2;obtain ⟨x',hx',hN,hv,hk,hl'⟩:=C.out _ j q;rw[e1] at hx';cases hx'
    have e4:σ[j]?=some (some v):=by
     cases z:σ[j]? with
     | none=>rw[z] at e2';cases e2'
     | some w=>rw[z] at e2';exact congrArg some e2'
    obtain ⟨mX,hnX,hl⟩:=I.loc;obtain ⟨u,r,l⟩:=hl j x v hN e4 hv;rcases l with ⟨kl,_⟩ | ⟨kk,c,ec,z⟩
    ·exact absurd kl hk
    ·have kY:(relabel scope X.env).names.lookup x=some .cell∨(relabel scope X.env).names.lookup x=some .free:=by
      rcases e3 with e3 | e3 | e3
      ·exact absurd e3 hl'
      ·exact .inl e3
      ·exact .inr e3
     obtain ⟨c',hc'⟩:=C.has' x kY;have hcc:=C.vc x c' hc';rw[ec] at hcc;cases hcc
     obtain ⟨o,ho,hd⟩:=z;exact ⟨u,r,.inr ⟨kY,c,hc',⟨o,k c o ho,hd⟩⟩⟩⟩
 cell:=λx c e=>by
  obtain ⟨v,o,ho,hd⟩:=I.cell x c (C.vc x c e);exact ⟨v,o,k c o ho,hd⟩
 free:=I.hok.fresh (aa5 _)
 freeC:=λx c e=>I.freeC x c (C.vc x c e)
 pin:=λp hp=>by cases hp
 hok:=I.hok.kept k
 len:=by
  show (aac own.length none++qc ix σ).length=(own++fr).length
  rw[aa1,aa1,ab4,C.len];unfold qc;rw[aa0]
theorem Ds (I:Inv X pins σ H s) (f:∀b∈fp,lu X pins H b) {ns:List Str} {τ:St} {H':Hp} {s':Shared} {pins':List (Addr×Obj)} (J:Inv (cxC X scope cl ns fp s H) pins' τ H' s'):Inv X pins σ H' s':=
 I.Df (ch:=fp) J.os J.base J.hok J.bare λb hb=>⟨(f b hb).2.2.2.1,(f b hb).2.1,(f b hb).2.2.2.2.1,(f b hb).2.2.2.2.2⟩
theorem vp {σ':St} (I:Inv X pins σ H s) {H':Hp} {s':Shared} {h':Heap} (J:Inv X pins σ' H' s') (free:H' s.heap.objs.size=none) (sb:Heap.SameBut s.heap.objs.size s'.heap h'):Inv X pins σ' H' { s' with heap:=h' }:=
 J.turned (it:=s.heap.objs.size) (t':=s'.toks) (λb o hb e=>(sb.2 b hb).trans e) free (ab2 I.lt) (.inr I.sz)
  (λx c e z=>by
   obtain ⟨v,q⟩:=I.cell x c e;exact absurd (z ▸ q.lt) (ab6 _))
  (λp hp z=>absurd (z ▸ Heap.lt_size (I.pin p hp).1) (ab6 _))
end
section
variable {prog:Program} {w:World} {A:Around} {R:Result→Shared→Prop} {s:Shared}
theorem ui {elt target iter:Expr} {ifs:List Expr} {scope:Scope} {pos:Pos} {it acc:Value} {env:Env} (I:Nat→Shared→Prop)
  (turn:∀n s,I n s→wpAny (model prog w) A (pyNext it) (λr s₁=>match r with
   | none=>R (.ok .next) s₁
   | some v=>wpAny (model prog w) A (letOwnedTupleGo target it v) (λ_ s₁'=>wpAny (model prog w) A (assign target env v) (λ_ s₂=>
     wpAny (model prog w) A (forIn ifs true λc r=>if r=true then do let ok ←isTrue c env (eval c env);pure (ForInStep.yield ok) else pure (ForInStep.yield r)) (λok s₃=>
      if ok=true then wpAny (model prog w) A (eval elt env) (λx s₄=>
       wpAny (model prog w) A (call (.builtin "list.append") [acc,x]) (λ_ s₅=>∃m,m < n∧I m s₅) (notedBy (model prog w) A env λe s'=>R (.error e) s') s₄) (notedBy (model prog w) A env λe s'=>R (.error e) s') s₃
      else ∃m,m < n∧I m s₃) (notedBy (model prog w) A env λe s'=>R (.error e) s') s₂) (notedBy (model prog w) A env λe s'=>R (.error e) s') s₁') (notedBy (model prog w) A env λe s'=>R (.error e) s') s₁)
    (notedBy (model prog w) A env λe s'=>R (.error e) s') s)
  (n:Nat) (h:I n s):
  codeAny (model prog w) A (.compLoop (.ListComp elt [⟨target,iter,ifs,0⟩] scope pos) 0 it acc env) R s:=by
 refine codeAny_loop rfl I (λn s hI=>?_) n h;show wpAny _ A ((compTurn (.ListComp elt [⟨target,iter,ifs,0⟩] scope pos) 0 it acc env).onRaise (λx=>do noteFrame x env;theTreesLotGoes x)) _ _ s
 refine wpAny_noted ?_;rw[compTurn_list];refine wpAny_bind (wpAny_standAt (wpAny_bind (wpAny_mono (turn n s hI) (λr s₁ h₁=>?_) λ_ _ h'=>h')));cases r with
 | none=>exact wpAny_pure h₁
 | some v=>
  refine wpAny_bind (wpAny_mono h₁ (λ_ s₁' h₁'=>?_) λ_ _ h'=>h');refine wpAny_bind (wpAny_mono h₁' (λ_ s₂ h₂=>wpAny_bind (wpAny_mono h₂ (λok s₃ h₃=>?_) λ_ _ h'=>h')) λ_ _ h'=>h');cases ok with
  | false=>exact wpAny_pure ⟨rfl,h₃⟩
  | true=>
   exact wpAny_bind (wpAny_bind (wpAny_mono h₃ (λx s₄ h₄=>wpAny_bind (wpAny_mono h₄ (λ_ s₅ h₅=>wpAny_pure (wpAny_pure ⟨rfl,h₅⟩)) λ_ _ h'=>h')) λ_ _ h'=>h'))
end
def PIfs (X:Cx) (ifs:List Expr) (t:TT):Prop:=
 ∀(pins:List (Addr×Obj)) (s:Shared) (σ:St) (H:Hp) (Q:Bool→Hp→Prop),Inv X pins σ H s→t σ H Q→
  wpAny (model X.prog X.w) X.A (forIn ifs true λc r=>if r=true then do let ok ←isTrue c X.env (eval c X.env);pure (ForInStep.yield ok) else pure (ForInStep.yield r)) (TP X pins σ Q) X.xe s
def tNoIf:TT:=λ_ H Q=>Q true H
theorem pif0 {X:Cx}:PIfs X [] tNoIf:=λpins s σ H Q I h=>wpAny_tests_nil ⟨H,I,h⟩
theorem pif1 {X:Cx} {c:Expr} {t:TT} (h:PT X c t):PIfs X [c] t:=λpins s σ H Q I q=>wpAny_tests_one (h pins s σ H Q I q)
def LC (n:Nat) (fr:St) (g:TG) (tc:TT) (te:TE) (J:It) (D:Addr) (H1:Hp) (Q:Hp→Prop):Prop:=
 ∃W:Nat→Nat→Hp→Prop,(∃m,W 0 m (upd H1 D (.lst [])))∧∀i m H,W i m H→
  (J.stop i H∧Q H)∨(J.go i H∧∀(τ:St) x H',τ.length=n→J.yld i H x H'→g x (τ++fr) H' λσ2 H2=>(∃τ':St,τ'.length=n∧σ2=τ'++fr)∧tc σ2 H2 λb H3=>
   if b=true then te σ2 H3 λy H4=>∃ys,H4 D=some (.lst ys)∧ys.length < sizeLine∧∃m',m' < m∧W (i+1) m' (upd H4 D (.lst (ys++[y]))) else ∃m',m' < m∧W (i+1) m' H3)
def tLC (n:Nat) (ix:List Nat) (wi:TI) (g:TG) (tc:TT) (te:TE):TE:=λσ H Q=>wi σ H λJ H1=>∀D,H1 D=none→LC n (qc ix σ) g tc te J D H1 λH'=>Q (.ref D) H'
section
variable {X:Cx} {scope:Scope} {own fr:List Str} {ix:List Nat} {cl:List (Str×Addr)} {elt iter tg:Expr} {ifs:List Expr} {pos:Pos} {wi:TI} {g:TG} {tc:TT} {te:TE}
theorem oa {E:Value→Shared→Prop} {RR:Value→Addr→Result→Shared→Prop} (C:g8 X scope own fr ix cl) (hc:X.calm=true)
  (hg:∀fp s H,PG (cxC X scope cl (own++fr) fp s H) tg g) (ht:∀fp s H,PIfs (cxC X scope cl (own++fr) fp s H) ifs tc) (he:∀fp s H,PE (cxC X scope cl (own++fr) fp s H) elt te)
  {pins:List (Addr×Obj)} {σ:St} {H2:Hp} {s2:Shared} {it:Addr} {fp:List Addr} {tn:Nat→Heap→Prop} {J:It} {Q:Hp→Prop} (I2:Inv X pins σ H2 s2) (T:Turn X.prog X.w X.K tg J fp it tn) (st2:tn 0 s2.heap) (f2:∀b∈fp,lu X pins H2 b)
  (q:LC own.length (qc ix σ) g tc te J s2.heap.objs.size H2 Q)
  (hRR:∀(s3 s':Shared) (H3 H':Hp) (τ:St),Inv X pins σ H3 s3→Inv X pins σ H' s'→H' s3.heap.objs.size=none→(∃m,s'.heap.Ns s3.heap.objs.size m)→Q H'→RR (.ref s2.heap.objs.size) s3.heap.objs.size (.ok .next) s'):
  wpAny (model X.prog X.w) X.A (newList []) (λacc s₃=>wpAny (model X.prog X.w) X.A (newFunctionEnv scope X.env.globals cl [] X.env.qual none .none (some X.env)) (λcenv s₄=>
   codeAny (model X.prog X.w) X.A (.compStart (.ListComp elt [⟨tg,iter,ifs,0⟩] scope pos) 0 (.ref it) acc { cenv with scope:=relabel scope X.env }) (RR acc cenv.locals) s₄) E s₃) E s2:=by
 refine wpAny_newObj_type ?_;have I3:Inv X pins σ (upd H2 s2.heap.objs.size (.lst [])) { s2 with heap:=s2.heap.push { cls:=.type "list",dict:=none,data:=.seq ([]:List Value).toArray } }:=I2.lnew (t':=s2.toks) (its:=[]) .nil (aaa _);have lt2:∀b∈fp,b < s2.heap.objs.size:=λb hb=>by
  obtain ⟨o,e,_⟩:=T.obj 0 _ st2 b hb;exact Heap.lt_size e
 have fneD:∀b∈fp,b≠s2.heap.objs.size:=λb hb=>aap (lt2 b hb);generalize hs3:({ s2 with heap:=s2.heap.push { cls:=.type "list",dict:=none,data:=.seq ([]:List Value).toArray } }:Shared)=s3 at I3 ⊢;have hsz:s3.heap.objs.size=s2.heap.objs.size+1:=by rw[←hs3];exact Heap.size_push ..
 have kp23:∀b o,s2.heap.get? b=some o→s3.heap.get? b=some o:=λb o e=>by rw[←hs3];exact Heap.get?_push_of_some _ e
 have f3:∀b∈fp,lu X pins (upd H2 s2.heap.objs.size (.lst [])) b:=λb hb=>by
  obtain ⟨f0,fr⟩:=f2 b hb;exact ⟨by rw[af (fneD b hb)];exact f0,fr⟩
 have lt3:∀b∈fp,b < s3.heap.objs.size:=λb hb=>by rw[hsz];exact ac3 (lt2 b hb)
 refine wpAny_newFunctionEnv C.Ht (by intro y hy;simp at hy) (λh₁ hns₁ hsb₁=>?_) C.kind;have k34:∀b o,s3.heap.get? b=some o→h₁.get? b=some o:=λb o e=>
  (hsb₁.2 b (aap (Heap.lt_size e))).trans (Heap.get?_push_of_some _ e)
 have I4:=Ek C I3 f3 lt3 (t:=s3.toks+([]:List (Str×Value)).length) hns₁ k34;have st4:tn 0 h₁:=T.keep 0 _ _ st2 λb _ o e=>k34 b o (kp23 b o e);obtain ⟨W,⟨m0,w0⟩,turn⟩:=q;have loop:∀s4:Shared,s4={ s3 with heap:=h₁,toks:=s3.toks+([]:List (Str×Value)).length }→
   codeAny (model X.prog X.w) X.A (.compLoop (.ListComp elt [⟨tg,iter,ifs,0⟩] scope pos) 0 (.ref it) (.ref s2.heap.objs.size) (compEnvC scope cl s3.heap.objs.size X.env)) (RR (.ref s2.heap.objs.size) s3.heap.objs.size) s4:=by
  rintro s4 rfl;have stat:∀{H':Hp},(∀b∈fp,H' b=none)→∀b∈fp,lu (cxC X scope cl (own++fr) fp s3 (upd H2 s2.heap.objs.size (.lst []))) [] H' b:=λ{H'} hn b hb=>
   ⟨hn b hb,aap (lt3 b hb),I4.ok.exfs b hb,.inl hb,(I4.ok.exf b hb).2,λp hp=>by cases hp⟩
  refine ui (λn s'=>∃i τ H',τ.length=own.length∧Inv (cxC X scope cl (own++fr) fp s3 (upd H2 s2.heap.objs.size (.lst []))) [] (τ++qc ix σ) H' s'∧tn i s'.heap∧(∀b∈fp,H' b=none)∧W i n H') ?_ m0
   ⟨0,aac own.length none,_,ab4,I4,st4,λb hb=>(f3 b hb).1,w0⟩
  rintro n s5 ⟨i,τ,H5,hτ,I5,st5,fr5,w5⟩;rcases turn i n H5 w5 with ⟨stop,qn⟩ | ⟨go,step⟩
  ·refine wpAny_mono (T.done (cxC X scope cl (own++fr) fp s3 (upd H2 s2.heap.objs.size (.lst []))) rfl rfl rfl hc i [] s5 _ H5 (λ_ _=>False) I5 (stat fr5) st5 stop) (λr s6 ⟨hr,I6⟩=>?_) λ_ _ z=>z.elim;subst hr;obtain ⟨mm,hmm,_⟩:=I6.loc;exact hRR s3 s6 _ H5 τ I3 (Ds I3 f3 I6) I6.free ⟨mm,hmm⟩ qn
  ·refine wpAny_mono (T.item (cxC X scope cl (own++fr) fp s3 (upd H2 s2.heap.objs.size (.lst []))) rfl rfl rfl hc i [] s5 _ H5 (λ_ _=>False) I5 (stat fr5) st5 go) (λr s6 ⟨u,hr,h6⟩=>?_) λ_ _ z=>z.elim;subst hr;refine wpAny_mono h6 (λ_ s7 ⟨x,H7,I7,r7,y7,st7,fr7⟩=>?_) λ_ _ z=>z.elim;have I7':=I7.pinned (stat fr7) (T.obj _ _ st7);refine wpAny_mono (hg fp s3 _ _ s7 _ H7 x u _ I7' r7 (step τ x H7 hτ y7)) (λ_ s8 ⟨σ8,H8,I8,⟨τ',hτ',e8⟩,q8⟩=>?_) λ_ _ z=>z.elim;have fin:∀{H9:Hp} {s9:Shared},Inv (cxC X scope cl (own++fr) fp s3 (upd H2 s2.heap.objs.size (.lst []))) ([]++n8 fp s7.heap) σ8 H9 s9→(∃m',m' < n∧W (i+1) m' H9)→
     ∃m,m < n∧∃i τ H',τ.length=own.length∧Inv (cxC X scope cl (own++fr) fp s3 (upd H2 s2.heap.objs.size (.lst []))) [] (τ++qc ix σ) H' s9∧tn i s9.heap∧(∀b∈fp,H' b=none)∧W i m H':=λ{H9 s9} I9 hw=>by
    obtain ⟨m',hm,w9⟩:=hw;refine ⟨m',hm,i+1,τ',H9,hτ',e8 ▸ I9.ka,T.keep _ _ _ st7 λb hb o e=>(I9.pin (b,o) (aar _ (aar _ (gp hb e)))).1,λb hb=>?_,w9⟩;obtain ⟨o,e,d⟩:=T.obj _ _ st7 b hb;exact (I9.pin (b,o) (aar _ (aar _ (gp hb e)))).2.1
   refine wpAny_mono (ht fp s3 _ _ s8 σ8 H8 _ I8 q8) (λok s9 ⟨H9,I9,q9⟩=>?_) λ_ _ z=>z.elim;cases ok with
   | false=>exact fin I9 q9
   | true=>
    refine wpAny_mono (he fp s3 _ _ s9 σ8 H9 _ I9 q9) (λy s10 ⟨v10,H10,I10,r10,ys,hD,hz,q10⟩=>?_) λ_ _ z=>z.elim;refine wpAny_mono (qu (X:=cxC X scope cl (own++fr) fp s3 (upd H2 s2.heap.objs.size (.lst []))) _ s10 σ8 H10 (.ref s2.heap.objs.size) [v10] _ [y] (λ_ H'=>∃m',m' < n∧W (i+1) m' H') I10 rfl (.cons r10 .nil) ⟨_,ys,v10,rfl,rfl,hD,hz,q10⟩) (λ_ s11 ⟨_,H11,I11,_,q11⟩=>?_) λ_ _ z=>z.elim;exact fin I11 q11
 exact codeAny_compStart_list (loop _ rfl) (T.self _ 0 _ _ _ st4 (loop _ rfl))
theorem pe_lc (C:g8 X scope own fr ix cl) (hc:X.calm=true) (hi:PI X tg iter wi) (hg:∀fp s H,PG (cxC X scope cl (own++fr) fp s H) tg g)
  (ht:∀fp s H,PIfs (cxC X scope cl (own++fr) fp s H) ifs tc) (he:∀fp s H,PE (cxC X scope cl (own++fr) fp s H) elt te)
  (hs:∀x,foldedSetIterable iter X.env x=pure x:=by intro _;rfl):PE X (.ListComp elt [⟨tg,iter,ifs,0⟩] scope pos) (tLC own.length ix wi g tc te):=by
 intro pins s σ H Q I h;rw[eval_ListComp];refine wpAny_comprehension_free (use:=none) rfl hs C.clos C.kind C.Er (thn (hi pins s σ H _ I h) λv s1 h1=>thn h1 λitv s2 h2=>?_);obtain ⟨it,fp,tn,J,H2,e,I2,T,st2,f2,q⟩:=h2;subst e;refine oa (RR:=λacc D=>compPost (model X.prog X.w) X.A X.xe none (EP X pins σ Q) acc D) C hc hg ht he I2 T st2 f2 (q _ (I2.hok.fresh (aa5 _))) λs3 s' H3 H' τ I3 I' hn hm q'=>?_;obtain ⟨m,hm⟩:=hm;exact ⟨m,hm,λh' sb=>⟨.ref s2.heap.objs.size,H',vp I3 I' hn sb,rfl,q'⟩⟩
def Bt (i n:Nat) (ix:List Nat) (wi:TI) (g:TG) (tc:TT) (te:TE):TS:=λD σ H=>wi σ H λJ H1=>∀l,H1 l=none→LC n (qc ix σ) g tc te J l H1 λH'=>D.nx (σ.set i (some (.ref l))) H'
theorem Cr {i:Nat} {x:Str} {px spos:Pos} (hN:X.N.Nodup) (hx:X.N[i]?=some x) (hl:Loc X.env.scope x) (C:g8 X scope own fr ix cl) (hc:X.calm=true) (hi:PI X tg iter wi)
  (hg:∀fp s H,PG (cxC X scope cl (own++fr) fp s H) tg g) (ht:∀fp s H,PIfs (cxC X scope cl (own++fr) fp s H) ifs tc) (he:∀fp s H,PE (cxC X scope cl (own++fr) fp s H) elt te)
  (hsw:swapsWith (.ListComp elt [⟨tg,iter,ifs,0⟩] scope pos) (some (.Name x px)) spos.line X.env=pure true:=by rfl)
  (hs:∀x,foldedSetIterable iter X.env x=pure x:=by intro _;rfl) (hf:X.fn x=true∨X.env.scope.names.lookup x=some .local:=by first | exact .inl rfl | exact .inr rfl | assumption):
  PS X (.Assign [.Name x px] (.ListComp elt [⟨tg,iter,ifs,0⟩] scope pos) spos) (Bt i own.length ix wi g tc te):=by
 intro pins s σ H D I h;rw[exec_Assign_Name_used _ _ _ _ hsw];refine wpAny_bind (wpAny_standAt (wpAny_bind ?_));show wpAny _ X.A (do let _ ←comprehension (.ListComp elt [⟨tg,iter,ifs,0⟩] scope pos) scope X.env _ (newList []) false (eval iter X.env) (some (assign (.Name x px) X.env))) _ _ s
 refine wpAny_bind (wpAny_mono (wpAny_comprehension_free (use:=some (assign (.Name x px) X.env)) (Q:=λ_ s'=>SP X pins D .next s') rfl hs C.clos C.kind C.Er
  (thn (hi pins s σ H _ I h) λv s1 h1=>thn h1 λitv s2 h2=>?_)) (λ_ s' hq=>wpAny_pure (wpAny_pure hq)) λ_ _ e=>e)
 obtain ⟨it,fp,tn,J,H2,e,I2,T,st2,f2,q⟩:=h2;subst e;refine oa (RR:=λacc C=>compPost (model X.prog X.w) X.A X.xe (some (assign (.Name x px) X.env)) (λ_ s'=>SP X pins D .next s') acc C) C hc hg ht he I2 T st2 f2 (q _ (I2.hok.fresh (aa5 _))) λs3 s' H3 H' τ I3 I' hn hm q'=>?_;obtain ⟨m,hm⟩:=hm;show wpAny _ X.A (assign (.Name x px) X.env (.ref s2.heap.objs.size)) _ _ _
 refine wpAny_assign_Name (qq I' hN hx hl (v:=.ref s2.heap.objs.size) rfl (λs'' I'' hsb=>?_) hf);obtain ⟨a,sba,ha⟩:=hsb;have hne:s3.heap.objs.size≠a:=by
  rcases ha with rfl | ha
  ·exact ab2 I3.lt
  ·obtain ⟨v,qv⟩:=I3.cell x a ha;exact ab2 qv.lt
 exact ⟨m,hm.sameBut sba hne,λh' sb=>⟨_,H',vp I3 I'' hn sb,q'⟩⟩
end
end L2
namespace L2
open PySem PySem.Spec PyProof.Rows
noncomputable def Its (z:Str):It:=⟨λi _=>i < z.cps.size,λi H x H'=>H'=H∧∃c,z.cps[i]?=some c∧x=.str ⟨#[c]⟩,λi _=>i=z.cps.size⟩
def iStr (tl:TE):TI:=λσ H R=>tl σ H λx H1=>∃z,x=.str z∧R (Its z) H1
section
variable {X:Cx} {tg:Expr}
end
section
variable {X:Cx}
end
noncomputable def cutS (z:Str) (lo hi:Option Int):Str:=⟨((z.cps.toList.drop (HT.sIx z.length 0 lo)).take (HT.sIx z.length z.length hi - HT.sIx z.length 0 lo)).toArray⟩
section
variable {X:Cx}
def rSlS:V→Option Int→Option Int→Hp→VK→Prop:=λx lo hi H Q=>∃z,x=.str z∧z.length≤sizeLine∧Q (.str (cutS z lo hi)) H
noncomputable def ja (z:Str) (n:Nat):Str:=⟨(aac n z.cps.toList).flatten.toArray⟩
theorem q5 (x:List Nat):∀(n:Nat) (acc:Array Nat),(aac n x.toArray).foldl (·++·) acc=acc++(aac n x).flatten.toArray
 | 0,acc=>by simp
 | n+1,acc=>by
  rw[aax,aeb,q5 x n,aax,abl];apply Array.toList_inj.mp
  simp
theorem Gp (z:Str) (n:Int) (h:0≤n):Txt.mul z n=ja z n.toNat:=by
 unfold Txt.mul ja;by_cases h1:n < 1
 ·rw[if_pos h1];have e:n.toNat=0:=by omega
  rw[e];rfl
 ·rw[if_neg h1];by_cases h2:(n==1||z.length==0)=true
  ·rw[if_pos h2];rw[adk] at h2;rcases h2 with h2 | h2
   ·have e:n=1:=eq_of_beq h2;subst e;show z=⟨(aac 1 z.cps.toList).flatten.toArray⟩
    simp
   ·have e:z.length=0:=eq_of_beq h2;have e0:z.cps=#[]:=Array.eq_empty_of_size_eq_zero e;cases z with
    | mk c=>cases e0;simp
  ·rw[if_neg h2];have e:=q5 z.cps.toList n.toNat #[];have e3:z.cps.toList.toArray=z.cps:=by simp
   rw[e3] at e;rw[e];simp
theorem jh:OpR X (binaryOp .Mult) (λx y H Q=>∃z n,x=.str z∧y=.int n∧0≤n∧n≤1000∧z.length≤1000∧Q (.str (ja z n.toNat)) H):=by
 intro pins s σ H x y v u Q I rx ry h;obtain ⟨z,n,rfl,rfl,h0,h1,h2,q⟩:=h;obtain ⟨t,rfl⟩:=rx;obtain ⟨t',rfl⟩:=ry;have hb:z.length*n.toNat≤1000*1000:=Nat.mul_le_mul h2 (by omega);refine SB.mul ⟨by rw[Bool.or_eq_false_iff];exact ⟨decide_eq_false (by omega),decide_eq_false (by omega)⟩,λhn1 _=>?_,λ_ _=>?_⟩ λt' k=>⟨.str _,H,I.tok _,⟨_,rfl⟩,by rw[Gp z n h0];exact q⟩
 ·have hp:0 < n:=by omega
  have h3:(z.length:Int)*n≤1000*n:=Int.mul_le_mul_of_nonneg_right (by omega) h0;have h4:(z.length:Int)≤(2 ^ 63 - 1) / n:=Int.le_ediv_of_mul_le hp (by omega);omega
 ·unfold Builtin.Str.tooLong;exact decide_eq_false (by have:=sizeLine_eq;omega)
theorem vh:fj X (.builtin "isinstance") (λxs H Q=>∃x n t b,xs=[x,.ty n]∧lb X.K H x t∧PySem.W.kitOne X.K t (.type n)=some b∧Q (.bl b) H):=by
 intro pins s σ H xs us Q I r h;obtain ⟨x,n,t,b,rfl,ty,e,q⟩:=h;obtain ⟨u,u2,rfl,r1,r2⟩:=vals2 r;cases (show u2=Value.type n from r2)
 exact Ay I r1 ty e λtk=>⟨.bl b,H,I.tok tk,rfl,q⟩
end
end L2
namespace L2
open PySem PySem.Spec PyProof.Rows
theorem aa {H:Hp} {p:Addr} (h:H p=none) (o:HO):ak H (upd H p o):=λb u q=>by rw[af (ag q h)];exact q
theorem ak.upd {H H':Hp} {p:Addr} (e:ak H H') (h:H p=none) (o:HO):ak H (L2.upd H' p o):=λb u q=>by rw[af (ag q h)];exact e b u q
theorem ak.tup {K:PySem.W.Frag} {H H':Hp} {a:Addr} {xs:List V} (e:ak H H') (h:SqT K H a xs):SqT K H' a xs:=by
 rcases h with (h | ⟨o,h⟩) | h
 ·exact .inl (.inl (e _ _ h))
 ·exact .inl (.inr ⟨o,e _ _ h⟩)
 ·exact .inr h
def Has (P:Program) (w:World) (K:PySem.W.Frag) (mg:Str→Option Value) (base:Heap) (k:Nat) (x:Str) (ps:List Str) (sp:Sp):Prop:=
 ∃(f:Addr) (fd:FuncData),iz P w K mg base CX0 k f fd ps sp∧Binds K fd ps []∧PySem.W.keepIn K (.ref f)=true∧mg x=some (.ref f)
theorem Has.up {P:Program} {w:World} {K:PySem.W.Frag} {mg:Str→Option Value} {base:Heap} {j k:Nat} {x:Str} {ps:List Str} {sp:Sp} (h:Has P w K mg base j x ps sp) (l:j≤k):Has P w K mg base k x ps sp:=by
 obtain ⟨f,fd,F,r⟩:=h;exact ⟨f,fd,F.mono l,r⟩
def Def (K:PySem.W.Frag) (mg:Str→Option Value) (x:Str) (st:Stmt) (ps:List Str):Prop:=
 ∃(f:Addr) (fd:FuncData),Fun K x x st f fd∧Binds K fd ps []∧mg x=some (.ref f)
theorem Def.has {P:Program} {w:World} {K:PySem.W.Frag} {mg:Str→Option Value} {base:Heap} {k:Nat} {x:Str} {st:Stmt} {N ps:List Str} {sp:Sp} (D:Def K mg x st ps) (S:ba N ps (ah st)) (len:∀vs H Q E,sp vs H Q E→vs.length=ps.length)
  (hbody:∀(f:Addr) (cdv:Value) (A:Around) (outer:List Env) (s:Shared) (H:Hp) (vs:List V) (Q:VK) (E:XK),dr k (A.deeper (envOfC x (ah st) s.heap.objs.size f cdv))→sp vs H Q E→
   ∃t,PSs (jk CX0 P w K mg base N x (ah st) f cdv A outer s H E).nox (ax st) t∧t { nx:=λ_ H'=>Q .non H',rt:=Q } (start N vs) H):Has P w K mg base (k+1) x ps sp:=by
 obtain ⟨f,fd,F,b,m⟩:=D;exact ⟨f,fd,F.ok S len λcdv A outer s H vs Q E hr h=>hbody f cdv A outer s H vs Q E hr h,b,F.kp,m⟩
section
variable {X:Cx} {k:Nat} {ps:List Str} {sp:Sp} {x:Str} {p pos:Pos} {e:Expr} {es:List Expr} {t:TA}
theorem pe_has (h:Has X.prog X.w X.K X.mg X.base k x ps sp) (hr:dr k X.A) (ha:PA X (e::es) t) (hg:Gl X x:=by rfl) (hdb:(x==("__debug__":Str))=false:=by decide+kernel)
  (he:starEach (e::es) X.env=(false,eval e X.env)::starEach es X.env:=by rfl) (hpl:(backTo pos (starEach es X.env)).any (·.1)=false:=by rfl):
  PE X (.Call (.Name x p) (e::es) [] pos) (zk sp [] E0 t):=by
 obtain ⟨f,fd,F,b,kp,m⟩:=h;exact yy F hr hg m kp b .nil pass0 ha hdb he hpl
end
theorem xq {J:It} {fr:St} {tc:TT} {te:TE} {D:Addr} {H1:Hp} {Q:Hp→Prop} (n:Nat) (item:Nat→V) (P:Nat→List V→Prop) (hn:n < sizeLine) (hD:H1 D=none)
  (hgo:∀i H,i < n→ak H1 H→J.go i H) (hyld:∀i H x H',i < n→ak H1 H→J.yld i H x H'→H'=H∧x=item i) (hstop:∀H,ak H1 H→J.stop n H)
  (h0:P 0 [])
  (step:∀i ys H (G:Hp→Prop) (K':V→Hp→Prop),i < n→P i ys→ys.length≤i→ak H1 H→(∀H3,ak H H3→P (i+1) ys→G H3)→(∀y H4,ak H H4→P (i+1) (ys++[y])→K' y H4)→tc ([some (item i)]++fr) H λb H3=>if b=true then te ([some (item i)]++fr) H3 K' else G H3)
  (done:∀ys H,P n ys→ys.length≤n→ak H1 H→H D=some (.lst ys)→Q H):LC 1 fr (gc 0) tc te J D H1 Q:=by
 refine ⟨λi m H=>m=n - i∧i≤n∧∃ys,H D=some (.lst ys)∧P i ys∧ys.length≤i∧ak H1 H,⟨n,by simp,aaa _,[],ae,h0,aa5 _,aa hD _⟩,?_⟩;rintro i m H ⟨rfl,hi,ys,hys,hP,hl,hS⟩;by_cases hlt:i < n
 ·refine .inr ⟨hgo i H hlt hS,λτ x H' hτ hy=>?_⟩;obtain ⟨e1,e2⟩:=hyld i H x H' hlt hS hy;subst e1 e2;obtain ⟨a,rfl⟩:∃a,τ=[a]:=List.length_eq_one_iff.mp hτ;refine ⟨⟨[some (item i)],rfl,rfl⟩,step i ys H' (λH3=>∃m',m' < n - i∧m'=n - (i+1)∧i+1≤n∧∃ys,H3 D=some (.lst ys)∧P (i+1) ys∧ys.length≤i+1∧ak H1 H3)
   (λy H4=>∃zs,H4 D=some (.lst zs)∧zs.length < sizeLine∧∃m',m' < n - i∧m'=n - (i+1)∧i+1≤n∧∃ys,upd H4 D (.lst (zs++[y])) D=some (.lst ys)∧P (i+1) ys∧ys.length≤i+1∧ak H1 (upd H4 D (.lst (zs++[y])))) hlt hP hl hS (λH3 q1 q2=>?_) (λy H4 q1 q2=>?_)⟩
  ·exact ⟨n - (i+1),by omega,rfl,hlt,ys,q1 _ _ hys,q2,ae4 hl,hS.trans q1⟩
  ·refine ⟨ys,q1 _ _ hys,by omega,n - (i+1),by omega,rfl,hlt,ys++[y],ae,q2,?_,(hS.trans q1).upd hD _⟩;rw[aa1,aa9];omega
 ·have e:i=n:=by omega
  subst e;exact .inl ⟨hstop H hS,done ys H hP hl hS hys⟩
theorem yo {K:PySem.W.Frag} {a:Addr} {xs:List V} {fr:St} {tc:TT} {te:TE} {D:Addr} {H1:Hp} {Q:Hp→Prop} (P:Nat→List V→Prop) (hS:SqL K H1 a xs) (hn:xs.length < sizeLine) (hD:H1 D=none) (h0:P 0 [])
  (step:∀i x ys H (G:Hp→Prop) (K':V→Hp→Prop),xs[i]?=some x→P i ys→ys.length≤i→ak H1 H→(∀H3,ak H H3→P (i+1) ys→G H3)→(∀y H4,ak H H4→P (i+1) (ys++[y])→K' y H4)→tc ([some x]++fr) H λb H3=>if b=true then te ([some x]++fr) H3 K' else G H3)
  (done:∀ys H,P xs.length ys→ys.length≤xs.length→ak H1 H→H D=some (.lst ys)→Q H):LC 1 fr (gc 0) tc te (Itl K a) D H1 Q:=by
 have at':∀i,i < xs.length→xs[i]?=some (xs.getD i .non):=λi hi=>by
  rw[aan,aa2 hi];rfl
 exact xq xs.length (λi=>xs.getD i .non) P hn hD (λi H hi hs=>⟨xs,_,hs.seq hS,at' i hi⟩)
  (λi H x H' hi hs hy=>⟨hy.1,aa6 ((hy.2 xs (hs.seq hS)).symm.trans (at' i hi))⟩) (λH hs=>⟨xs,hs.seq hS,aa5 _⟩) h0
  (λi ys H G K' hi hp hl hs hG hK=>step i _ ys H G K' (at' i hi) hp hl hs hG hK) done
theorem ph {K:PySem.W.Frag} {a:Addr} {xs:List V} {fr:St} {tc:TT} {te:TE} {D:Addr} {H1:Hp} {Q:Hp→Prop} (P:Nat→List V→Prop) (hS:SqT K H1 a xs) (hn:xs.length < sizeLine) (hD:H1 D=none) (h0:P 0 [])
  (step:∀i x ys H (G:Hp→Prop) (K':V→Hp→Prop),xs[i]?=some x→P i ys→ys.length≤i→ak H1 H→(∀H3,ak H H3→P (i+1) ys→G H3)→(∀y H4,ak H H4→P (i+1) (ys++[y])→K' y H4)→tc ([some x]++fr) H λb H3=>if b=true then te ([some x]++fr) H3 K' else G H3)
  (done:∀ys H,P xs.length ys→ys.length≤xs.length→ak H1 H→H D=some (.lst ys)→Q H):LC 1 fr (gc 0) tc te (Itt K a) D H1 Q:=by
 have at':∀i,i < xs.length→xs[i]?=some (xs.getD i .non):=λi hi=>by
  rw[aan,aa2 hi];rfl
 exact xq xs.length (λi=>xs.getD i .non) P hn hD (λi H hi hs=>⟨xs,_,hs.tup hS,at' i hi⟩)
  (λi H x H' hi hs hy=>⟨hy.1,aa6 ((hy.2 xs (hs.tup hS)).symm.trans (at' i hi))⟩) (λH hs=>⟨xs,hs.tup hS,aa5 _⟩) h0
  (λi ys H G K' hi hp hl hs hG hK=>step i _ ys H G K' (at' i hi) hp hl hs hG hK) done
theorem Cf {lo:Int} {n:Nat} {fr:St} {tc:TT} {te:TE} {D:Addr} {H1:Hp} {Q:Hp→Prop} (P:Nat→List V→Prop) (hn:n < sizeLine) (hD:H1 D=none) (h0:P 0 [])
  (step:∀(i:Nat) ys H (G:Hp→Prop) (K':V→Hp→Prop),i < n→P i ys→ys.length≤i→ak H1 H→(∀H3,ak H H3→P (i+1) ys→G H3)→(∀y H4,ak H H4→P (i+1) (ys++[y])→K' y H4)→tc ([some (.int (lo+i))]++fr) H λb H3=>if b=true then te ([some (.int (lo+i))]++fr) H3 K' else G H3)
  (done:∀ys H,P n ys→ys.length≤n→ak H1 H→H D=some (.lst ys)→Q H):LC 1 fr (gc 0) tc te (Itr lo n) D H1 Q:=
 xq n (λi=>.int (lo+i)) P hn hD (λi H hi _=>hi) (λi H x H' hi hs hy=>hy) (λH hs=>aa5 _) h0 step done
end L2
namespace L2
open PySem PySem.Spec PyProof.Rows
section
variable {X:Cx} {x:Str} {pos:Pos}
theorem Gx {a:Addr} (hm:X.mg x=some (.ref a)) (hg:Gl X x:=by rfl) (hd:(x==("__debug__":Str))=false:=by decide+kernel):PE X (.Name x pos) (tC (.ref a)):=Gj hg hm rfl hd
theorem pe_gty {T:String} (hm:X.mg x=none) (hv:bootBuiltins x=some (.type T)) (hg:Gl X x:=by rfl) (hn:x≠"__name__":=by decide+kernel) (hd:(x==("__debug__":Str))=false:=by decide+kernel):PE X (.Name x pos) (tC (.ty T)):=Ik hg hm hv rfl hn hd
end
theorem ck:bootBuiltins "len"=some (.builtin "len"):=by decide+kernel
theorem b_sum:bootBuiltins "sum"=some (.builtin "sum"):=by decide+kernel
theorem bj:bootBuiltins "isinstance"=some (.builtin "isinstance"):=by decide+kernel
theorem b_bool:bootBuiltins "bool"=some (.type "bool"):=by decide+kernel
theorem lq:bootBuiltins "int"=some (.type "int"):=by decide+kernel
theorem y9:bootBuiltins "str"=some (.type "str"):=by decide+kernel
theorem Cj:bootBuiltins "list"=some (.type "list"):=by decide+kernel
theorem cz:bootBuiltins "tuple"=some (.type "tuple"):=by decide+kernel
end L2
namespace L2
open PySem PySem.Spec PyProof.Rows
theorem cxOf_K {CX:CXT} {P:Program} {w:World} {K:PySem.W.Frag} {mg:Str→Option Value} {base:Heap} {N:List Str} {qual:Str} {scope:Scope} {f:Addr} {cd:Value} {A:Around} {outer:List Env} {s:Shared} {H:Hp} {E:XK}:(jk CX P w K mg base N qual scope f cd A outer s H E).K=K:=rfl
theorem nox_K {X:Cx}:X.nox.K=X.K:=rfl
end L2
namespace L2
open PySem PySem.Spec PyProof.Rows
inductive tq:List Expr→List V→Prop where
 | nil:tq [] []
 | str {x:Str} {j:Nat} {pos:Pos} {es:List Expr} {vs:List V} (h:tq es vs):tq (.Constant (.str x) j pos::es) (.str x::vs)
 | int {i:Int} {j:Nat} {pos:Pos} {es:List Expr} {vs:List V} (h:tq es vs):tq (.Constant (.int i) j pos::es) (.int i::vs)
def tVals (vs:List V):TA:=λ_ H Q=>Q vs H
theorem Bp {X:Cx} {es:List Expr} {vs:List V} (h:tq es vs):PA X es (tVals vs):=by
 induction h with
 | nil=>exact Dj
 | str _ ih=>exact uf Ea ih
 | int _ ih=>exact uf Cb ih
end L2
namespace L2
open PySem PySem.Spec PyProof.Rows
def ForW (g:TG) (tb:TS) (D:Ends) (J:It) (σ:St) (H1:Hp):Prop:=∃W:Nat→Nat→St→Hp→Prop,(∃m,W 0 m σ H1)∧∀i m σ H,W i m σ H→
 (J.stop i H∧D.nx σ H)∨(J.go i H∧∃N:St→Hp→Prop,(∀σ' H',N σ' H'→∃m',m' < m∧W (i+1) m' σ' H')∧∀x H',J.yld i H x H'→g x σ H' λσ2 H2=>tb { D with nx:=N,ct:=N,bk:=D.nx } σ2 H2)
theorem Hc (wi:TI) (g:TG) (tb:TS) (D:Ends) (σ:St) (H:Hp):tFor wi g tb D σ H=wi σ H λJ H1=>ForW g tb D J σ H1:=rfl
section
variable {K:PySem.W.Frag} {a:Addr} {xs:List V} {g:TG} {tb:TS} {D:Ends} {σ:St} {H:Hp}
theorem Bi (Pv:Nat→St→Hp→Prop) (h0:Pv 0 σ H) (hl:∀i σ H,i≤xs.length→Pv i σ H→SqL K H a xs)
  (hs:∀i x σ H,xs[i]?=some x→Pv i σ H→g x σ H λσ2 H2=>tb { D with nx:=Pv (i+1),ct:=Pv (i+1),bk:=D.nx } σ2 H2) (hd:∀σ H,Pv xs.length σ H→D.nx σ H):ForW g tb D (Itl K a) σ H:=Ez Pv h0 hl hs hd
theorem ee (Pv:Nat→St→Hp→Prop) (h0:Pv 0 σ H) (hl:∀i σ H,i≤xs.length→Pv i σ H→SqT K H a xs)
  (hs:∀i x σ H,xs[i]?=some x→Pv i σ H→g x σ H λσ2 H2=>tb { D with nx:=Pv (i+1),ct:=Pv (i+1),bk:=D.nx } σ2 H2) (hd:∀σ H,Pv xs.length σ H→D.nx σ H):ForW g tb D (Itt K a) σ H:=Ha Pv h0 hl hs hd
theorem dm {lo:Int} {n:Nat} (Pv:Nat→St→Hp→Prop) (h0:Pv 0 σ H)
  (hs:∀i σ H,i < n→Pv i σ H→g (.int (lo+i)) σ H λσ2 H2=>tb { D with nx:=Pv (i+1),ct:=Pv (i+1),bk:=D.nx } σ2 H2) (hd:∀σ H,Pv n σ H→D.nx σ H):ForW g tb D (Itr lo n) σ H:=zw Pv h0 hs hd
end
end L2
namespace L2
open PySem PySem.Spec PyProof.Rows Builtin Builtin.Str
def ModD (w:World) (K:PySem.W.Frag) (a:Addr) (kvs:List (Key×V)):Prop:=
 (a==sysModules)=false∧∀(P:Program) (h:Heap),K.In h→∃vs,KV kvs vs∧h.DictOf (cb P w) a vs
abbrev zr:=Int×Str×Tok×Int×Tok
noncomputable def siE (e:zr):DictEntry:=⟨e.1,.str e.2.1 e.2.2.1,.int e.2.2.2.1 e.2.2.2.2⟩
theorem uw (P:Program) (w:World):∀es:List zr,Pairs (cb P w) (es.map siE) (es.map λe=>((Sum.inr e.2.1:Key),Value.int e.2.2.2.1 e.2.2.2.2))
 | []=>.nil
 | e::r=>.cons (ia P w e.2.1 e.2.2.1) rfl (uw P w r)
theorem si_kv:∀es:List zr,KV (es.map λe=>((Sum.inr e.2.1:Key),V.int e.2.2.2.1)) (es.map λe=>((Sum.inr e.2.1:Key),Value.int e.2.2.2.1 e.2.2.2.2))
 | []=>.nil
 | e::r=>.cons ⟨rfl,⟨_,rfl⟩⟩ (si_kv r)
theorem G1 {w:World} {K:PySem.W.Frag} {a:Addr} {ep:Nat} (es:List zr) (hl:K.lookup a=some ⟨.type "dict",none,.dict (es.map siE).toArray ep,#[]⟩) (ha:(a==sysModules)=false)
  (hh:∀e∈es,e.1=hashStr w e.2.1) (nd:(es.map λe=>(Sum.inr e.2.1:Key)).Nodup):ModD w K a (es.map λe=>(Sum.inr e.2.1,V.int e.2.2.2.1)):=by
 refine ⟨ha,λP h hk=>⟨_,si_kv es,_,_,ep,hk a _ hl,⟨rfl,rfl,rfl⟩,rfl,λe he=>?_,by simpa using uw P w es,?_⟩⟩
 ·have he':e∈es.map siE:=List.mem_toArray.mp he;obtain ⟨r,hr,rfl⟩:=List.mem_map.mp he';exact ⟨Sum.inr r.2.1,ia P w r.2.1 r.2.2.1,hh r hr⟩
 ·rw[acw];exact nd
section
variable {X:Cx} {a:Addr} {kvs:List (Key×V)}
def Eh (kvs:List (Key×V)) (ty tx:TE):TE:=λσ H Q=>ty σ H λy H2=>tx σ H2 λz H3=>∃k,y=kV k∧Q ((ky kvs k).getD z) H3
theorem Ey {o e f:Expr} {apos cpos:Pos} {ty tx:TE} (ho:PE X o (tC (.ref a))) (md:ModD X.w X.K a kvs) (he:PE X e ty) (hf:PE X f tx) (m:M2 X o "get" apos e f cpos):PE X (.Call (.Attribute o "get" apos) [e,f] [] cpos) (Eh kvs ty tx):=by
 intro pins s σ H Q I h;refine wpAny_Call_method m.base m.few m.line PySem.F.plainAttrs_dict PySem.F.slot_dict_get PySem.F.type_dict_get (thn (ho pins s σ H (λx H1=>x=.ref a∧H1=H) I ⟨rfl,rfl⟩) λu s1 ⟨x,H1,I1,rx,ex,eH⟩=>?_);subst ex eH;obtain rfl:u=Value.ref a:=rx;obtain ⟨vs,rel,dd⟩:=md.2 X.prog _ I1.kIn;refine ⟨dd.typeIs,λb q=>?_,?_⟩
 ·cases q
  obtain ⟨ob,_,_,h1,h2,_⟩:=dd;exact ⟨ob,h1,h2.2.1⟩
 rw[m.trees];refine Calls.callWith_builtin rfl (Calls.evalArgs_plain (Calls.spliced_cons (thn (he pins s1 σ H1 _ I1 h) λiv s2 ⟨y,H2,I2,ry,q2⟩=>
  Calls.spliced_cons (thn (hf pins s2 σ H2 _ I2 q2) λfv s3 ⟨z,H3,I3,rz,k,ek,q3⟩=>Calls.spliced_nil ?_))))
 subst ek;obtain ⟨vs',rel',dd'⟩:=md.2 X.prog _ I3.kIn;refine call_meetsIn PySem.F.slot_dict_get dd'.typeIs PySem.F.entry_dict_get (PySem.F.args_dict_get_3 _ _ _) (meets_dict_get_default (cb X.prog X.w) a (y6 ry) md.1 fv) ⟨_,dd'.mapOf,⟨_,H3,I3.tok _,?_,q3⟩⟩;exact (rel'.val k).getD rz
theorem qe (hc:X.calm=true):fj X (.builtin "sum") (λxs H Q=>∃p ns,xs=[.ref p]∧SqL X.K H p (adt V.int ns)∧Q (.int ns.sum) H):=by
 intro pins s σ H xs us Q I r h;obtain ⟨p,ns,rfl,hq,q⟩:=h;obtain ⟨u,rfl,rx⟩:=vals1 r;cases rx
 obtain ⟨its,rv,pl,hz⟩:=I.list hq;have hi:IntsAre its ns:=L2.intsAre_of rv;obtain ⟨ys,hy⟩:=hi.allInts.items;refine sum_intListG (I.ok.hd hc) (by rw[←hy];exact pl.isList) λh' tk t' hk=>⟨.int ns.sum,H,I.kept hk,⟨t',?_⟩,q⟩;have e:ys.toList.map (·.1)=ns:=by
  rw[←nums_intItems,←hy];exact hi.numsOf
 rw[preSum_eq,acm (by simp),e]
noncomputable def yr:V→Str
 | .str z=>z
 | .int i=>(toString i:String)
 | _=>Str.empty
def wordV:V→Prop
 | .str _=>True
 | .int i=>i.natAbs.log2 < 1920
 | _=>False
theorem uq:fj X (.type "str") (λxs H Q=>∃x,xs=[x]∧wordV x∧Q (.str (yr x)) H):=by
 intro pins s σ H xs us Q I r h;obtain ⟨x,rfl,hw,q⟩:=h;obtain ⟨u,rfl,rx⟩:=vals1 r;cases x with
 | str z=>obtain ⟨t,rfl⟩:=rx;exact PySem.P.str_of_str ⟨.str z,H,I,⟨t,rfl⟩,q⟩
 | int i=>obtain ⟨t,rfl⟩:=rx;exact PySem.P.str_of_int hw ⟨.str _,H,I.tok _,⟨_,rfl⟩,q⟩
 | _=>exact hw.elim
end
end L2
namespace L2
open PySem PySem.Spec PyProof.Rows
section
variable {X:Cx} (K:PySem.W.Frag) (hK:X.K=K)
include hK
theorem vk:IxR X (rIxL K):=by subst hK;exact yl
theorem G8:IxR X (rIxT K):=by subst hK;exact Ex
theorem jg:OpR X (compareOp .In) (rIn K false):=by subst hK;exact qr
theorem qd:OpR X (compareOp .NotIn) (rIn K true):=by subst hK;exact j9
end
end L2
namespace L2
open PySem PySem.Spec PyProof.Rows
def tMid (t u:TS):TS:=λD σ H=>∃M:St→Hp→Prop,t { D with nx:=M } σ H∧∀σ' H',M σ' H'→u D σ' H'
theorem df {t u:TS} {D:Ends} {σ:St} {H:Hp} (M:St→Hp→Prop) (h1:t { D with nx:=M } σ H) (h2:∀σ' H',M σ' H'→u D σ' H'):tMid t u D σ H:=⟨M,h1,h2⟩
section
variable {X:Cx} {st:Stmt} {rest:List Stmt} {t u:TS}
theorem Hy (h1:PS X st t) (h2:PSs X rest u):PSs X (st::rest) (tMid t u):=by
 intro pins s σ H D I h;obtain ⟨M,h,hM⟩:=h;refine wpAny_execs_cons (thn (h1 pins s σ H { D with nx:=M } I h) λf s1 q=>?_);cases f with
 | next=>
  obtain ⟨σ',H',I',q⟩:=q;exact h2 pins s1 σ' H' D I' (hM σ' H' q)
 | ret v=>exact q
 | brk=>exact q
 | cont=>exact q
end
theorem Gw {K:PySem.W.Frag} {z:Str} {H:Hp}:tyV K "str" (.str z) H=True:=eq_true rfl
theorem av {K:PySem.W.Frag} {a:Addr} {xs:List V} {H:Hp} (h:H a=some (.lst xs)):tyV K "list" (.ref a) H:=.inl ⟨rfl,xs,SqL.of h⟩
theorem ao {K:PySem.W.Frag} {H:Hp} {t:Addr} {xs:List V} {i:Int} {v:V} {Q:VK} (h:H t=some (.tup xs)) (hv:atI xs i=some v) (q:Q v H):rIxT K (.ref t) (.int i) H Q:=⟨t,xs,i,v,rfl,rfl,SqT.of h,hv,q⟩
theorem aq {K:PySem.W.Frag} {H:Hp} {t:Addr} {xs:List V} {i:Int} {v:V} {Q:VK} (h:H t=some (.lst xs)) (hv:atI xs i=some v) (q:Q v H):rIxL K (.ref t) (.int i) H Q:=⟨t,xs,i,v,rfl,rfl,SqL.of h,hv,q⟩
theorem zg {H:Hp} {a b:Addr} {xs ys:List V} {Q:VK} (h1:H a=some (.lst xs)) (h2:H b=some (.lst ys)) (hz:xs.length+ys.length≤sizeLine) (q:∀p,H p=none→Q (.ref p) (upd H p (.lst (xs++ys)))):rCat (.ref a) (.ref b) H Q:=⟨a,b,xs,ys,rfl,rfl,h1,h2,hz,q⟩
theorem Hm {H:Hp} {a:Addr} {x:V} {k:Int} {Q:VK} (h1:H a=some (.lst [x])) (h0:0≤k) (hk:k≤1000000) (q:∀p,H p=none→Q (.ref p) (upd H p (.lst (aac k.toNat x)))):rRep (.ref a) (.int k) H Q:=by
 have sz:=sizeLine_eq;refine ⟨a,k,[x],rfl,rfl,h1,by omega,by omega,by show 1*k.toNat≤sizeLine;omega,λp hp=>?_⟩;have e:(aac k.toNat [x]).flatten=aac k.toNat x:=by
  induction k.toNat with
  | zero=>rfl
  | succ n ih=>rw[aax,abl,ih];rfl
 rw[e];exact q p hp
theorem bh {K:PySem.W.Frag} {H:Hp} {l:Addr} {xs:List V} {y:V} {Q:VK} (h:H l=some (.lst xs)) (hz:xs.length < sizeLine) (q:Q .non (upd H l (.lst (xs++[y])))):tyV K "list" (.ref l) H∧jo (.ref l) [y] H Q:=
 ⟨av h,l,xs,y,rfl,rfl,h,hz,q⟩
end L2
namespace HT
open PySem PySem.Spec PyProof.Rows L2
section
variable {prog:Program} {w:World} {A:Around} {E:Value→Shared→Prop} {s:Shared}
theorem Dp {t b:Addr} {vs ws:List Value} {Q:Value→Shared→Prop} (ht:IsTup s.heap t vs.toArray) (hb:IsTup s.heap b ws.toArray) (hv:vs=[]) (h1:Q (.ref b) s):wpAny (model prog w) A (binaryOp .Add (.ref t) (.ref b)) Q E s:=by
 obtain ⟨⟨cls,dd,data,sl⟩,ho,hc,n,hd⟩:=id ht;obtain ⟨⟨cls2,dd2,data2,sl2⟩,ho2,hc2,n2,hd2⟩:=id hb;simp only at hc hd hc2 hd2;subst hc hd hc2 hd2;exact concat_meets ⟨_,ho,rfl⟩ ⟨_,ho2,rfl⟩ noFill_tuple_add seq_tuple_add PySem.F.slot_tuple_add PySem.F.entry_tuple_add (PySem.F.args_tuple_add_2 _ _)
  (tuple_addW0 t b vs.toArray ws.toArray n n2 dd dd2 sl sl2 (by simp[hv])) ⟨ho,ho2,h1⟩
theorem i3 {t sl:Addr} {items:Array Value} {vl vu:Value} {lo hi:Option Int} {Q:Value→Shared→Prop} (ht:IsTup s.heap t items) (hs:s.heap.IsSliceOf sl vl vu .none) (pl:IsPart vl lo) (pu:IsPart vu hi)
  (hw:sIx items.size 0 lo=0∧sIx items.size items.size hi=items.size) (h:Q (.ref t) s) (hsz:items.size≤sizeLine):wpAny (model prog w) A (getItem (.ref t) (.ref sl)) Q E s:=by
 obtain ⟨os,hos,hcs,hds⟩:=id hs;have hTs:s.TypeIs (.ref sl) "slice":=⟨os,hos,hcs⟩;unfold getItem;try with_reducible refine wpAny_holding ?_
 first | refine wpAny_bind (wpAny_pure ?_) | skip
 refine wpAny_bind (wpAny_sequenceKey ht.typeIs (by decide) ?_);refine wpAny_bind (wpAny_callSpecial?_slot (name:=Str.ofString "__getitem__") ht.typeIs PyProof.Rows.slot_tuple_getitem
  (wpAny_call_entry PyProof.Rows.slot_tuple_getitem ht.typeIs entry_tuple_getitem ?_ (args_tuple_getitem _ _)))
 show wpAny _ _ (Builtin.Tuple.tupleItemsOf (.ref t) >>=_) _ _ s
 refine wpAny_bind (tupleItemsOf_ ht ?_);refine wpAny_bind (wpAny_typeOf hTs ?_);rw[if_pos (by decide)];refine wpAny_bind (gg hs pl pu ?_);have hyes:((((sIx items.size 0 lo:Nat):Int)==0&&(1:Int)==1&&(sIx items.size items.size hi - sIx items.size 0 lo)==items.size)=true):=by
  rw[hw.1,hw.2];simp
 show wpAny _ _ (if (((sIx items.size 0 lo:Nat):Int)==0&&(1:Int)==1&&(sIx items.size items.size hi - sIx items.size 0 lo)==items.size)=true then _ else _) _ _ s
 rw[if_pos hyes];refine wpAny_bind ?_;show wpAny _ _ (typeOf (.ref t) >>=λv=>pure (v==.type "tuple")) _ _ s
 refine wpAny_bind (wpAny_typeOf ht.typeIs (wpAny_pure ?_));rw[if_pos (by decide)];refine wpAny_bind (wpAny_rule ?_);first
  | exact wpAny_bind (wpAny_pure (wpAny_pure ⟨_,rfl,wpAny_pure h⟩))
  | exact wpAny_pure ⟨_,rfl,wpAny_pure h⟩
  | exact wpAny_bind (wpAny_pure ⟨_,rfl,wpAny_pure h⟩)
end
end HT
namespace L2
open PySem PySem.Spec PyProof.Rows
section
variable {X:Cx}
def nr:R2:=λx y H Q=>∃a b xs ys,x=.ref a∧y=.ref b∧H a=some (.tup xs)∧H b=some (.tup ys)∧xs.length+ys.length≤sizeLine∧∀p H',ak H H'→H' p=some (.tup (xs++ys))→Q (.ref p) H'
theorem Fj:OpR X (binaryOp .Add) nr:=by
 intro pins s σ H x y v u Q I rx ry h;obtain ⟨a,b,xs,ys,rfl,rfl,ha,hb,hz,q⟩:=h;by_cases hx:xs=[]
 ·subst hx;cases rx
  cases ry
  obtain ⟨its,r1,p1,_⟩:=I.tuple (SqT.of ha);obtain ⟨its2,r2,p2,_⟩:=I.tuple (SqT.of hb);exact HT.Dp p1 p2 (r1.mn.mpr rfl) ⟨.ref b,H,I,rfl,q b H (ak.refl H) hb⟩
 ·refine Hb pins s σ H _ _ v u Q I rx ry ⟨a,b,xs,ys,rfl,rfl,SqT.of ha,SqT.of hb,hx,hz,λe=>?_,λ_ p hp=>q p _ (λc o h=>by rw[af (ag h hp)];exact h) ae⟩;subst e;exact q a H (ak.refl H) (by rw[abk];exact ha)
theorem va {H:Hp} {a b:Addr} {xs ys:List V} {Q:VK} (ha:H a=some (.tup xs)) (hb:H b=some (.tup ys)) (hz:xs.length+ys.length≤sizeLine) (q:∀p H',ak H H'→H' p=some (.tup (xs++ys))→Q (.ref p) H'):nr (.ref a) (.ref b) H Q:=⟨a,b,xs,ys,rfl,rfl,ha,hb,hz,q⟩
def wg:V→Option Int→Option Int→Hp→VK→Prop:=λx lo hi H Q=>∃a xs,x=.ref a∧H a=some (.tup xs)∧∀p H',ak H H'→H' p=some (.tup (fu xs lo hi))→Q (.ref p) H'
theorem Cc {xs:List V} {lo hi:Option Int} (h:HT.sIx xs.length 0 lo=0∧HT.sIx xs.length xs.length hi=xs.length):fu xs lo hi=xs:=by
 unfold fu;rw[h.1,h.2,adp,aci,abn]
theorem Gk:SlR X wg:=by
 intro pins s σ H x v vl vu lo hi sl Q I rx hs pl pu h;obtain ⟨a,xs,rfl,ha,q⟩:=h;by_cases hw:HT.sIx xs.length 0 lo=0∧HT.sIx xs.length xs.length hi=xs.length
 ·cases rx
  obtain ⟨its,r,ht,hz⟩:=I.tuple (SqT.of ha);have hlen:its.toArray.size=xs.length:=by rw[aa3];exact r.length.symm
  exact ⟨"tuple",_,PyProof.Rows.slot_tuple_getitem.lookup,ht.typeIs,HT.i3 ht hs pl pu (by rw[hlen];exact hw) ⟨.ref a,H,I,rfl,q a H (ak.refl H) (by rw[Cc hw];exact ha)⟩ (by rw[hlen];exact hz)⟩
 ·exact sl_tup pins s σ H _ v vl vu lo hi sl Q I rx hs pl pu ⟨a,xs,rfl,SqT.of ha,hw,λp hp=>q p _ (λc o h=>by rw[af (ag h hp)];exact h) ae⟩
theorem yh {H:Hp} {a:Addr} {xs:List V} {lo hi:Option Int} {Q:VK} (ha:H a=some (.tup xs)) (q:∀p H',ak H H'→H' p=some (.tup (fu xs lo hi))→Q (.ref p) H'):wg (.ref a) lo hi H Q:=⟨a,xs,rfl,ha,q⟩
theorem Ip (k:Key):eu (kV k)=true:=by cases k <;> rfl
end
section
variable {X:Cx} {k:Nat} {ps:List Str} {sp:Sp} {x:Str} {p pos:Pos} {e:Expr} {es:List Expr} {t:TA}
def FnV (P:Program) (w:World) (K:PySem.W.Frag) (mg:Str→Option Value) (base:Heap) (k:Nat) (ps:List Str) (sp:Sp) (v:V):Prop:=
 ∃(f:Addr) (fd:FuncData),v=.ref f∧iz P w K mg base CX0 k f fd ps sp∧Binds K fd ps []∧PySem.W.keepIn K (.ref f)=true
def tCallV (P:Program) (w:World) (K:PySem.W.Frag) (mg:Str→Option Value) (base:Heap) (k:Nat) (ps:List Str) (i:Nat) (t:TA):TE:=λσ H Q=>∃v sp,σ[i]?=some (some v)∧FnV P w K mg base k ps sp v∧t σ H λvs H1=>sp vs H1 Q E0
end
end L2
namespace L2
open PySem PySem.Spec PyProof.Rows
noncomputable def Itv (K:PySem.W.Frag) (a:Addr) (n:Nat):It:=
 ⟨λi H=>i < n∧∃xs,SqL K H a xs∧xs.length=n,λi H x H'=>H'=H∧∀xs,SqL K H a xs→xs[n - 1 - i]?=some x,λi H=>i=n⟩
def iRev (K:PySem.W.Frag) (ta:TA):TI:=λσ H R=>ta σ H λvs H1=>∃a xs,vs=[.ref a]∧SqL K H1 a xs∧R (Itv K a xs.length) H1
theorem xv:bootBuiltins "reversed"=some (.type "reversed"):=by decide+kernel
section
variable {X:Cx} {tg:Expr}
end
end L2
namespace L2
open PySem PySem.Spec PyProof.Rows
section
variable {CX:CXT} {P:Program} {w:World} {K:PySem.W.Frag} {mg:Str→Option Value} {base:Heap} {N:List Str} {qual:Str} {scope:Scope} {f:Addr} {cd:Value} {A:Around} {outer:List Env} {s:Shared} {H:Hp} {E:XK}
theorem cxOf_P:(jk CX P w K mg base N qual scope f cd A outer s H E).prog=P:=rfl
theorem cxOf_w:(jk CX P w K mg base N qual scope f cd A outer s H E).w=w:=rfl
theorem Gr:(jk CX P w K mg base N qual scope f cd A outer s H E).mg=mg:=rfl
theorem cxOf_b:(jk CX P w K mg base N qual scope f cd A outer s H E).base=base:=rfl
end
theorem jb {K:PySem.W.Frag} {H:Hp} {l:Addr} {xs:List V} {y:V} {Q:VK} (h:H l=some (.lst (xs++[y]))) (q:Q y (upd H l (.lst xs))):tyV K "list" (.ref l) H∧rPop (.ref l) [] H Q:=
 ⟨av h,l,xs++[y],y,rfl,rfl,h,by rw[aa1,aa9,ad4,aam (aa5 _),acj];rfl,by rw[adu];exact q⟩
end L2
namespace Pc
open PySem PySem.Spec L2 PyProof.Rows
theorem cg {α:Type} (l:List α) (k:Int) (h0:0≤k) (h1:k < (l.length:Int)):∃c,atI l k=some c∧c∈l:=by
 have hk:k.toNat < l.length:=by omega
 have e:k=((k.toNat:Nat):Int):=by omega
 have q:atI l ((k.toNat:Nat):Int)=some l[k.toNat]:=ay (aa2 hk);rw[←e] at q;exact ⟨_,q,ab1 hk⟩
end Pc
namespace Pc
noncomputable def eat:Nat→List Nat→Option Nat
 | 0,_=>some 0
 | _+1,[]=>none
 | l+1,a::r=>(eat (l+a) r).map (·+1)
noncomputable def pend:Nat→List Nat→Option Nat
 | l,[]=>some l
 | 0,_::_=>none
 | l+1,a::r=>pend (l+a) r
noncomputable def starts:Nat→List Nat→List Nat
 | _,[]=>[]
 | p,a::r=>p::(starts (p+1) r).drop a
theorem il (r:List Nat):eat 0 r=some 0:=by cases r <;> rfl
theorem de (l a:Nat) (r:List Nat):eat (l+1) (a::r)=(eat (l+a) r).map (·+1):=rfl
theorem jr:∀(xs ys:List Nat) (l:Nat),pend l (xs++ys)=(pend l xs).bind λm=>pend m ys
 | [],ys,l=>by cases l <;> rfl
 | a::r,ys,0=>rfl
 | a::r,ys,l+1=>by
  show pend (l+a) (r++ys)=(pend (l+a) r).bind _
  exact jr r ys (l+a)
theorem vy (l a:Nat) (h:0 < l):pend l [a]=some (l - 1+a):=by
 cases l with
 | zero=>omega
 | succ l=>show some (l+a)=some (l+1 - 1+a);rw[ad4]
theorem ql (xs:List Nat) (a l d:Nat) (h:pend l xs=some d) (hd:0 < d):pend l (xs++[a])=some (d - 1+a):=by
 rw[jr,h];exact vy d a hd
theorem og:∀(r:List Nat) (l n:Nat),eat l r=some n→n≤r.length
 | r,0,n,h=>by rw[il] at h;cases h;exact aaa _
 | [],l+1,n,h=>by cases h
 | a::r,l+1,n,h=>by
  rw[de] at h;obtain ⟨m,hm,rfl⟩:=Option.map_eq_some_iff.mp h;have:=og r (l+a) m hm;rw[aaq];omega
theorem ll:∀(r:List Nat) (l:Nat),pend l r=some 0→eat l r=some r.length
 | [],l,h=>by
  cases h
  rfl
 | a::r,0,h=>by cases h
 | a::r,l+1,h=>by
  rw[de,ll r (l+a) h];rfl
theorem rg (r:List Nat) (l:Nat) (h:pend l r=some 0) (p:Nat):∃m,pend m (r.drop p)=some 0:=by
 have e:r=r.take p++r.drop p:=(ac4 p r).symm;rw[e,jr] at h;cases q:pend l (r.take p) with
 | none=>rw[q] at h;cases h
 | some m=>rw[q] at h;exact ⟨m,h⟩
theorem Dv {m:Nat} {r:List Nat} (h:pend m r=some 0) (hr:r≠[]):0 < m:=by
 cases r with
 | nil=>exact absurd rfl hr
 | cons a r=>
  cases m with
  | zero=>cases h
  | succ m=>omega
theorem m4:∀(r:List Nat) (l m:Nat),pend (l+m) r=some 0→∃n,eat l r=some n∧pend m (r.drop n)=some 0
 | r,0,m,h=>⟨0,il r,by rw[acx] at h;exact h⟩
 | [],l+1,m,h=>by
  have:l+1+m=0:=aa6 h;omega
 | a::r,l+1,m,h=>by
  have e:l+1+m=(l+m)+1:=by omega
  rw[e] at h;have h':pend (l+a+m) r=some 0:=by
   have e2:l+a+m=l+m+a:=by omega
   rw[e2];exact h
  obtain ⟨n,h1,h2⟩:=m4 r (l+a) m h';exact ⟨n+1,by rw[de,h1];rfl,h2⟩
theorem lj:∀(r:List Nat) (l n p:Nat),eat l r=some n→(starts p r).drop l=starts (p+n) (r.drop n)
 | r,0,n,p,h=>by rw[il] at h;cases h;rfl
 | [],l+1,n,p,h=>by cases h
 | a::r,l+1,n,p,h=>by
  rw[de] at h;obtain ⟨m,hm,rfl⟩:=Option.map_eq_some_iff.mp h;show ((starts (p+1) r).drop a).drop l=starts (p+(m+1)) (r.drop m)
  rw[adq,adx a l,lj r (l+a) m (p+1) hm];congr 1
  omega
theorem oo:∀(r:List Nat) (l p:Nat),pend l r=some 0→(starts p r).length=l
 | [],l,p,h=>by
  have:l=0:=aa6 h;rw[this];rfl
 | a::r,0,p,h=>by cases h
 | a::r,l+1,p,h=>by
  have ih:=oo r (l+a) (p+1) h;show ((starts (p+1) r).drop a).length+1=l+1
  rw[aah,ih];omega
theorem lp (r:List Nat) (p:Nat) (h:r≠[]):∃t,starts p r=p::t:=by
 cases r with
 | nil=>exact absurd rfl h
 | cons a r=>exact ⟨_,rfl⟩
theorem Ai (ar:List Nat) (p:Nat) (h:p < ar.length):starts p (ar.drop p)=p::(starts (p+1) (ar.drop (p+1))).drop (ar.getD p 0):=by
 rw[aat h];have e:ar.getD p 0=ar[p]:=by rw[aan,aa2 h];rfl
 rw[e];rfl
end Pc
namespace Pc
end Pc
namespace Pc
open PySem PySem.Spec L2 PyProof.Rows
noncomputable abbrev parts:List (Key×V):=[(Sum.inr "add",.int 2),(Sum.inr "sub",.int 2),(Sum.inr "mul",.int 2),(Sum.inr "neg",.int 1)]
noncomputable def arS (z:Str):Nat:=if z="add" then 2 else if z="sub" then 2 else if z="mul" then 2 else if z="neg" then 1 else 0
noncomputable def arV:V→Nat
 | .str z=>arS z
 | _=>0
def isW (v:V):Prop:=∃k:Key,v=kV k
theorem zy (k:Key):(ky parts k).getD (.int 0)=.int (arV (kV k)):=by
 cases k with
 | inl i=>rfl
 | inr z=>
  show (ky parts (Sum.inr z)).getD (.int 0)=.int (arS z)
  unfold arS;by_cases h1:z="add"
  ·subst h1;rw[gh rfl,if_pos rfl];rfl
  rw[gd (λe=>h1 (Sum.inr.inj e).symm),if_neg h1];by_cases h2:z="sub"
  ·subst h2;rw[gh rfl,if_pos rfl];rfl
  rw[gd (λe=>h2 (Sum.inr.inj e).symm),if_neg h2];by_cases h3:z="mul"
  ·subst h3;rw[gh rfl,if_pos rfl];rfl
  rw[gd (λe=>h3 (Sum.inr.inj e).symm),if_neg h3];by_cases h4:z="neg"
  ·subst h4;rw[gh rfl,if_pos rfl];rfl
  rw[gd (λe=>h4 (Sum.inr.inj e).symm),if_neg h4];rfl
theorem arS_le (z:Str):arS z≤2:=by
 unfold arS;repeat' split
 all_goals decide
theorem ng (v:V):arV v≤2:=by cases v <;> first | exact arS_le _ | exact aaa _
theorem km {z:Str} (h:0 < arS z):z="add"∨z="sub"∨z="mul"∨z="neg":=by
 unfold arS at h;by_cases h1:z="add"
 ·exact .inl h1
 by_cases h2:z="sub"
 ·exact .inr (.inl h2)
 by_cases h3:z="mul"
 ·exact .inr (.inr (.inl h3))
 by_cases h4:z="neg"
 ·exact .inr (.inr (.inr h4))
 rw[if_neg h1,if_neg h2,if_neg h3,if_neg h4] at h;exact absurd h (by decide)
def isTerm (ws:List V):Prop:=pend 1 (ws.map arV)=some 0
theorem isTerm.ne {ws:List V} (h:isTerm ws):ws≠[]:=by
 intro e;rw[e] at h;cases h
def my:Sp:=λvs H Q _=>∃v,vs=[v]∧isW v∧Q (.int (arV v)) H
end Pc
namespace Pc
open PySem PySem.Spec L2 PyProof.Rows
def cq (H:Hp) (d b:Addr) (ns:List Int) (n:Nat):Prop:=H d=some (.lst [.ref b,.int (n:Int)])∧H b=some (.lst (adt V.int ns))
def au (d:Addr) (H H':Hp):Prop:=∀b o,b≠d→H b=some o→H' b=some o
theorem au.refl (d:Addr) (H:Hp):au d H H:=λ_ _ _ h=>h
theorem au.trans {d:Addr} {H H1 H2:Hp} (a:au d H H1) (b:au d H1 H2):au d H H2:=λc o n h=>b c o n (a c o n h)
theorem au.of {d:Addr} {H H':Hp} (a:ak H H'):au d H H':=λb o _ h=>a b o h
theorem au.upd {d p:Addr} {H H':Hp} (a:au d H H') (hp:H p=none) (o:HO):au d H (L2.upd H' p o):=λb u n h=>by rw[af (ag h hp)];exact a b u n h
theorem cq.ne {H:Hp} {d b:Addr} {ns:List Int} {n:Nat} (h:cq H d b ns n):b≠d:=j5 h.2 h.1 (by intro e;cases ns <;> simp at e)
theorem cq.next {H H':Hp} {d b:Addr} {ns:List Int} {n k:Nat} (h:cq H d b ns n) (s:au d H H') (e:H' d=some (.lst [.ref b,.int (k:Int)])):cq H' d b ns k:=⟨e,s b _ h.ne h.2⟩
theorem cq.same {H H':Hp} {d b:Addr} {ns:List Int} {n:Nat} (h:cq H d b ns n) (s:ak H H'):cq H' d b ns n:=⟨s _ _ h.1,s _ _ h.2⟩
noncomputable def jx (H:Hp) (p:Addr):Nat:=match H p with | some (.lst ws)=>ws.length | _=>0
theorem fz {H:Hp} {p:Addr} {ws:List V} (h:H p=some (.lst ws)):jx H p=ws.length:=by unfold jx;rw[h]
def fi:Sp:=λvs H Q _=>∃(d b:Addr) (ns:List Int) (n:Nat),vs=[.ref d]∧cq H d b ns n∧n≤100000∧∀(c:Int) (H':Hp),au d H H'→H' d=some (.lst [.ref b,.int ((n+1:Nat):Int)])→Q (.int c) H'
theorem iu {z:Str}:∀{xs:List V},inV (.str z) xs=true→.str z∈xs:=by
 intro xs h;unfold inV at h;obtain ⟨y,hy,e⟩:=List.any_eq_true.mp h;cases y with
 | str x=>
  have e':x=z:=by simpa [eqV] using e
  exact e' ▸ hy
 | _=>simp[eqV] at e
theorem wx (z:Str) (n:Nat):(ja z n).cps.toList=(aac n z.cps.toList).flatten:=by unfold ja;simp
theorem ud:arS "neg"=1:=by decide+kernel
theorem au.free {d t:Addr} {H H':Hp} {o:HO} (s:au d H H') (hd:H' d=some o) (ht:H' t=none):H t=none:=by
 cases e:H t with
 | none=>rfl
 | some u=>
  by_cases h:t=d
  ·subst h;rw[hd] at ht;cases ht
  ·rw[s t u h e] at ht;cases ht
theorem Et (ns:List Int) (lo hi:Option Int):∃ms:List Int,fu (ns.map V.int) lo hi=ms.map V.int∧ms.length≤ns.length:=by
 refine ⟨_,by unfold fu;rw[←abt,←ad7],?_⟩;rw[aay,aah];omega
end Pc
namespace Pc
open PySem PySem.Spec L2 PyProof.Rows
theorem yv:∀(r:List Nat) (l:Nat),pend l r=some 0→l≤r.length
 | [],l,h=>by
  have:l=0:=aa6 h;omega
 | a::r,0,h=>by cases h
 | a::r,l+1,h=>by
  have:=yv r (l+a) h;rw[aaq];omega
theorem sv:∀(r:List Nat) (j k:Nat),eat (j+k) r=(eat j r).bind λs=>(eat k (r.drop s)).map (s+·)
 | r,0,k=>by
  rw[il,acx];show eat k r=(eat k r).map (0+·)
  cases eat k r with
  | none=>rfl
  | some n=>show some n=some (0+n);rw[acx]
 | [],j+1,k=>by
  rw[show j+1+k=(j+k)+1 by omega];rfl
 | a::r,j+1,k=>by
  rw[show j+1+k=(j+k)+1 by omega,de,de,show j+k+a=j+a+k by omega,sv r (j+a) k];cases eat (j+a) r with
  | none=>rfl
  | some s=>
   show ((eat k (r.drop s)).map (s+·)).map (·+1)=(eat k (r.drop s)).map (s+1+·)
   cases eat k (r.drop s) with
   | none=>rfl
   | some n=>show some (s+n+1)=some (s+1+n);congr 1;omega
theorem rh:∀(r:List Nat) (k n:Nat),eat (k+1) r=some n→0 < n
 | [],k,n,h=>by cases h
 | a::r,k,n,h=>by
  rw[de] at h;obtain ⟨m,hm,rfl⟩:=Option.map_eq_some_iff.mp h;omega
theorem ow (ws:List V) (p:Nat) (h:p≤ws.length):fu ws none (some (p:Int))=ws.take p:=by
 unfold fu;rw[HT.yk,HT.ux,aed h];rfl
theorem B2 (ws:List V) (p n:Nat) (h:p+n≤ws.length):fu ws (some ((p:Int)+(n:Int))) none=ws.drop (p+n):=by
 unfold fu;rw[show (p:Int)+(n:Int)=((p+n:Nat):Int) by omega,HT.yk,HT.ux,aed h];apply acm
 rw[aah];omega
theorem wq {ws:List V} (h:isTerm ws) {p:Nat} {x:V} (hx:ws[p]?=some x):∃m,pend (m+arV x) ((ws.drop (p+1)).map arV)=some 0:=by
 have hp:p < ws.length:=(List.getElem?_eq_some_iff.mp hx).1;have hd:ws.drop p=x::ws.drop (p+1):=by
  rw[aat hp];congr 1
  rw[aa2 hp] at hx;exact aa6 hx
 obtain ⟨m,hm⟩:=rg _ 1 h p;rw[←abt,hd] at hm;cases m with
 | zero=>cases hm
 | succ m'=>exact ⟨m',hm⟩
theorem vx {x:V} (hx:isW x):(inV x [V.str "add",V.str "sub",V.str "mul"]=true)↔arV x=2:=by
 obtain ⟨k,rfl⟩:=hx;cases k with
 | inl i=>
  constructor
  ·intro h;exact absurd h (by simp[inV,eqV,kV])
  ·intro h;exact absurd h (by show ¬(0=2);decide)
 | inr z=>
  show (inV (.str z) _=true)↔arS z=2
  constructor
  ·intro h;have:=iu h;simp only[aag,aa4,or_false,V.str.injEq] at this;rcases this with rfl | rfl | rfl <;> decide+kernel
  ·intro h;rcases km (z:=z) (by omega) with rfl | rfl | rfl | rfl
   ·decide+kernel
   ·decide+kernel
   ·decide+kernel
   ·rw[ud] at h;exact absurd h (by decide)
noncomputable def intAt (σ:L2.St) (i:Nat):Nat:=match σ[i]? with | some (some (.int x))=>x.toNat | _=>0
def pe (K:PySem.W.Frag):Sp:=λvs H Q _=>∃(t:Addr) (ws:List V) (p n:Nat),vs=[.ref t,.int (p:Int)]∧SqT K H t ws∧(∀v∈ws,isW v)∧ws.length≤1000∧eat 1 ((ws.drop p).map arV)=some n∧∀H',ak H H'→Q (.int ((p:Int)+(n:Int))) H'
end Pc
namespace Pc
open PySem PySem.Spec L2 PyProof.Rows
noncomputable abbrev plV (q:Nat):V:=V.int ((q:Nat):Int)
end Pc
namespace Pc
open PySem PySem.Spec L2 PyProof.Rows
noncomputable def fk:V:=.str (Str.ofString "any")
noncomputable def dw:V:=.str (Str.ofString "var")
noncomputable def lN:Str:=Str.ofString "n"
noncomputable def lV:Str:=Str.ofString "v"
noncomputable def lH:Str:=Str.ofString "h"
noncomputable def lO:Str:=Str.ofString ""
noncomputable def b7 (kinds:List Str) (v:V):Str:=if v=fk then lN else if v=dw then lV else if inV v (kinds.map V.str)=true then lH else lO
noncomputable def isStr:V→Bool
 | .str _=>true
 | _=>false
noncomputable def lies (l:Str) (v x:V):Bool:=if l=lH then true else if l=lN then !isStr x else if l=lV then isStr x&&decide (arV x=0) else decide (v=x)
def gm (K:PySem.W.Frag):Sp:=λvs H Q _=>∃(v:V) (kt:Addr) (kinds:List Str),vs=[v,.ref kt]∧isW v∧SqT K H kt (kinds.map V.str)∧Q (.str (b7 kinds v)) H
def tj:Sp:=λvs H Q _=>∃(l:Str) (v x:V),vs=[.str l,v,x]∧isW v∧isW x∧Q (.bl (lies l v x)) H
theorem isW.sc {v:V} (h:isW v) (z:Str):scal v (.str z)=true:=by
 obtain ⟨k,rfl⟩:=h;cases k <;> rfl
theorem isW.sc2 {v x:V} (h:isW v) (g:isW x):scal v x=true:=by
 obtain ⟨k,rfl⟩:=h;obtain ⟨m,rfl⟩:=g;cases k <;> cases m <;> rfl
theorem isW.flat {v:V} (h:isW v):eu v=true:=by
 obtain ⟨k,rfl⟩:=h;exact Ip k
structure Und where
 hs:List Nat
 ns:List V
 vs:List V
noncomputable def Und.put (u:Und) (l:Str) (p:Nat) (x:V):Und:=if l=lH then ⟨u.hs++[p],u.ns,u.vs⟩ else if l=lN then ⟨u.hs,u.ns++[x],u.vs⟩ else if l=lV then ⟨u.hs,u.ns,u.vs++[x]⟩ else u
noncomputable def endAt (ws:List V) (p:Nat):Nat:=p+(eat 1 ((ws.drop p).map arV)).getD 0
noncomputable def cj (kinds:List Str) (ws:List V):List V→Nat→Und→Option Und
 | [],_,u=>some u
 | v::r,p,u=>if lies (b7 kinds v) v (ws.getD p .non)=true then cj kinds ws r (if b7 kinds v=lH then endAt ws p else p+1) (u.put (b7 kinds v) p (ws.getD p .non)) else none
def m5 (H:Hp) (t:Addr) (u:Und):Prop:=∃t1 t2 t3:Addr,H t=some (.tup [.ref t1,.ref t2,.ref t3])∧H t1=some (.tup (u.hs.map plV))∧H t2=some (.tup u.ns)∧H t3=some (.tup u.vs)
structure UndOk (u:Und):Prop where
 n:(∀v∈u.ns,isW v)∧u.ns.length≤1000
 v:(∀v∈u.vs,isW v)∧u.vs.length≤1000
 h:u.hs.length≤1000
theorem m5.same {H H':Hp} {t:Addr} {u:Und} (h:m5 H t u) (s:ak H H'):m5 H' t u:=by
 obtain ⟨t1,t2,t3,h1,h2,h3,h4⟩:=h;exact ⟨t1,t2,t3,s _ _ h1,s _ _ h2,s _ _ h3,s _ _ h4⟩
def wz (u:Und):Prop:=(∀v∈u.ns,isW v)∧∀v∈u.vs,isW v
theorem wz.put {u:Und} (h:wz u) {x:V} (hx:isW x) (l:Str) (p:Nat):wz (u.put l p x):=by
 unfold Und.put;have ap:∀{L:List V},(∀v∈L,isW v)→∀v∈L++[x],isW v:=λ{L} hL v hv=>by
  rcases List.mem_append.mp hv with g | g
  ·exact hL v g
  ·rw[List.mem_singleton.mp g];exact hx
 by_cases c1:l=lH
 ·rw[if_pos c1];exact h
 rw[if_neg c1];by_cases c2:l=lN
 ·rw[if_pos c2];exact ⟨ap h.1,h.2⟩
 rw[if_neg c2];by_cases c3:l=lV
 ·rw[if_pos c3];exact ⟨h.1,ap h.2⟩
 rw[if_neg c3];exact h
def Kinds (kinds:List Str):Prop:=∀z∈kinds,arS z=0∧V.str z≠fk∧V.str z≠dw
def told (r:Option Und) (H':Hp) (Q:VK):Prop:=match r with
 | none=>Q .non H'
 | some u=>∀(t:Addr) (H2:Hp),ak H' H2→m5 H2 t u→UndOk u→Q (.ref t) H2
theorem kj {H':Hp} {Q:VK} (h:Q .non H'):told none H' Q:=h
def ur (K:PySem.W.Frag):Sp:=λvs H Q _=>∃(st kt wt:Addr) (sh:List V) (kinds:List Str) (ws:List V) (p n:Nat),vs=[.ref st,.ref kt,.ref wt,.int (p:Int)]∧SqT K H st sh∧SqT K H kt (kinds.map V.str)∧SqT K H wt ws∧Kinds kinds∧(∀v∈sh,isW v)∧(∀v∈ws,isW v)∧isTerm sh∧eat 1 ((ws.drop p).map arV)=some n∧sh.length≤1000∧ws.length≤1000∧∀H',ak H H'→told (cj kinds ws sh p ⟨[],[],[]⟩) H' Q
theorem dj {kinds:List Str} {v:V} (hv:isW v):(v=fk∧b7 kinds v=lN)∨(v=dw∧b7 kinds v=lV)∨((∃z∈kinds,v=.str z)∧b7 kinds v=lH)∨(b7 kinds v=lO∧inV v (kinds.map V.str)=false):=by
 unfold b7;by_cases h1:v=fk
 ·exact .inl ⟨h1,if_pos h1⟩
 by_cases h2:v=dw
 ·exact .inr (.inl ⟨h2,by rw[if_neg h1,if_pos h2]⟩)
 cases h3:inV v (kinds.map V.str) with
 | true=>
  refine .inr (.inr (.inl ⟨?_,by rw[if_neg h1,if_neg h2,if_pos rfl]⟩));obtain ⟨k,rfl⟩:=hv;cases k with
  | inl i=>
   exfalso
   clear h1 h2;induction kinds with
   | nil=>cases h3
   | cons z r ih=>exact ih h3
  | inr z=>
   obtain ⟨y,hy,e⟩:=List.mem_map.mp (iu h3);exact ⟨y,hy,e.symm⟩
 | false=>exact .inr (.inr (.inr ⟨by rw[if_neg h1,if_neg h2,if_neg (by decide)],rfl⟩))
theorem nz:arV fk=0:=by decide+kernel
theorem ni:arV dw=0:=by decide+kernel
theorem lets:lN≠lH∧lV≠lH∧lO≠lH∧lV≠lN∧lO≠lN∧lO≠lV:=by decide+kernel
theorem dy {kinds:List Str} {ws r:List V} {v x:V} {q d m:Nat} (hk:Kinds kinds) (hv:isW v) (hx:ws[q]?=some x) (hxw:isW x) (hp:pend (d+1) (arV v::r.map arV)=some 0) (he:eat (d+1) ((ws.drop q).map arV)=some m)
  (hl:lies (b7 kinds v) v x=true):∃d' m',pend d' (r.map arV)=some 0∧eat d' ((ws.drop (if b7 kinds v=lH then endAt ws q else q+1)).map arV)=some m':=by
 have hq:q < ws.length:=(List.getElem?_eq_some_iff.mp hx).1;have ed:ws.drop q=x::ws.drop (q+1):=by
  rw[aat hq];congr 1
  rw[aa2 hq] at hx;exact aa6 hx
 obtain ⟨e1,e2,e3,e4,e5,e6⟩:=lets;have hp:pend (d+arV v) (r.map arV)=some 0:=hp;have one:arV v=arV x→b7 kinds v≠lH→∃d' m',pend d' (r.map arV)=some 0∧eat d' ((ws.drop (if b7 kinds v=lH then endAt ws q else q+1)).map arV)=some m':=λh n=>by
  rw[if_neg n];rw[ed,ab0,de] at he;obtain ⟨k,hk',_⟩:=Option.map_eq_some_iff.mp he;exact ⟨d+arV v,k,hp,by rw[h];exact hk'⟩
 unfold lies at hl;rcases dj (kinds:=kinds) hv with ⟨rfl,h⟩ | ⟨rfl,h⟩ | ⟨⟨z,hz,rfl⟩,h⟩ | ⟨h,_⟩
 ·refine one ?_ (by rw[h];exact e1);rw[h,if_neg e1,if_pos rfl] at hl;rw[nz];obtain ⟨k,rfl⟩:=hxw;cases k with
  | inl i=>rfl
  | inr y=>cases hl
 ·refine one ?_ (by rw[h];exact e2);rw[h,if_neg e2,if_neg e4,if_pos rfl,ac6] at hl;rw[ni];exact (of_decide_eq_true hl.2).symm
 ·rw[if_pos h];have a0:arV (.str z)=0:=(hk z hz).1;rw[a0] at hp;rw[show d+1=1+d by omega,sv] at he;cases h1:eat 1 ((ws.drop q).map arV) with
  | none=>rw[h1] at he;cases he
  | some n=>
   rw[h1] at he;obtain ⟨k,hk',_⟩:=Option.map_eq_some_iff.mp (show (eat d (((ws.drop q).map arV).drop n)).map (n+·)=some m from he);refine ⟨d,k,hp,?_⟩;unfold endAt;rw[h1,show (some n).getD 0=n from rfl,←adq];rw[←abt] at hk';exact hk'
 ·refine one ?_ (by rw[h];exact e3);rw[h,if_neg e3,if_neg e5,if_neg e6] at hl;rw[of_decide_eq_true hl]
theorem gk {kinds:List Str} {ws:List V} {v:V} {r:List V} {p:Nat} {u:Und}:cj kinds ws (v::r) p u=if lies (b7 kinds v) v (ws.getD p .non)=true then cj kinds ws r (if b7 kinds v=lH then endAt ws p else p+1) (u.put (b7 kinds v) p (ws.getD p .non)) else none:=rfl
def UAt (H:Hp) (u0 l1 l2 l3:Addr) (u:Und):Prop:=H u0=some (.dK [(Sum.inr lH,.ref l1),(Sum.inr lN,.ref l2),(Sum.inr lV,.ref l3)])∧H l1=some (.lst (u.hs.map plV))∧H l2=some (.lst u.ns)∧H l3=some (.lst u.vs)
theorem UAt.same {H H':Hp} {u0 l1 l2 l3:Addr} {u:Und} (h:UAt H u0 l1 l2 l3 u) (s:ak H H'):UAt H' u0 l1 l2 l3 u:=⟨s _ _ h.1,s _ _ h.2.1,s _ _ h.2.2.1,s _ _ h.2.2.2⟩
theorem Und.zu (u:Und) (l:Str) (p:Nat) (x:V) {i:Nat} (h:u.hs.length≤i∧u.ns.length≤i∧u.vs.length≤i):(u.put l p x).hs.length≤i+1∧(u.put l p x).ns.length≤i+1∧(u.put l p x).vs.length≤i+1:=by
 obtain ⟨h1,h2,h3⟩:=h;unfold Und.put;by_cases c1:l=lH
 ·rw[if_pos c1];refine ⟨?_,by show u.ns.length≤_;omega,by show u.vs.length≤_;omega⟩;show (u.hs++[p]).length≤_
  rw[aa1,aa9];omega
 rw[if_neg c1];by_cases c2:l=lN
 ·rw[if_pos c2];refine ⟨by show u.hs.length≤_;omega,?_,by show u.vs.length≤_;omega⟩;show (u.ns++[x]).length≤_
  rw[aa1,aa9];omega
 rw[if_neg c2];by_cases c3:l=lV
 ·rw[if_pos c3];refine ⟨by show u.hs.length≤_;omega,by show u.ns.length≤_;omega,?_⟩;show (u.vs++[x]).length≤_
  rw[aa1,aa9];omega
 rw[if_neg c3];exact ⟨by omega,by omega,by omega⟩
theorem UAt.get1 {H:Hp} {u0 l1 l2 l3:Addr} {u:Und} (h:UAt H u0 l1 l2 l3 u):vd H u0 (.str lH) (some (.ref l1)):=.inl ⟨_,.inr lH,.inl h.1,rfl,rfl⟩
theorem UAt.get2 {H:Hp} {u0 l1 l2 l3:Addr} {u:Und} (h:UAt H u0 l1 l2 l3 u):vd H u0 (.str lN) (some (.ref l2)):=.inl ⟨_,.inr lN,.inl h.1,rfl,rfl⟩
theorem UAt.get3 {H:Hp} {u0 l1 l2 l3:Addr} {u:Und} (h:UAt H u0 l1 l2 l3 u):vd H u0 (.str lV) (some (.ref l3)):=.inl ⟨_,.inr lV,.inl h.1,rfl,rfl⟩
theorem UAt.put1 {H:Hp} {u0 l1 l2 l3:Addr} {u:Und} (h:UAt H u0 l1 l2 l3 u) (n10:l1≠u0) (n21:l2≠l1) (n31:l3≠l1) (p:Nat) (x:V):UAt (upd H l1 (.lst (u.hs.map plV++[plV p]))) u0 l1 l2 l3 (u.put lH p x):=by
 unfold Und.put;rw[if_pos rfl];refine ⟨by rw[af n10.symm];exact h.1,?_,by rw[af n21];exact h.2.2.1,by rw[af n31];exact h.2.2.2⟩;rw[ae,aa8];rfl
theorem UAt.put2 {H:Hp} {u0 l1 l2 l3:Addr} {u:Und} (h:UAt H u0 l1 l2 l3 u) (n20:l2≠u0) (n21:l2≠l1) (n32:l3≠l2) (p:Nat) (x:V):UAt (upd H l2 (.lst (u.ns++[x]))) u0 l1 l2 l3 (u.put lN p x):=by
 unfold Und.put;rw[if_neg lets.1,if_pos rfl];exact ⟨by rw[af n20.symm];exact h.1,by rw[af n21.symm];exact h.2.1,ae,by rw[af n32];exact h.2.2.2⟩
theorem UAt.put3 {H:Hp} {u0 l1 l2 l3:Addr} {u:Und} (h:UAt H u0 l1 l2 l3 u) (n30:l3≠u0) (n31:l3≠l1) (n32:l3≠l2) (p:Nat) (x:V):UAt (upd H l3 (.lst (u.vs++[x]))) u0 l1 l2 l3 (u.put lV p x):=by
 unfold Und.put;rw[if_neg lets.2.1,if_neg lets.2.2.2.1,if_pos rfl];exact ⟨by rw[af n30.symm];exact h.1,by rw[af n31.symm];exact h.2.1,by rw[af n32.symm];exact h.2.2.1,ae⟩
theorem Und.put0 (u:Und) (p:Nat) (x:V):u.put lO p x=u:=by
 unfold Und.put;rw[if_neg lets.2.2.1,if_neg lets.2.2.2.2.1,if_neg lets.2.2.2.2.2]
theorem y4 {r:List Nat} {d m:Nat} (h:eat (d+1) r=some m):∃n,eat 1 r=some n:=by
 rw[show d+1=1+d by omega,sv] at h;cases h1:eat 1 r with
 | none=>rw[h1] at h;cases h
 | some n=>exact ⟨n,rfl⟩
structure Rl where
 name:Str
 kind:Str
 price:Int
 shape:List V
def fw (H:Hp) (a:Addr) (r:Rl):Prop:=∃(sa da:Addr) (ds:List V),H a=some (.tup [.str r.name,.str r.kind,.int r.price,.ref sa,.ref da])∧H sa=some (.tup r.shape)∧H da=some (.tup ds)
theorem fw.same {H H':Hp} {a:Addr} {r:Rl} (h:fw H a r) (s:ak H H'):fw H' a r:=by
 obtain ⟨sa,da,ds,h1,h2,h3⟩:=h;exact ⟨sa,da,ds,s _ _ h1,s _ _ h2,s _ _ h3⟩
def cu (H:Hp) (ra:List Addr) (rs:List Rl):Prop:=ra.length=rs.length∧∀(i:Nat) (r:Rl),rs[i]?=some r→∃a,ra[i]?=some a∧fw H a r
theorem cu.same {H H':Hp} {ra:List Addr} {rs:List Rl} (h:cu H ra rs) (s:ak H H'):cu H' ra rs:=⟨h.1,λi r hr=>by
 obtain ⟨a,h1,h2⟩:=h.2 i r hr;exact ⟨a,h1,h2.same s⟩⟩
def bo (H:Hp) (b:Addr) (kinds:List Str) (rs:List Rl):Prop:=∃(kt rt:Addr) (ra:List Addr),H b=some (.tup [.ref kt,.ref rt])∧H kt=some (.tup (kinds.map V.str))∧H rt=some (.tup (ra.map V.ref))∧cu H ra rs
theorem bo.same {H H':Hp} {b:Addr} {kinds:List Str} {rs:List Rl} (h:bo H b kinds rs) (s:ak H H'):bo H' b kinds rs:=by
 obtain ⟨kt,rt,ra,h1,h2,h3,h4⟩:=h;exact ⟨kt,rt,ra,s _ _ h1,s _ _ h2,s _ _ h3,h4.same s⟩
structure Bk (kinds:List Str) (rs:List Rl):Prop where
 kd:Kinds kinds
 nd:(rs.map (·.name)).Nodup
 sh:∀r∈rs,(∀v∈r.shape,isW v)∧isTerm r.shape∧r.shape.length≤100
 len:rs.length≤100
 kn:kinds.Nodup
 kl:kinds.length≤60
 pr:∀r∈rs,1≤r.price
 rk:∀r∈rs,r.kind∈kinds
structure Tw (ws:List V):Prop where
 w:∀v∈ws,isW v∧v≠fk∧v≠dw
 one:isTerm ws
 len:ws.length≤1000
theorem Tw.eat {ws:List V} (h:Tw ws) {p:Nat} (hp:p < ws.length):∃n,eat 1 ((ws.drop p).map arV)=some n:=by
 obtain ⟨m,hm⟩:=rg _ 1 h.one p;rw[←abt] at hm;have hpos:=Dv hm (by intro e;have:=congrArg aca e;rw[aa0,aah] at this;simp at this;omega);obtain ⟨d,rfl⟩:∃d,m=d+1:=⟨m - 1,by omega⟩;exact y4 (ll _ _ hm)
theorem Bk.name {kinds:List Str} {rs:List Rl} (h:Bk kinds rs) {i j:Nat} {r r':Rl} (hi:rs[i]?=some r) (hj:rs[j]?=some r') (e:r'.name=r.name):i=j:=by
 have h1:(rs.map (·.name))[i]?=some r.name:=by rw[aa7,hi];rfl
 have h2:(rs.map (·.name))[j]?=some r.name:=by rw[aa7,hj,←e];rfl
 obtain ⟨a1,b1⟩:=List.getElem?_eq_some_iff.mp h1;obtain ⟨a2,b2⟩:=List.getElem?_eq_some_iff.mp h2;exact (aco h.nd).mp (b1.trans b2.symm)
def pf (K:PySem.W.Frag):Sp:=λvs H Q _=>∃(t:Addr) (ws:List V),vs=[.ref t]∧SqT K H t ws∧(∀v∈ws,isW v)∧isTerm ws∧ws.length≤1000∧∀(l:Addr) (H':Hp),ak H H'→H l=none→H' l=some (.lst ((ab3 ws.length).map λq=>plV (endAt ws q)))→Q (.ref l) H'
def j8 (K:PySem.W.Frag):Sp:=λvs H Q _=>∃(st kt wt et:Addr) (sh:List V) (kinds:List Str) (ws:List V) (p:Nat),vs=[.ref kt,.ref st,.ref wt,.ref et,.int (p:Int)]∧SqT K H st sh∧SqT K H kt (kinds.map V.str)∧SqT K H wt ws∧H et=some (.lst ((ab3 ws.length).map λq=>plV (endAt ws q)))∧Kinds kinds∧(∀v∈sh,isW v)∧isTerm sh∧sh.length≤1000∧Tw ws∧p < ws.length∧∀H',ak H H'→told (cj kinds ws sh p ⟨[],[],[]⟩) H' Q
noncomputable def ny (ws:List V) (p:Nat):List Nat:=starts p ((ws.map arV).drop p)++[ws.length]
theorem Ed (ws:List V):ny ws ws.length=[ws.length]:=by
 unfold ny;rw[abz (by rw[aa0];exact aa5 _)];rfl
theorem Gd {ws:List V} (h:isTerm ws) {p:Nat} {x:V} (hx:ws[p]?=some x):ny ws p=p::(ny ws (p+1)).drop (arV x)∧∃t,(ny ws (p+1)).drop (arV x)=endAt ws p::t:=by
 have hp:p < ws.length:=(List.getElem?_eq_some_iff.mp hx).1;obtain ⟨m,hm⟩:=wq h hx;have Sl:=oo _ _ (p+1) hm;rw[abt] at Sl hm;have ea:(ws.map arV).getD p 0=arV x:=by rw[aan,aa7,hx];rfl
 have hst:=Ai (ws.map arV) p (by rw[aa0];exact hp);rw[ea] at hst;obtain ⟨n,hn,_⟩:=m4 _ (arV x) m (by rw[adx];exact hm);have hd:=lj _ _ _ (p+1) hn;have hle:=og _ _ _ hn;have ed:(ws.drop p).map arV=arV x::(ws.map arV).drop (p+1):=by
  rw[aat hp,ab0,abt];rw[aa2 hp] at hx;rw[aa6 hx]
 have en:endAt ws p=p+1+n:=by
  unfold endAt;rw[ed,de,acx,hn];show p+(n+1)=_
  omega
 unfold ny;rw[hst,List.drop_append_of_le_length (by omega),hd];refine ⟨rfl,?_⟩;rw[adq];rw[aah,aa0] at hle;by_cases c:p+1+n < ws.length
 ·obtain ⟨t,ht⟩:=lp ((ws.map arV).drop (p+1+n)) (p+1+n) (by intro e;have:=congrArg aca e;rw[aah,aa0] at this;simp at this;omega);exact ⟨t++[ws.length],by rw[ht,en];rfl⟩
 ·refine ⟨[],?_⟩;rw[abz (by rw[aa0];omega),en,show p+1+n=ws.length by omega];rfl
theorem t7 {x:V} (hx:isW x):(inV x [V.str "add",V.str "sub",V.str "mul",V.str "neg"]=true)↔0 < arV x:=by
 obtain ⟨k,rfl⟩:=hx;cases k with
 | inl i=>
  constructor
  ·intro h;exact absurd h (by simp[inV,eqV,kV])
  ·intro h;exact absurd h (by show ¬(0 < 0);decide)
 | inr z=>
  show (inV (.str z) _=true)↔0 < arS z
  constructor
  ·intro h;have:=iu h;simp only[aag,aa4,or_false,V.str.injEq] at this;rcases this with rfl | rfl | rfl | rfl <;> decide+kernel
  ·intro h;rcases km (z:=z) h with rfl | rfl | rfl | rfl <;> decide+kernel
theorem Ag (ws:List V) {p:Nat} (hp:p≤ws.length):∃t,ny ws p=p::t:=by
 unfold ny;by_cases c:p < ws.length
 ·obtain ⟨t,ht⟩:=lp ((ws.map arV).drop p) p (by intro e;have:=congrArg aca e;rw[aah,aa0] at this;simp at this;omega);exact ⟨t++[ws.length],by rw[ht];rfl⟩
 ·refine ⟨[],?_⟩;rw[abz (by rw[aa0];omega),show p=ws.length by omega];rfl
theorem Fm {n p:Nat} (h:p < n):ixN n (p:Int)=some p:=by
 unfold ixN;rw[if_pos (by omega),if_pos (by omega),ac0]
theorem Ck {p:Nat} {x:V} {L:List V}:(aac (p+1) (V.int 0)++L).set p x=aac p (V.int 0)++x::L:=by
 rw[List.replicate_succ',ac2,List.set_append_right _ _ (by rw[ab4];exact aa5 _),ab4,acj];rfl
theorem qp:∀(r:List Nat) (p:Nat),(starts p r).length≤r.length
 | [],_=>aa5 _
 | a::r,p=>by
  show (p::(starts (p+1) r).drop a).length≤_
  have:=qp r (p+1);rw[aaq,aah,aaq];omega
theorem Dk (ws:List V) (p:Nat):(ny ws p).length≤ws.length+1:=by
 unfold ny;have:=qp ((ws.map arV).drop p) p;rw[aah,aa0] at this;rw[aa1,aa9];omega
def jf (H:Hp) (u0 l1 l2 l3:Addr) (u:Und):Prop:=H u0=some (.lst [.ref l1,.ref l2,.ref l3])∧H l1=some (.lst (u.hs.map plV))∧H l2=some (.lst u.ns)∧H l3=some (.lst u.vs)
theorem jf.same {H H':Hp} {u0 l1 l2 l3:Addr} {u:Und} (h:jf H u0 l1 l2 l3 u) (s:ak H H'):jf H' u0 l1 l2 l3 u:=⟨s _ _ h.1,s _ _ h.2.1,s _ _ h.2.2.1,s _ _ h.2.2.2⟩
theorem jf.put1 {H:Hp} {u0 l1 l2 l3:Addr} {u:Und} (h:jf H u0 l1 l2 l3 u) (n10:u0≠l1) (n21:l2≠l1) (n31:l3≠l1) (p:Nat) (x:V):jf (upd H l1 (.lst (u.hs.map plV++[plV p]))) u0 l1 l2 l3 (u.put lH p x):=by
 unfold Und.put;rw[if_pos rfl];refine ⟨by rw[af n10];exact h.1,?_,by rw[af n21];exact h.2.2.1,by rw[af n31];exact h.2.2.2⟩;rw[ae,aa8];rfl
theorem jf.put2 {H:Hp} {u0 l1 l2 l3:Addr} {u:Und} (h:jf H u0 l1 l2 l3 u) (n20:u0≠l2) (n21:l2≠l1) (n32:l3≠l2) (p:Nat) (x:V):jf (upd H l2 (.lst (u.ns++[x]))) u0 l1 l2 l3 (u.put lN p x):=by
 unfold Und.put;rw[if_neg lets.1,if_pos rfl];exact ⟨by rw[af n20];exact h.1,by rw[af n21.symm];exact h.2.1,ae,by rw[af n32];exact h.2.2.2⟩
theorem jf.put3 {H:Hp} {u0 l1 l2 l3:Addr} {u:Und} (h:jf H u0 l1 l2 l3 u) (n30:u0≠l3) (n31:l3≠l1) (n32:l3≠l2) (p:Nat) (x:V):jf (upd H l3 (.lst (u.vs++[x]))) u0 l1 l2 l3 (u.put lV p x):=by
 unfold Und.put;rw[if_neg lets.2.1,if_neg lets.2.2.2.1,if_pos rfl];exact ⟨by rw[af n30];exact h.1,by rw[af n31.symm];exact h.2.1,by rw[af n32.symm];exact h.2.2.1,ae⟩
theorem Kinds.out {kinds:List Str} (h:Kinds kinds) {z:Str} (hz:V.str z=fk∨V.str z=dw):inV (.str z) (kinds.map V.str)=false:=by
 cases e:inV (.str z) (kinds.map V.str) with
 | false=>rfl
 | true=>
  obtain ⟨y,hy,e2⟩:=List.mem_map.mp (iu e);obtain ⟨_,h1,h2⟩:=h y hy;rcases hz with hz | hz
  ·exact absurd (e2.trans hz) h1
  ·exact absurd (e2.trans hz) h2
theorem letH {kinds:List Str} {v:V} (h:b7 kinds v=lH):inV v (kinds.map V.str)=true:=by
 unfold b7 at h;obtain ⟨b1,b2,b3,_,_,_⟩:=lets;by_cases h1:v=fk
 ·rw[if_pos h1] at h;exact absurd h b1
 by_cases h2:v=dw
 ·rw[if_neg h1,if_pos h2] at h;exact absurd h b2
 rw[if_neg h1,if_neg h2] at h;cases e:inV v (kinds.map V.str) with
 | true=>rfl
 | false=>rw[e,if_neg (by decide)] at h;exact absurd h b3
theorem letO {kinds:List Str} {v:V} (h:b7 kinds v=lO):v≠fk∧v≠dw:=by
 obtain ⟨_,_,_,_,b5,b6⟩:=lets;unfold b7 at h;refine ⟨λe=>?_,λe=>?_⟩
 ·rw[if_pos e] at h;exact b5 h.symm
 ·subst e;by_cases h1:dw=fk
  ·rw[if_pos h1] at h;exact b5 h.symm
  ·rw[if_neg h1,if_pos rfl] at h;exact b6 h.symm
end Pc
namespace Pc
open PySem PySem.Spec L2 PyProof.Rows
def nmOk (z:Str):Prop:=arS z=0∧V.str z≠fk∧V.str z≠dw
def bw (H:Hp) (l:Addr) (zs:List Str):Prop:=H l=some (.lst (zs.map V.str))∧zs.length=60∧zs.Nodup∧∀z∈zs,nmOk z
theorem bw.same {H H':Hp} {l:Addr} {zs:List Str} (h:bw H l zs) (s:ak H H'):bw H' l zs:=⟨s _ _ h.1,h.2⟩
theorem bw.dz {H H':Hp} {d b l:Addr} {ns:List Int} {n:Nat} {zs:List Str} (h:bw H l zs) (hD:cq H d b ns n) (s:au d H H'):bw H' l zs:=by
 refine ⟨s _ _ (j5 h.1 hD.1 ?_) h.1,h.2⟩;intro e;have:=h.2.1;cases zs with
 | nil=>cases this
 | cons z r=>
  have e:HO.lst (V.str z::r.map V.str)=HO.lst _:=e;cases e
def twW (v:V):Prop:=isW v∧v≠fk∧v≠dw
theorem twW_int (i:Int):twW (.int i):=⟨⟨Sum.inl i,rfl⟩,(λe=>nomatch e),λe=>nomatch e⟩
theorem twW_name {z:Str} (h:nmOk z):twW (.str z):=⟨⟨Sum.inr z,rfl⟩,h.2⟩
theorem twW_op {z:Str} (h:0 < arS z):twW (.str z):=⟨⟨Sum.inr z,rfl⟩,λe=>by rw[V.str.inj (show V.str z=V.str (Str.ofString "any") from e)] at h;revert h;decide+kernel,λe=>by rw[V.str.inj (show V.str z=V.str (Str.ofString "var") from e)] at h;revert h;decide+kernel⟩
theorem mh {z:Str} {xs:List V} (h:V.str z∈xs):inV (.str z) xs=true:=List.any_eq_true.mpr ⟨_,h,by simp[eqV]⟩
def mq:Sp:=λvs H Q _=>∃(d nl b:Addr) (ns:List Int) (zs:List Str) (m n:Nat),vs=[.ref d,.ref nl,.int (m:Int)]∧cq H d b ns n∧bw H nl zs∧1≤m∧m≤120∧n≤50000∧∀(t:Addr) (n':Nat) (H':Hp) (ws:List V),au d H H'→H' d=some (.lst [.ref b,.int (n':Int)])→n'≤n+m→H t=none→H' t=some (.tup ws)→Tw ws→ws.length≤m→Q (.ref t) H'
structure g7 (kinds:List Str) (sh:List V):Prop where
 w:∀v∈sh,isW v
 one:isTerm sh
 len:sh.length≤11
 few:(sh.filter λv=>!inV v (kinds.map V.str)).length≤5
def mf:Sp:=λvs H Q _=>∃(d kt b:Addr) (ns:List Int) (kinds:List Str) (n:Nat),vs=[.ref d,.ref kt]∧cq H d b ns n∧H kt=some (.tup (kinds.map V.str))∧Kinds kinds∧1≤kinds.length∧kinds.length≤20∧n≤50000∧∀(t:Addr) (n':Nat) (H':Hp) (sh:List V),au d H H'→H' d=some (.lst [.ref b,.int (n':Int)])→n'≤n+12→H t=none→H' t=some (.tup sh)→g7 kinds sh→Q (.ref t) H'
def mi (K:PySem.W.Frag):Sp:=λvs H Q _=>∃(kt st:Addr) (kinds:List Str) (sh:List V),vs=[.ref kt,.ref st]∧H kt=some (.tup (kinds.map V.str))∧H st=some (.tup sh)∧Kinds kinds∧g7 kinds sh∧∀(t:Addr) (ds:List V) (H':Hp),ak H H'→H' t=some (.tup ds)→Q (.ref t) H'
noncomputable def isT (z:Str):Bool:=decide (z.cps.toList.head?=some 116)
noncomputable def tc (zs:List Str):Nat:=(zs.filter isT).length
theorem ko (xs ys:List Str):tc (xs++ys)=tc xs+tc ys:=by
 unfold tc;rw[ab9,aa1]
noncomputable def bq (kinds:List Str) (vs:List V):Nat:=(vs.filter λv=>!inV v (kinds.map V.str)).length
theorem ip (kinds:List Str) (xs ys:List V):bq kinds (xs++ys)=bq kinds xs+bq kinds ys:=by
 unfold bq;rw[ab9,aa1]
theorem nc {kinds:List Str} (hk:Kinds kinds):∀(xs:List V) (l m:Nat),(∀v∈xs,isW v)→pend l (xs.map arV)=some m→m≤l+bq kinds xs
 | [],l,m,_,h=>by
  have:l=m:=aa6 h;omega
 | v::r,0,m,_,h=>by cases h
 | v::r,l+1,m,hw,h=>by
  have h:pend (l+arV v) (r.map arV)=some m:=h;have ih:=nc hk r _ _ (λx hx=>hw x (aak _ hx)) h;have e:bq kinds (v::r)=bq kinds [v]+bq kinds r:=ip kinds [v] r;have a2:=ng v;rcases aby (arV v) with h0 | h0
  ·omega
  ·have:bq kinds [v]=1:=by
    unfold bq;rcases dj (kinds:=kinds) (hw v aal) with ⟨rfl,_⟩ | ⟨rfl,_⟩ | ⟨⟨z,hz,rfl⟩,_⟩ | ⟨_,hno⟩
    ·rw[nz] at h0;cases h0
    ·rw[ni] at h0;cases h0
    ·have:=(hk z hz).1;have h0:0 < arS z:=h0;omega
    ·rw[aav,hno];rfl
   omega
theorem xa {n:Nat} (h:n≤11):(yr (.int (n:Int))).length≤2∧wordV (.int (n:Int)):=by
 have a:∀n:Fin 12,(yr (.int ((n.1:Nat):Int))).length≤2:=by decide+kernel
 have b:∀n:Fin 12,(((n.1:Nat):Int)).natAbs.log2 < 1920:=by decide+kernel
 exact ⟨a ⟨n,by omega⟩,b ⟨n,by omega⟩⟩
structure DI (kinds:List Str) (sh:List V) (p:Nat) (zs fs:List Str):Prop where
 pd:pend zs.length ((sh.drop p).map arV)=some 0
 bf:pend 1 ((sh.take p).map arV)=some zs.length
 three:fs.length+tc zs=3
 un:tc zs≤bq kinds (sh.drop p)
 zl:∀z∈zs,1≤z.length∧z.length≤100
 fl:∀z∈fs,isT z=true∧1≤z.length∧z.length≤100
theorem DI.start {kinds:List Str} {sh:List V} (h:g7 kinds sh):DI kinds sh sh.length [] [Str.ofString "t3",Str.ofString "t2",Str.ofString "t1"]:=by
 refine ⟨by rw[abw];rfl,by rw[abn];exact h.one,rfl,aaa _,(λ_ h=>nomatch h),λz hz=>?_⟩;simp only[aag,aa4,or_false] at hz;rcases hz with rfl | rfl | rfl <;> decide+kernel
theorem DI.less {kinds:List Str} {sh:List V} {p:Nat} {zs fs:List Str} (h:DI kinds sh (p+1) zs fs) {v:V} (hv:sh[p]?=some v):arV v≤zs.length∧pend (zs.length - arV v+1) ((sh.drop p).map arV)=some 0∧pend 1 ((sh.take p).map arV)=some (zs.length - arV v+1)∧sh.drop p=v::sh.drop (p+1):=by
 have hp:p < sh.length:=(List.getElem?_eq_some_iff.mp hv).1;have ed:sh.drop p=v::sh.drop (p+1):=by
  rw[aat hp];congr 1
  rw[aa2 hp] at hv;exact aa6 hv
 have et:sh.take (p+1)=sh.take p++[v]:=by rw[abf,hv];rfl
 have bf:=h.bf;rw[et,aa8,jr] at bf;cases hq:pend 1 ((sh.take p).map arV) with
 | none=>rw[hq] at bf;cases bf
 | some m=>
  rw[hq] at bf;have bf:pend m [arV v]=some zs.length:=bf;cases m with
  | zero=>cases bf
  | succ m=>
   rw[vy _ _ (Nat.succ_pos _)] at bf;have e:=aa6 bf;have hm:m+1=zs.length - arV v+1:=by omega
   refine ⟨by omega,?_,by rw[hm],ed⟩;rw[ed,ab0];show pend (zs.length - arV v+arV v) ((sh.drop (p+1)).map arV)=some 0
   rw[show zs.length - arV v+arV v=zs.length by omega];exact h.pd
theorem DI.hole {kinds:List Str} {sh:List V} {p:Nat} {zs fs:List Str} (h:DI kinds sh (p+1) zs fs) {v:V} (hv:sh[p]?=some v) (a0:arV v=0) {z:Str} (hz:isT z=false) (hl:1≤z.length∧z.length≤100):DI kinds sh p (zs++[z]) fs:=by
 obtain ⟨_,h2,h3,ed⟩:=h.less hv;rw[a0,aci] at h2 h3;have tz:tc (zs++[z])=tc zs:=by
  rw[ko];unfold tc;rw[aav,hz];rfl
 refine ⟨by rw[aa1];exact h2,by rw[aa1];exact h3,by rw[tz];exact h.three,?_,λy hy=>?_,h.fl⟩
 ·rw[tz,ed];have:=ip kinds [v] (sh.drop (p+1));have e:bq kinds (v::sh.drop (p+1))=bq kinds [v]+bq kinds (sh.drop (p+1)):=this;have:=h.un;omega
 ·rcases List.mem_append.mp hy with g | g
  ·exact h.zl y g
  ·rw[List.mem_singleton.mp g];exact hl
theorem DI.put {kinds:List Str} {sh:List V} {p:Nat} {zs fs zs0 rd:List Str} (hk:Kinds kinds) (ok:g7 kinds sh) (h:DI kinds sh (p+1) zs fs) {v:V} (hv:sh[p]?=some v) (hn:inV v (kinds.map V.str)=false) (e:zs=zs0++rd) (hr:rd.length=arV v):
  (∀z fs2,fs2.length+1=fs.length+tc rd→isT z=true→1≤z.length→z.length≤100→(∀y∈fs2,isT y=true∧1≤y.length∧y.length≤100)→DI kinds sh p (zs0++[z]) fs2)∧
  (∀z fs2,fs2.length=fs.length+tc rd→isT z=false→1≤z.length→z.length≤100→(∀y∈fs2,isT y=true∧1≤y.length∧y.length≤100)→DI kinds sh p (zs0++[z]) fs2)∧(0 < p→1≤fs.length+tc rd):=by
 obtain ⟨h1,h2,h3,ed⟩:=h.less hv;subst e;rw[aa1,hr,ad4] at h2 h3;have th:=h.three;have un:=h.un;rw[ko] at th un;have uv:bq kinds (sh.drop p)=1+bq kinds (sh.drop (p+1)):=by
  rw[ed];have:=ip kinds [v] (sh.drop (p+1));have e1:bq kinds [v]=1:=by
   unfold bq;rw[aav,hn];rfl
  have e:bq kinds (v::sh.drop (p+1))=bq kinds [v]+bq kinds (sh.drop (p+1)):=this;omega
 have zl0:∀y∈zs0,1≤y.length∧y.length≤100:=λy hy=>h.zl y (abu _ hy);refine ⟨λz fs2 hf hz l1 l2 hfl=>⟨by rw[aa1];exact h2,by rw[aa1];exact h3,?_,?_,λy hy=>?_,hfl⟩,λz fs2 hf hz l1 l2 hfl=>⟨by rw[aa1];exact h2,by rw[aa1];exact h3,?_,?_,λy hy=>?_,hfl⟩,λhp=>?_⟩
 ·rw[ko,show tc [z]=1 by unfold tc;rw[aav,hz];rfl];omega
 ·rw[ko,show tc [z]=1 by unfold tc;rw[aav,hz];rfl,uv];omega
 ·rcases List.mem_append.mp hy with g | g
  ·exact zl0 y g
  ·rw[List.mem_singleton.mp g];exact ⟨l1,l2⟩
 ·rw[ko,show tc [z]=0 by unfold tc;rw[aav,hz];rfl];omega
 ·rw[ko,show tc [z]=0 by unfold tc;rw[aav,hz];rfl,uv];omega
 ·rcases List.mem_append.mp hy with g | g
  ·exact zl0 y g
  ·rw[List.mem_singleton.mp g];exact ⟨l1,l2⟩
 ·have u5:=ok.few;have hs:bq kinds sh≤5:=u5;have es:bq kinds sh=bq kinds (sh.take p)+bq kinds (sh.drop p):=by
   rw[←ip,ac4]
  have pu:=nc hk (sh.take p) 1 _ (λx hx=>ok.w x (abe hx)) h3;have tl:tc zs0≤zs0.length:=ab7 _ _;omega
theorem Fq {kinds:List Str} (hk:Kinds kinds) {v:V} (hv:isW v) (h:inV v (kinds.map V.str)=true):arV v=0:=by
 obtain ⟨b1,b2,b3,_,_,_⟩:=lets;rcases dj (kinds:=kinds) hv with ⟨rfl,_⟩ | ⟨rfl,_⟩ | ⟨⟨z,hz,rfl⟩,_⟩ | ⟨_,hno⟩
 ·exact nz
 ·exact ni
 ·exact (hk z hz).1
 ·rw[hno] at h;cases h
theorem dv (a b:Str):(a++b).cps.toList=a.cps.toList++b.cps.toList:=by
 show (a.cps++b.cps).toList=_
 exact Array.toList_append
theorem isT_h (tx:Str):isT (Str.ofString "h"++tx)=false:=by
 unfold isT;rw[dv,show (Str.ofString "h").cps.toList=[104] by decide+kernel];rfl
theorem Hl:isT (Str.ofString "out")=false:=by decide+kernel
theorem Fg {z:Str} (h:1≤z.length):∃c,atI z.cps.toList 0=some c∧((V.str ⟨#[c]⟩=V.str (Str.ofString "t"))↔isT z=true):=by
 have hl:z.cps.toList.length=z.length:=rfl;cases e:z.cps.toList with
 | nil=>rw[e] at hl;simp at hl;omega
 | cons c r=>
  refine ⟨c,ay (j:=0) rfl,?_⟩;unfold isT;rw[e];have et:Str.ofString "t"=⟨#[116]⟩:=by decide+kernel
  rw[et];constructor
  ·intro h;have:(#[c]:Array Nat)=#[116]:=congrArg Str.cps (V.str.inj h);have:c=116:=by simpa using this
   subst this;rfl
  ·intro h;have:c=116:=by simpa using h
   subst this;rfl
theorem Bg {v:V} (hv:isW v):((if inV v [V.str "add",V.str "sub",V.str "mul",V.str "neg"]=true then (1:Int) else 0)+if inV v [V.str "add",V.str "sub",V.str "mul"]=true then 1 else 0)=(arV v:Int):=by
 have three:=vx hv;have four:=t7 hv;have a2:=ng v;by_cases c:0 < arV v
 ·rw[if_pos (four.mpr c)];by_cases c2:arV v=2
  ·rw[if_pos (three.mpr c2)];omega
  ·rw[if_neg λe=>c2 (three.mp e)];omega
 ·rw[if_neg λe=>c (four.mp e),if_neg λe=>by have:=three.mp e;omega];omega
def rq:Sp:=λvs H Q _=>∃(d nl b:Addr) (ns:List Int) (zs:List Str) (n:Nat),vs=[.ref d,.ref nl]∧cq H d b ns n∧bw H nl zs∧n≤1000∧∀(bt:Addr) (n':Nat) (H':Hp) (kinds:List Str) (rs:List Rl),au d H H'→H' d=some (.lst [.ref b,.int (n':Int)])→n'≤n+1000→bo H' bt kinds rs→Bk kinds rs→1≤rs.length→(∀r∈rs,r.name∈zs)→(∀z∈kinds,z∈zs)→Q (.ref bt) H'
def dh (H:Hp) (sa:List Addr) (kinds:List Str) (ps:List (Str×List V)):Prop:=sa.length=ps.length∧∀(i:Nat) (k:Str) (sh:List V),ps[i]?=some (k,sh)→(g7 kinds sh∧k∈kinds)∧∃a s:Addr,sa[i]?=some a∧H a=some (.tup [.str k,.ref s])∧H s=some (.tup sh)
theorem dh.nil (H:Hp) (kinds:List Str):dh H [] kinds []:=⟨rfl,λi k sh h=>by simp at h⟩
theorem dh.dz {H H':Hp} {d b:Addr} {ns:List Int} {n:Nat} {sa:List Addr} {kinds:List Str} {ps:List (Str×List V)} (h:dh H sa kinds ps) (hD:cq H d b ns n) (s:au d H H'):dh H' sa kinds ps:=⟨h.1,λi k sh hi=>by
 obtain ⟨ok,a,t,h1,h2,h3⟩:=h.2 i k sh hi;exact ⟨ok,a,t,h1,s _ _ (j5 h2 hD.1 (by intro e;cases e)) h2,s _ _ (j5 h3 hD.1 (by intro e;cases e)) h3⟩⟩
theorem dh.same {H H':Hp} {sa:List Addr} {kinds:List Str} {ps:List (Str×List V)} (h:dh H sa kinds ps) (s:ak H H'):dh H' sa kinds ps:=⟨h.1,λi k sh hi=>by
 obtain ⟨ok,a,t,h1,h2,h3⟩:=h.2 i k sh hi;exact ⟨ok,a,t,h1,s _ _ h2,s _ _ h3⟩⟩
theorem dh.snoc {H:Hp} {sa:List Addr} {kinds:List Str} {ps:List (Str×List V)} (h:dh H sa kinds ps) {a s:Addr} {k:Str} {sh:List V} (ok:g7 kinds sh∧k∈kinds) (h1:H a=some (.tup [.str k,.ref s])) (h2:H s=some (.tup sh)):dh H (sa++[a]) kinds (ps++[(k,sh)]):=by
 refine ⟨by rw[aa1,aa1,h.1];rfl,λi k' sh' hi=>?_⟩;by_cases c:i < ps.length
 ·rw[aao c] at hi;obtain ⟨ok',a',t',g1,g2,g3⟩:=h.2 i k' sh' hi;exact ⟨ok',a',t',by rw[aao (by rw[h.1];exact c)];exact g1,g2,g3⟩
 ·rw[aam (by omega)] at hi;have hz:i - ps.length=0:=by
   rcases aby (i - ps.length) with g | g
   ·exact g
   ·rw[abi (by rw[aa9];omega)] at hi;cases hi
  rw[hz] at hi;cases hi
  exact ⟨ok,a,s,by rw[aam (by rw[h.1];omega),h.1,hz];rfl,h1,h2⟩
theorem Al {kinds:List Str} (hk:Kinds kinds) {z:Str} (hz:z∈kinds):g7 kinds [.str z]:=by
 refine ⟨λv hv=>by rw[List.mem_singleton.mp hv];exact ⟨Sum.inr z,rfl⟩,?_,by show (1:Nat)≤11;decide,aaw (ab7 _ _) (by show (1:Nat)≤5;decide)⟩;show pend 1 [arS z]=some 0
 rw[(hk z hz).1];rfl
theorem Dq (kinds:List Str):g7 kinds [fk]:=⟨λv hv=>by rw[List.mem_singleton.mp hv];exact ⟨Sum.inr _,rfl⟩,by show pend 1 [arV fk]=some 0;rw[nz];rfl,by show (1:Nat)≤11;decide,aaw (ab7 _ _) (by show (1:Nat)≤5;decide)⟩
theorem En (kinds:List Str):g7 kinds [dw]:=⟨λv hv=>by rw[List.mem_singleton.mp hv];exact ⟨Sum.inr _,rfl⟩,by show pend 1 [arV dw]=some 0;rw[ni];rfl,by show (1:Nat)≤11;decide,aaw (ab7 _ _) (by show (1:Nat)≤5;decide)⟩
theorem Cz {kinds:List Str} (hk:Kinds kinds) {z:Str} (hz:z∈kinds):g7 kinds [.str (Str.ofString "add"),.str z,.str z]:=by
 refine ⟨λv hv=>?_,?_,by show (3:Nat)≤11;decide,aaw (ab7 _ _) (by show (3:Nat)≤5;decide)⟩
 ·simp only[aag,aa4,or_false] at hv;rcases hv with rfl | rfl | rfl <;> exact ⟨Sum.inr _,rfl⟩
 ·show pend 1 [arS (Str.ofString "add"),arS z,arS z]=some 0
  rw[(hk z hz).1,show arS (Str.ofString "add")=2 by decide+kernel];rfl
theorem E9 {kinds:List Str} (hk:Kinds kinds) {z:Str} (hz:z∈kinds):g7 kinds [.str (Str.ofString "neg"),.str z]:=by
 refine ⟨λv hv=>?_,?_,by show (2:Nat)≤11;decide,aaw (ab7 _ _) (by show (2:Nat)≤5;decide)⟩
 ·simp only[aag,aa4,or_false] at hv;rcases hv with rfl | rfl <;> exact ⟨Sum.inr _,rfl⟩
 ·show pend 1 [arS (Str.ofString "neg"),arS z]=some 0
  rw[(hk z hz).1,show arS (Str.ofString "neg")=1 from ud];rfl
end Pc
namespace Pc
open PySem PySem.Spec L2 PyProof.Rows
theorem fw.keep {H H':Hp} {a:Addr} {r:Rl} (h:fw H a r) (t:∀{a:Addr} {xs:List V},H a=some (.tup xs)→H' a=some (.tup xs)):fw H' a r:=by
 obtain ⟨sa,da,ds,h1,h2,h3⟩:=h;exact ⟨sa,da,ds,t h1,t h2,t h3⟩
theorem cu.keep {H H':Hp} {ra:List Addr} {rs:List Rl} (h:cu H ra rs) (t:∀{a:Addr} {xs:List V},H a=some (.tup xs)→H' a=some (.tup xs)):cu H' ra rs:=⟨h.1,λi r hr=>by
 obtain ⟨a,h1,h2⟩:=h.2 i r hr;exact ⟨a,h1,h2.keep t⟩⟩
theorem dh.keep {H H':Hp} {sa:List Addr} {kinds:List Str} {ps:List (Str×List V)} (h:dh H sa kinds ps) (t:∀{a:Addr} {xs:List V},H a=some (.tup xs)→H' a=some (.tup xs)):dh H' sa kinds ps:=⟨h.1,λi k sh hi=>by
 obtain ⟨ok,a,s,h1,h2,h3⟩:=h.2 i k sh hi;exact ⟨ok,a,s,h1,t h2,t h3⟩⟩
theorem az {H H':Hp} {d b:Addr} {ns:List Int} {n:Nat} (hD:cq H d b ns n) (s:au d H H') {a:Addr} {xs:List V} (h:H a=some (.tup xs)):H' a=some (.tup xs):=s _ _ (j5 h hD.1 (by intro e;cases e)) h
theorem cu.snoc {H:Hp} {ra:List Addr} {rs:List Rl} (h:cu H ra rs) {a:Addr} {r:Rl} (hr:fw H a r):cu H (ra++[a]) (rs++[r]):=by
 refine ⟨by rw[aa1,aa1,h.1];rfl,λi r' hi=>?_⟩;by_cases c:i < rs.length
 ·rw[aao c] at hi;obtain ⟨a',g1,g2⟩:=h.2 i r' hi;exact ⟨a',by rw[aao (by rw[h.1];exact c)];exact g1,g2⟩
 ·rw[aam (by omega)] at hi;have hz:i - rs.length=0:=by
   rcases aby (i - rs.length) with g | g
   ·exact g
   ·rw[abi (by rw[aa9];omega)] at hi;cases hi
  rw[hz] at hi;cases hi
  exact ⟨a,by rw[aam (by rw[h.1];omega),h.1,hz];rfl,hr⟩
theorem cu.rot {H:Hp} {ra:List Addr} {rs:List Rl} (h:cu H ra rs) (k:Nat):cu H (ra.drop k++ra.take k) (rs.drop k++rs.take k):=by
 have h1:=h.1;refine ⟨by rw[aa1,aa1,aah,aah,aay,aay,h1],λi r hi=>?_⟩;by_cases c:i < rs.length - k
 ·rw[aao (by rw[aah];exact c),ad5] at hi;rw[aao (by rw[aah,h1];exact c),ad5];exact h.2 _ r hi
 ·rw[aam (by rw[aah];omega),aah] at hi;rw[aam (by rw[aah,h1];omega),aah,h1];by_cases c2:i - (rs.length - k) < k
  ·rw[acg c2] at hi;rw[acg c2];exact h.2 _ r hi
  ·rw[abi (by rw[aay];omega)] at hi;cases hi
theorem bk_rot {kinds zs:List Str} {rs:List Rl} (hk:Kinds kinds) (kn:kinds.Nodup) (kl:kinds.length≤60) (nd:zs.Nodup) (e:rs.map (·.name)=(zs.drop 8).take rs.length) (so:∀r∈rs,g7 kinds r.shape∧1≤r.price∧r.kind∈kinds) (hl:rs.length≤40) (k:Nat):Bk kinds (rs.drop k++rs.take k):=by
 have hp:(rs.drop k++rs.take k).Perm rs:=List.perm_append_comm.trans (by rw[ac4]);refine ⟨hk,(hp.map (·.name)).nodup_iff.mpr ?_,λr hr=>?_,by rw[hp.length_eq];omega,kn,kl,λr hr=>(so r (hp.mem_iff.mp hr)).2.1,λr hr=>(so r (hp.mem_iff.mp hr)).2.2⟩
 ·rw[e];exact (nd.sublist (List.drop_sublist 8 zs)).sublist (ad8 _ _)
 ·have o:=(so r (hp.mem_iff.mp hr)).1;exact ⟨o.w,o.one,by have:=o.len;omega⟩
theorem Ba {zs:List Str} {rs:List Rl} {n:Nat} (e:rs.map (·.name)=(zs.drop 8).take n) (k:Nat):∀r∈rs.drop k++rs.take k,r.name∈zs:=λr hr=>by
 have hm:r∈rs:=(List.mem_append.mp hr).elim acy abe;have h:r.name∈rs.map (·.name):=List.mem_map.mpr ⟨r,hm,rfl⟩;rw[e] at h;exact acy (abe h)
theorem xy {zs:List Str} {rs:List Rl} {r:Rl} {i:Nat} (e:rs.map (·.name)=(zs.drop 8).take i) (hz:zs[8+i]?=some r.name):(rs++[r]).map (·.name)=(zs.drop 8).take (i+1):=by
 rw[aa8,e,abf,ad5,hz];rfl
end Pc
namespace Pc
open PySem PySem.Spec L2 PyProof.Rows
def bu (z:Str):Prop:=(∀c∈z.cps.toList,c < 128)∧z.length≤1000
def ju:Sp:=λvs H Q _=>∃(d b:Addr) (ns:List Int) (n:Nat),vs=[.ref d]∧cq H d b ns n∧n≤1000∧∀(l:Addr) (H':Hp) (zs:List Str),au d H H'→H' d=some (.lst [.ref b,.int ((n+1:Nat):Int)])→bw H' l zs→(∀z∈zs,bu z)→Q (.ref l) H'
noncomputable abbrev we:Str:=Str.ofString "abcdefghijklmnopqrstuvwxyz"
noncomputable def ltr (i:Int):Str:=⟨#[97+(i % 26).toNat]⟩
theorem dn (i:Int):(ltr i).cps.toList=[97+(i % 26).toNat]:=rfl
theorem dc (i:Int):(ltr i).length=1:=rfl
theorem ltr_at (i:Int):atI we.cps.toList (i % 26)=some (97+(i % 26).toNat):=by
 have a:∀j:Fin 26,we.cps.toList[j.1]?=some (97+j.1):=by decide+kernel
 obtain ⟨j,hj,e⟩:∃j:Nat,j < 26∧i % 26=(j:Int):=⟨(i % 26).toNat,by omega,by omega⟩;rw[e,ac0];exact ay (a ⟨j,hj⟩)
theorem eh {i:Int} {H:Hp} {Q:VK} (q:Q (.str (ltr i)) H):rIxS (.str we) (.int (i % 26)) H Q:=
 ⟨we,i % 26,_,rfl,rfl,by rw[sizeLine_eq];decide+kernel,ltr_at i,q⟩
noncomputable def cx:List Str:=["add","sub","mul","neg","any","var","put","load","out"]
noncomputable def ownC:List (List Nat):=cx.map λz=>z.cps.toList
theorem kx {a b:Str} (h:a.cps.toList=b.cps.toList):a=b:=by
 cases a;cases b
 congr 1
 exact Array.toList_inj.mp h
theorem kq {z:Str}:z∈cx↔z.cps.toList∈ownC:=by
 unfold ownC;constructor
 ·exact λh=>List.mem_map.mpr ⟨z,h,rfl⟩
 ·intro h;obtain ⟨y,hy,e⟩:=List.mem_map.mp h;rw[←kx e];exact hy
theorem own_ok {z:Str} (h:z∉cx):nmOk z:=by
 refine ⟨?_,λe=>h ?_,λe=>h ?_⟩
 ·rcases aby (arS z) with g | g
  ·exact g
  ·exfalso
   apply h
   rcases km g with rfl | rfl | rfl | rfl
   ·exact aal
   ·exact aak _ aal
   ·exact aak _ (aak _ aal)
   ·exact aak _ (aak _ (aak _ aal))
 ·rw[V.str.inj (show V.str z=V.str (Str.ofString "any") from e)];decide+kernel
 ·rw[V.str.inj (show V.str z=V.str (Str.ofString "var") from e)];decide+kernel
noncomputable def nm0 (m:Int) (tail:Str) (k:Nat):Str:=ltr (m+(k:Int))++ltr (m / 7+(k:Int) / 26)++tail
noncomputable def nm1 (m:Int) (k:Nat):Str:=cx.getD (((k:Int)+m) % 9).toNat ""++ltr (m / 9+(k:Int) / 9)
noncomputable def nm2 (m:Int) (k:Nat):Str:=ja (ltr m) (1+(k:Int) % 3).toNat++ja (ltr (m+1)) ((k:Int) / 3 % 4).toNat++ltr (m+2+(k:Int) / 12)
noncomputable def lr (m:Int):Str:=ja (ltr (m / 26)) (m / 676 % 6).toNat
noncomputable def nmX (c:Int) (k:Nat):Str:=if c % 3=2 then nm2 (c / 3) k else if c % 3=1 then nm1 (c / 3) k else nm0 (c / 3) (lr (c / 3)) k
noncomputable def nmP (c:Int) (k:Nat):Str:=if nmX c k∈cx then nmX c k++"xq" else nmX c k
theorem gi (i:Int) (n:Nat):(ja (ltr i) n).cps.toList=aac n (97+(i % 26).toNat):=by
 rw[wx,dn];induction n with
 | zero=>rfl
 | succ n ih=>rw[aax,abl,ih,aax];rfl
theorem Be (m:Int) (t:Str) (k:Nat):(nm0 m t k).cps.toList=(97+((m+(k:Int)) % 26).toNat)::(97+((m / 7+(k:Int) / 26) % 26).toNat)::t.cps.toList:=by
 unfold nm0;rw[dv,dv,dn,dn];rfl
theorem add_mod {n a b c:Int} (h:(a+b) % n=(a+c) % n):(b - c) % n=0:=by
 have h:=Int.emod_eq_emod_iff_emod_sub_eq_zero.mp h;rw[show a+b - (a+c)=b - c by omega] at h;exact h
theorem ml {a b:Int} {n:Nat} (hn:0 < n) (h:97+(a % (n:Int)).toNat=97+(b % (n:Int)).toNat):a % (n:Int)=b % (n:Int):=by
 have h1:=aai a (show (n:Int)≠0 by omega);have h2:=aai b (show (n:Int)≠0 by omega);generalize a % (n:Int)=x at h h1;generalize b % (n:Int)=y at h h2;omega
theorem G6 {m:Int} {t:Str} {k k':Nat} (h:k < 60) (h':k' < 60) (e:nm0 m t k=nm0 m t k'):k=k':=by
 have e:=congrArg (λz:Str=>z.cps.toList) e;simp only[Be,adl] at e;obtain ⟨e1,e2,_⟩:=e;have a1:=add_mod (ml (n:=26) (by decide) e1);have a2:=add_mod (ml (n:=26) (by decide) e2);clear e1 e2;omega
theorem Ad:cx.Nodup:=by decide+kernel
theorem Ib {m:Int} {k k':Nat} (h:k < 60) (h':k' < 60) (e:nm1 m k=nm1 m k'):k=k':=by
 unfold nm1 at e;have e:=congrArg (λz:Str=>z.cps.toList) e;simp only[dv,dn] at e;obtain ⟨e1,e2⟩:=ae7 e rfl;have e1:=kx e1;have b1:(((k:Int)+m) % 9).toNat < cx.length:=by show _ < 9;omega
 have b2:(((k':Int)+m) % 9).toNat < cx.length:=by show _ < 9;omega
 rw[aan,aan,aa2 b1,aa2 b2] at e1;have e3:=(aco Ad).mp (show cx[(((k:Int)+m) % 9).toNat]=cx[(((k':Int)+m) % 9).toNat] from e1);simp only[adl,and_true] at e2;have a2:=add_mod (ml (n:=26) (by decide) e2);have h1:=aai ((k:Int)+m) (show (9:Int)≠0 by decide);have h2:=aai ((k':Int)+m) (show (9:Int)≠0 by decide);have e4:((k:Int)+m) % 9=((k':Int)+m) % 9:=by
  generalize ((k:Int)+m) % 9=x at e3 h1;generalize ((k':Int)+m) % 9=y at e3 h2;clear a2 h h';omega
 rw[Int.add_comm,Int.add_comm (k':Int)] at e4;have a1:=add_mod e4;clear e1 e2 e3 e4 b1 b2 h1 h2 e;omega
theorem qh (m:Int) (k:Nat):(nm2 m k).cps.toList=aac (1+(k:Int) % 3).toNat (97+(m % 26).toNat)++(aac ((k:Int) / 3 % 4).toNat (97+((m+1) % 26).toNat)++[97+((m+2+(k:Int) / 12) % 26).toNat]):=by
 unfold nm2;rw[dv,dv,gi,gi,dn,ac2]
theorem Hd {m:Int} {k k':Nat} (h:k < 60) (h':k' < 60) (e:nm2 m k=nm2 m k'):k=k':=by
 have e:=congrArg (λz:Str=>z.cps.toList) e;simp only[qh] at e;have ab:97+((m+1) % 26).toNat≠97+(m % 26).toNat:=by omega
 have ac:∀k:Nat,k < 60→97+((m+2+(k:Int) / 12) % 26).toNat≠97+(m % 26).toNat:=λk h=>by omega
 have bc:∀k:Nat,k < 60→97+((m+2+(k:Int) / 12) % 26).toNat≠97+((m+1) % 26).toNat:=λk h=>by omega
 have c1:=congrArg (List.count (97+(m % 26).toNat)) e;have c2:=congrArg (List.count (97+((m+1) % 26).toNat)) e;have c3:=congrArg List.getLast? e;rw[abg,abg,abg,abg,abv,abv,ac7,ac7,ac8,ac8,if_neg (by simpa using ab),if_neg (by simpa using ac k h),if_neg (by simpa using ab),if_neg (by simpa using ac k' h')] at c1;rw[abg,abg,abg,abg,abv,abv,ac7,ac7,ac8,ac8,if_neg (by simpa using ab.symm),if_neg (by simpa using bc k h),if_neg (by simpa using ab.symm),if_neg (by simpa using bc k' h')] at c2;rw[←ac2,←ac2,adv,adv] at c3;have c3:=aa6 c3;rw[Int.add_assoc,Int.add_assoc m 2] at c3;have a3:=add_mod (ml (n:=26) (by decide) c3);clear c3 ab ac bc e;omega
theorem Hx (m:Int) (k:Nat):nm1 m k∉cx:=by
 intro h;have h:=kq.mp h;unfold nm1 at h;have b1:(((k:Int)+m) % 9).toNat < cx.length:=by show _ < 9;omega
 rw[dv,dn,aan,aa2 b1] at h;have a:∀x∈ownC,x.dropLast∉ownC:=by decide+kernel
 apply a _ h
 rw[adu];exact kq.mp (ab1 b1)
theorem Fs {m:Int} {k:Nat} (hk:k < 60):nm2 m k∉cx:=by
 intro h;have h:=kq.mp h;rw[qh] at h;have a:∀x∈ownC,3≤x.length∧x.getD 1 0≠x.getD 0 0∧x.getD 1 0≠x.getD 0 0+1∧(x.getD 0 0=122→False):=by decide+kernel
 obtain ⟨i,hi⟩:∃i,(1+(k:Int) % 3).toNat=i+1:=⟨((k:Int) % 3).toNat,by omega⟩;obtain ⟨a1,a2,a3,a4⟩:=a _ h;rw[hi,aax] at a1 a2 a3 a4;cases i with
 | succ i=>
  rw[aax] at a2;exact a2 rfl
 | zero=>
  cases hj:((k:Int) / 3 % 4).toNat with
  | zero=>
   rw[hj] at a1;simp at a1
  | succ j=>
   rw[hj,aax] at a3;simp at a3 a4;omega
theorem t6 {z:Str} (h:z∈cx):z.length≤4∧3≤z.length:=by
 have a:∀z∈cx,z.length≤4∧3≤z.length:=by decide+kernel
 exact a z h
theorem tf:(Str.length "xq")=2:=by decide+kernel
theorem zj {c:Int} {k k':Nat} (h:k < 60) (h':k' < 60) (e:nmX c k=nmX c k'):k=k':=by
 unfold nmX at e;by_cases c2:c % 3=2
 ·rw[if_pos c2,if_pos c2] at e;exact Hd h h' e
 rw[if_neg c2,if_neg c2] at e;by_cases c1:c % 3=1
 ·rw[if_pos c1,if_pos c1] at e;exact Ib h h' e
 rw[if_neg c1,if_neg c1] at e;exact G6 h h' e
theorem zh {c:Int} {k:Nat} (h:k < 60) (e:nmX c k∈cx) (j:Nat):(nmX c j).length=(nmX c k).length:=by
 unfold nmX at e ⊢;by_cases c2:c % 3=2
 ·rw[if_pos c2] at e;exact absurd e (Fs h)
 rw[if_neg c2] at e;rw[if_neg c2,if_neg c2];by_cases c1:c % 3=1
 ·rw[if_pos c1] at e;exact absurd e (Hx _ _)
 rw[if_neg c1,if_neg c1];unfold nm0;rw[Str.length_append,Str.length_append,Str.length_append,Str.length_append,dc,dc,dc,dc]
theorem Fl {c:Int} {k k':Nat} (h:k < 60) (h':k' < 60) (e:nmP c k=nmP c k'):k=k':=by
 unfold nmP at e;have x2:=tf;by_cases o:nmX c k∈cx
 ·rw[if_pos o] at e;have l1:=zh h o k';have e2:=congrArg Str.length e;by_cases o':nmX c k'∈cx
  ·rw[if_pos o'] at e;have e:=congrArg (λz:Str=>z.cps.toList) e;simp only[dv] at e;exact zj h h' (kx (ae7 e rfl).1)
  ·rw[if_neg o',Str.length_append] at e2;omega
 ·rw[if_neg o] at e;by_cases o':nmX c k'∈cx
  ·have l1:=zh h' o' k;rw[if_pos o'] at e;have e2:=congrArg Str.length e;rw[Str.length_append] at e2;omega
  ·rw[if_neg o'] at e;exact zj h h' e
theorem nmP_ok (c:Int) (k:Nat):nmOk (nmP c k):=by
 apply own_ok
 unfold nmP;by_cases o:nmX c k∈cx
 ·rw[if_pos o];intro h;have a:=(t6 h).1;have b:=(t6 o).2;rw[Str.length_append,tf] at a;omega
 ·rw[if_neg o];exact o
theorem xt {H:Hp} {l:Addr} {c:Int} (h:H l=some (.lst ((ab3 60).map λk=>V.str (nmP c k)))):bw H l ((ab3 60).map (nmP c)):=by
 refine ⟨by rw[acw];exact h,by rw[aa0,ae5],?_,λz hz=>?_⟩
 ·refine List.pairwise_map.mpr (List.Pairwise.imp_of_mem ?_ List.nodup_range);intro a b ha hb n e;exact n (Fl (List.mem_range.mp ha) (List.mem_range.mp hb) e)
 ·obtain ⟨k,_,rfl⟩:=List.mem_map.mp hz;exact nmP_ok c k
theorem zd (m m':Int) (k:Nat):(nm0 m (lr m') k).length≤100:=by
 unfold nm0 lr;rw[Str.length_append,Str.length_append,dc,dc];have e:(ja (ltr (m' / 26)) (m' / 676 % 6).toNat).length=(ja (ltr (m' / 26)) (m' / 676 % 6).toNat).cps.toList.length:=rfl;rw[e,gi,ab4];omega
theorem iw (i:Int) (n:Nat):(ja (ltr i) n).length=n:=by
 have e:(ja (ltr i) n).length=(ja (ltr i) n).cps.toList.length:=rfl;rw[e,gi,ab4]
theorem zi (m:Int) (k:Nat):(nm1 m k).length≤100:=by
 unfold nm1;have b1:(((k:Int)+m) % 9).toNat < cx.length:=by show _ < 9;omega
 rw[Str.length_append,dc,aan,aa2 b1];have:=(t6 (ab1 b1)).1;show (cx[(((k:Int)+m) % 9).toNat]).length+1≤100
 omega
theorem Hn (m:Int) (k:Nat):(nm2 m k).length≤100:=by
 unfold nm2;rw[Str.length_append,Str.length_append,dc,iw,iw];omega
theorem yw (c:Int) (k:Nat):(nmX c k).length≤100:=by
 unfold nmX;by_cases c2:c % 3=2
 ·rw[if_pos c2];exact Hn _ _
 rw[if_neg c2];by_cases c1:c % 3=1
 ·rw[if_pos c1];exact zi _ _
 rw[if_neg c1];exact zd _ _ _
theorem Ce (z:Str):(inV (.str z) (cx.map V.str)=true)↔z∈cx:=by
 constructor
 ·intro h;obtain ⟨y,hy,e⟩:=List.mem_map.mp (iu h);rw[←V.str.inj e];exact hy
 ·intro h;exact mh (List.mem_map.mpr ⟨z,h,rfl⟩)
theorem b_min:bootBuiltins "min"=some (.builtin "min"):=by decide+kernel
theorem bo.keep {H H':Hp} {b:Addr} {kinds:List Str} {rs:List Rl} (h:bo H b kinds rs) (t:∀{a:Addr} {xs:List V},H a=some (.tup xs)→H' a=some (.tup xs)):bo H' b kinds rs:=by
 obtain ⟨kt,rt,ra,h1,h2,h3,h4⟩:=h;exact ⟨kt,rt,ra,t h1,t h2,t h3,h4.keep t⟩
theorem Tw.pos {ws:List V} (h:Tw ws):0 < ws.length:=by
 cases ws with
 | nil=>cases h.one
 | cons x r=>exact Nat.succ_pos _
end Pc
namespace Pc
open PySem PySem.Spec L2 PyProof.Rows
theorem sf (i:Int):∀c∈(ltr i).cps.toList,c < 128:=λc h=>by
 rw[dn] at h;rw[List.mem_singleton.mp h];omega
theorem kr {a b:Str} (h:∀c∈a.cps.toList,c < 128) (g:∀c∈b.cps.toList,c < 128):∀c∈(a++b).cps.toList,c < 128:=λc hc=>by
 rw[dv] at hc;rcases List.mem_append.mp hc with hc | hc
 ·exact h c hc
 ·exact g c hc
theorem x5 (i:Int) (n:Nat):∀c∈(ja (ltr i) n).cps.toList,c < 128:=λc h=>by
 rw[gi] at h;rw[(List.mem_replicate.mp h).2];omega
theorem own_tx {z:Str} (h:z∈cx):∀c∈z.cps.toList,c < 128:=by
 have a:∀z∈cx,∀c∈z.cps.toList,c < 128:=by decide+kernel
 exact a z h
theorem Eo (c:Int) (k:Nat):∀x∈(nmX c k).cps.toList,x < 128:=by
 unfold nmX;by_cases c2:c % 3=2
 ·rw[if_pos c2];exact kr (kr (x5 _ _) (x5 _ _)) (sf _)
 rw[if_neg c2];by_cases c1:c % 3=1
 ·rw[if_pos c1];unfold nm1;have b1:(((k:Int)+c / 3) % 9).toNat < cx.length:=by show _ < 9;omega
  rw[aan,aa2 b1];exact kr (own_tx (ab1 b1)) (sf _)
 rw[if_neg c1];exact kr (kr (sf _) (sf _)) (x5 _ _)
theorem nmP_tx (c:Int) (k:Nat):bu (nmP c k):=by
 have l:=yw c k;have x2:=tf;unfold nmP;by_cases o:nmX c k∈cx
 ·rw[if_pos o];exact ⟨kr (Eo c k) (by decide+kernel),by rw[Str.length_append];omega⟩
 ·rw[if_neg o];exact ⟨Eo c k,by omega⟩
theorem Bw (c:Int):∀z∈(ab3 60).map (nmP c),bu z:=λz hz=>by
 obtain ⟨k,_,rfl⟩:=List.mem_map.mp hz;exact nmP_tx c k
end Pc
namespace L2
open PySem PySem.Spec PyProof.Rows
section
variable {X:Cx}
end
def TK (H H':Hp):Prop:=∀b xs,H b=some (.tup xs)→H' b=some (.tup xs)
theorem TK.trans {H H1 H2:Hp} (a:TK H H1) (b:TK H1 H2):TK H H2:=λc xs h=>b c xs (a c xs h)
theorem TK.of {H H':Hp} (s:ak H H'):TK H H':=λb xs h=>s b _ h
theorem TK.put {H:Hp} {a:Addr} {o o':HO} (h:H a=some o) (ho:∀xs,o≠.tup xs):TK H (upd H a o'):=λb xs hb=>by
 rw[af (λe=>by rw[e,h] at hb;exact ho xs (aa6 hb))];exact hb
theorem Dt {K:PySem.W.Frag} {c:Nat} {J:It} {fr:St} {tc:TT} {te:TE} {D:Addr} {H1:Hp} {Q:Hp→Prop} (n:Nat) (R:Nat→V→V→Hp→Prop) (P:Nat→List V→Hp→Prop) (mono:∀i ys H H',TK H H'→P i ys H→P i ys H') (hc:c=2) (hn:n < sizeLine) (hD:H1 D=none)
  (hgo:∀i H,i < n→ak H1 H→J.go i H) (hyld:∀i H v H',i < n→ak H1 H→J.yld i H v H'→ak H H'∧∃p x y,v=.ref p∧SqT K H' p [x,y]∧R i x y H') (hstop:∀H,ak H1 H→J.stop n H) (h0:P 0 [] H1)
  (step:∀i x y ys H (G:Hp→Prop) (K':V→Hp→Prop),i < n→R i x y H→P i ys H→ys.length≤i→ak H1 H→(∀H3,ak H H3→P (i+1) ys H3→G H3)→(∀y H4,ak H H4→P (i+1) (ys++[y]) H4→K' y H4)→tc ([some x,some y]++fr) H λb H3=>if b=true then te ([some x,some y]++fr) H3 K' else G H3)
  (done:∀ys H,P n ys H→ys.length≤n→ak H1 H→H D=some (.lst ys)→Q H):LC 2 fr (gTup K c (mx (gc 0) (mx (gc 1) gNil))) tc te J D H1 Q:=by
 refine ⟨λi m H=>m=n - i∧i≤n∧∃ys,H D=some (.lst ys)∧P i ys H∧ys.length≤i∧ak H1 H,⟨n,by simp,aaa _,[],ae,mono _ _ _ _ (TK.of (aa hD _)) h0,aa5 _,aa hD _⟩,?_⟩;rintro i m H ⟨rfl,hi,ys,hys,hP,hl,hS⟩;by_cases hlt:i < n
 ·refine .inr ⟨hgo i H hlt hS,λτ v H' hτ hy=>?_⟩;obtain ⟨e1,p,x,y,rfl,hp,hR⟩:=hyld i H v H' hlt hS hy;obtain ⟨a,b,rfl⟩:∃a b,τ=[a,b]:=us2 (P:=λτ=>∃a b,τ=[a,b]) hτ λa b=>⟨a,b,rfl⟩;have hys':=e1 _ _ hys;refine ⟨p,_,rfl,hp,by rw[hc];rfl,_,_,rfl,_,_,rfl,rfl,⟨[some x,some y],rfl,rfl⟩,step i x y ys H' _ _ hlt hR (mono _ _ _ _ (TK.of e1) hP) hl (hS.trans e1) (λH3 q1 q2=>?_) (λy H4 q1 q2=>?_)⟩
  ·exact ⟨n - (i+1),by omega,rfl,hlt,ys,q1 _ _ hys',q2,ae4 hl,(hS.trans e1).trans q1⟩
  ·refine ⟨ys,q1 _ _ hys',by omega,n - (i+1),by omega,rfl,hlt,ys++[y],ae,mono _ _ _ _ (TK.put (q1 _ _ hys') λxs e=>by cases e) q2,?_,((hS.trans e1).trans q1).upd hD _⟩;rw[aa1,aa9];omega
 ·have e:i=n:=by omega
  subst e;exact .inl ⟨hstop H hS,done ys H hP hl hS hys⟩
end L2
namespace Pc
open PySem PySem.Spec L2 PyProof.Rows
end Pc
namespace Pc
open PySem PySem.Spec L2 PyProof.Rows
end Pc
namespace L2
open PySem PySem.Spec PyProof.Rows PySem.SeqAt Pc
section
variable {P:Program} {w:World} {A:Around} {s:Shared} {H:Hp}
end
section
variable {X:Cx}
end
end L2
namespace L2
open PySem
end L2
namespace Pc
open PySem PySem.Spec L2 PyProof.Rows
end Pc
namespace L2
open PySem
theorem Bn {X:Cx} {pos:Pos} (K:PySem.W.Frag) (hK:X.K=K) {a b:Expr} {k:Nat} {t:TGs} (hc:X.calm=true) (h:PGs X [a,b] t) (hn:(assignEach [a,b] X.env).length=2:=by rfl) (hst:(assignEach [a,b] X.env).findIdx? (·.1)=none:=by rfl):PG X (.Tuple [a,b] k pos) (gTup K 2 t):=by
 subst hK;exact Ec hc h hn hst
end L2
namespace L2.Zd
open PySem
abbrev IsZ (h:Heap) (z TI TO:Addr) (f0 f1:Value):Prop:=
 h.get? z=some { cls:=.type "zip",dict:=none,data:=.fields #[f0,f1,.bool false,.ref TI,.ref TO],slots:=#[] }
section
variable {prog:Program} {w:World} {A:Around} {E:Value→Shared→Prop} {s:Shared}
theorem alive {M:Model} {a:Addr} {Q:Option Obj→Shared→Prop} (h:Q (s.heap.get? a) s):wpAny M A (loadIfAlive a) Q E s:=λΓ p hΓ=>by
 unfold loadIfAlive;rw[Sem.wp_loadIfAlive];exact wpAny_pure h Γ p hΓ
theorem Dx {z TI TO T:Addr} {b:Bool} {o:Obj} {Q:Bool→Shared→Prop} (hz:IsZ s.heap z TI TO (rawInt T) (.bool b)) (ho:s.heap.get? T=some o)
  (q:∀h',IsZ h' z TI TO (rawInt T) (.bool true)→Heap.SameBut z s.heap h'→Q false { s with heap:=h' }):wpAny (model prog w) A (Builtin.SmallTypes.ownedTupleIsFree (.ref z)) Q E s:=by
 unfold Builtin.SmallTypes.ownedTupleIsFree;refine wpAny_bind (wpAny_field hz rfl (x:=rawInt T) rfl ?_);show wpAny _ _ (loadIfAlive T >>=_) _ _ _
 refine wpAny_bind (alive ?_);rw[ho];show wpAny _ _ (field (.ref z) 1 >>=_) _ _ _
 refine wpAny_bind (wpAny_field hz rfl (x:=.bool b) rfl ?_);cases b with
 | true=>exact wpAny_pure (q s.heap hz (Heap.SameBut.refl _ _))
 | false=>exact wpAny_bind (wpAny_setField_rec hz (by simp) λh' hz' hs'=>wpAny_pure (q h' hz' hs'))
end
end L2.Zd
namespace L2.Zg
open PySem L2.Zd
def Hf:Bool→Addr→Addr→Array Value→Nat→Heap→Prop
 | false,it,l,xs,k,h=>h.IsListIter it l k∧h.IsList l xs
 | true,it,l,xs,k,h=>h.IsTupleIter it l k∧h.IsTuple l xs
theorem Hf.keep {b:Bool} {it l:Addr} {xs:Array Value} {k:Nat} {h h':Heap} (x:Hf b it l xs k h) (g1:∀o,h.get? it=some o→h'.get? it=some o) (g2:∀o,h.get? l=some o→h'.get? l=some o):Hf b it l xs k h':=by
 cases b
 ·obtain ⟨⟨o,e,r⟩,⟨o',e',r'⟩⟩:=x;exact ⟨⟨o,g1 _ e,r⟩,⟨o',g2 _ e',r'⟩⟩
 ·obtain ⟨⟨o,e,r⟩,⟨o',e',r'⟩⟩:=x;exact ⟨⟨o,g1 _ e,r⟩,⟨o',g2 _ e',r'⟩⟩
section
variable {prog:Program} {w:World} {A:Around} {E:Value→Shared→Prop} {s:Shared}
theorem Hf.next {b:Bool} {it l:Addr} {xs:Array Value} {k:Nat} {v:Value} {Q:Value→Shared→Prop} (x:Hf b it l xs k s.heap) (hne:l≠it) (hx:xs[k]?=some v)
  (hQ:∀h',Hf b it l xs (k+1) h'→Heap.SameBut it s.heap h'→Q v { s with heap:=h' }):wpAny (model prog w) A (Builtin.SmallTypes.nextOf (.ref it)) Q E s:=by
 cases b
 ·obtain ⟨x1,x2⟩:=x;exact wpAny_nextOf_list_item x1 x2 hx λh' a b=>hQ h' ⟨a,x2.extBut b.extBut hne⟩ b
 ·obtain ⟨x1,x2⟩:=x;have ty:=x1.typeIs;obtain ⟨oi,hoi,ci,di⟩:=id x1;obtain ⟨ot,hot,_,nt,dt⟩:=id x2;unfold Builtin.SmallTypes.nextOf;refine wpAny_bind (wpAny_callSpecial?_slot (name:=Str.ofString "__next__") ty F.slot_tuple_iterator_next (wpAny_call_entry F.slot_tuple_iterator_next ty F.entry_tuple_iterator_next ?_ (F.args_tuple_iterator_next_1 _)));show wpAny _ _ (field (.ref it) 0 >>=_) _ _ s
  refine wpAny_bind (wpAny_field hoi di (x:=.ref l) rfl ?_);show wpAny _ _ (if (Value.ref l==Value.none)=true then _ else _) _ _ s
  rw[if_neg (show ¬((Value.ref l==Value.none)=true) from aab)];show wpAny _ _ (field (.ref it) 1 >>=_) _ _ s
  refine wpAny_bind (wpAny_field hoi di (x:=.int k 0) rfl ?_);show wpAny _ _ (seqItems? (.ref l) >>=_) _ _ s
  refine wpAny_bind (wpAny_seqItems hot dt ?_);simp only[ac0,hx];refine wpAny_bind (wpAny_setField hoi di (by simp) (wpAny_pure ⟨v,rfl,wpAny_pure (hQ _ ⟨⟨_,Heap.get?_update_self _ hoi (Obj.isFreed_of_fields (Obj.data_mapFields di _)),(Obj.cls_mapFields ..).trans ci,by rw[Obj.data_mapFields di];simp[rawInt]⟩,x2.extBut (Heap.SameBut.update ..).extBut hne⟩ (Heap.SameBut.update ..))⟩))
theorem Hf.stop {b:Bool} {it l:Addr} {xs:Array Value} {k:Nat} {Q:Value→Shared→Prop} (hh:A.handled=none) (x:Hf b it l xs k s.heap) (hx:xs[k]?=none)
  (hE:∀h' e,Heap.ExtBut it s.heap h'→(∃o,h'.get? e=some o∧o.cls=.type "StopIteration")→E (.ref e) { s with heap:=h' }):wpAny (model prog w) A (Builtin.SmallTypes.nextOf (.ref it)) Q E s:=by
 cases b
 ·obtain ⟨x1,x2⟩:=x;exact wpAny_nextOf_list_end hh x1 x2 hx hE
 ·obtain ⟨x1,x2⟩:=x;have ty:=x1.typeIs;obtain ⟨oi,hoi,ci,di⟩:=id x1;obtain ⟨ot,hot,_,nt,dt⟩:=id x2;unfold Builtin.SmallTypes.nextOf;refine wpAny_bind (wpAny_callSpecial?_slot (name:=Str.ofString "__next__") ty F.slot_tuple_iterator_next (wpAny_call_entry F.slot_tuple_iterator_next ty F.entry_tuple_iterator_next ?_ (F.args_tuple_iterator_next_1 _)));show wpAny _ _ (field (.ref it) 0 >>=_) _ _ s
  refine wpAny_bind (wpAny_field hoi di (x:=.ref l) rfl ?_);show wpAny _ _ (if (Value.ref l==Value.none)=true then _ else _) _ _ s
  rw[if_neg (show ¬((Value.ref l==Value.none)=true) from aab)];show wpAny _ _ (field (.ref it) 1 >>=_) _ _ s
  refine wpAny_bind (wpAny_field hoi di (x:=.int k 0) rfl ?_);show wpAny _ _ (seqItems? (.ref l) >>=_) _ _ s
  refine wpAny_bind (wpAny_seqItems hot dt ?_);simp only[ac0,hx];refine wpAny_bind (wpAny_rule (wpAny_bind (wpAny_setField hoi di (by simp) ?_)));show wpAny _ _ (newExc (.type "StopIteration") [] >>=_) _ _ _
  refine wpAny_bind ?_;simp only[newExc,newTuple];refine wpAny_bind (wpAny_newObj_type ?_ (by size_fits));refine wpAny_bind (m:=firstArgMember _ _) (wpAny_of_eq (a:=Value.none) (by first | rfl | (simp only[firstArgMember];rfl)) ?_);refine wpAny_newObj_type ?_ (by size_fits);simp only[raiseNew];refine wpAny_bind (wpAny_handled ?_);first | rw[show A.in1.handled=none from hh] | rw[hh]
  refine wpAny_bind (wpAny_pure (wpAny_throw ?_));exact hE _ _ (((Heap.SameBut.update ..).extBut.push _).push _) ⟨_,Heap.get?_push_size _ rfl,rfl⟩
theorem free {z TI TO:Addr} {f0:Value} {b:Bool} {Q:Bool→Shared→Prop} (hz:IsZ s.heap z TI TO f0 (.bool b)) (hf:f0=.none∨∃T:Addr,f0=rawInt T)
  (q:∀r h' b',IsZ h' z TI TO f0 (.bool b')→Heap.SameBut z s.heap h'→Q r { s with heap:=h' }):wpAny (model prog w) A (Builtin.SmallTypes.ownedTupleIsFree (.ref z)) Q E s:=by
 rcases hf with rfl | ⟨T,rfl⟩
 ·unfold Builtin.SmallTypes.ownedTupleIsFree;refine wpAny_bind (wpAny_field hz rfl (x:=.none) rfl (wpAny_pure ?_));exact q true s.heap b hz (Heap.SameBut.refl _ _)
 ·cases ho:s.heap.get? T with
  | some o=>exact Dx hz ho λh' a c=>q false h' true a c
  | none=>
   unfold Builtin.SmallTypes.ownedTupleIsFree;refine wpAny_bind (wpAny_field hz rfl (x:=rawInt T) rfl ?_);show wpAny _ _ (loadIfAlive T >>=_) _ _ _
   refine wpAny_bind (alive ?_);rw[ho];exact wpAny_pure (q true s.heap b hz (Heap.SameBut.refl _ _))
end
def Zst (c1 c2:Bool) (z TI TO i1 i2 l1 l2:Addr) (xs ys:Array Value) (i:Nat) (h:Heap):Prop:=
 (∃f0 b,IsZ h z TI TO f0 (.bool b)∧(f0=.none∨∃T:Addr,f0=rawInt T))∧(∃a b,IsPair h TO a b)∧IsPair h TI (.ref i1) (.ref i2)∧Hf c1 i1 l1 xs i h∧Hf c2 i2 l2 ys i h
theorem Zst.keep {c1 c2:Bool} {z TI TO i1 i2 l1 l2:Addr} {xs ys:Array Value} {i:Nat} {h h':Heap} (x:Zst c1 c2 z TI TO i1 i2 l1 l2 xs ys i h) (k:∀c∈[z,TI,TO,i1,i2],∀o,h.get? c=some o→h'.get? c=some o) (k1:∀o,h.get? l1=some o→h'.get? l1=some o) (k2:∀o,h.get? l2=some o→h'.get? l2=some o):Zst c1 c2 z TI TO i1 i2 l1 l2 xs ys i h':=by
 obtain ⟨⟨f0,b,a1,a2⟩,⟨p,q,a3⟩,a4,a5,a6⟩:=x;exact ⟨⟨f0,b,k z (by simp) _ a1,a2⟩,⟨p,q,k TO (by simp) _ a3⟩,k TI (by simp) _ a4,a5.keep (k i1 (by simp)) k1,a6.keep (k i2 (by simp)) k2⟩
section
variable {prog:Program} {w:World} {A:Around} {E:Value→Shared→Prop} {s:Shared} {c1 c2:Bool} {z TI TO i1 i2 l1 l2:Addr} {xs ys:Array Value} {i:Nat}
theorem item {x y:Value} {Q:Value→Shared→Prop} (D:ZipApart z TI TO i1 i2 l1 l2) (hz:Zst c1 c2 z TI TO i1 i2 l1 l2 xs ys i s.heap) (hx:xs[i]?=some x) (hy:ys[i]?=some y)
  (hQ:∀h',Zst c1 c2 z TI TO i1 i2 l1 l2 xs ys (i+1) h'→IsPair h' s.heap.objs.size x y→h'.objs.size=s.heap.objs.size+1→(∀c o,c≠z→c≠TO→c≠i1→c≠i2→s.heap.get? c=some o→h'.get? c=some o)→Q (.ref s.heap.objs.size) { s with heap:=h' }):
  wpAny (model prog w) A (Builtin.«zip.__next__» ⟨[.ref z],[]⟩) (λfin s'=>∃v,fin=.done (.ret v)∧Q v s') E s:=by
 obtain ⟨⟨f0,b,z0,hf⟩,⟨p,q,hTO⟩,hTI,h1,h2⟩:=hz;show wpAny _ _ (field (.ref z) 2 >>=_) _ _ _
 refine wpAny_bind (wpAny_field z0 rfl (x:=.bool false) rfl ?_);show wpAny _ _ (field (.ref z) 3 >>=_) _ _ _
 refine wpAny_bind (wpAny_field z0 rfl (x:=.ref TI) rfl ?_);refine wpAny_bind (wpAny_seqItems hTI rfl ?_);show wpAny _ _ (Builtin.SmallTypes.ownedTupleIsFree (.ref z) >>=_) _ _ _
 refine wpAny_bind (free z0 hf λr h₁ b1 z1 s1=>?_);have k1:∀c o,c≠z→s.heap.get? c=some o→h₁.get? c=some o:=λc o n e=>s1.extBut _ _ n e;have H1:=h1.keep (λo e=>k1 _ o D.i1z e) λo e=>k1 _ o D.l1z e;have H2:=h2.keep (λo e=>k1 _ o D.i2z e) λo e=>k1 _ o D.l2z e;cases r with
 | false=>
  simp only[abj,if_false];refine wpAny_bind ?_;rw[←adz];simp only[acz,ad2];refine wpAny_bind (wpAny_bind (wpAny_holding ?_));show wpAny _ _ (Builtin.SmallTypes.nextOf (.ref i1) >>=_) _ _ _
  refine wpAny_bind (H1.next (s:={ s with heap:=h₁ }) D.l1i1 hx λh₂ H1' s2=>wpAny_pure (wpAny_pure ?_));have s2:Heap.SameBut i1 h₁ h₂:=s2;have H2':=H2.keep (λo e=>s2.extBut _ _ D.i12.symm e) λo e=>s2.extBut _ _ D.l2i1 e;refine wpAny_bind (wpAny_bind (wpAny_holding ?_));show wpAny _ _ (Builtin.SmallTypes.nextOf (.ref i2) >>=_) _ _ _
  refine wpAny_bind (H2'.next (s:={ s with heap:=h₂ }) D.l2i2 hy λh₃ H2'' s3=>wpAny_pure (wpAny_pure (wpAny_pure ?_)));have s3:Heap.SameBut i2 h₂ h₃:=s3;refine wpAny_bind (wpAny_newTuple (hsz:=by show (2:Nat)≤sizeLine;decide) ?_);have sz:h₃.objs.size=s.heap.objs.size:=by rw[s3.1,s2.1,s1.1]
  have up:∀c o,c≠z→c≠i1→c≠i2→s.heap.get? c=some o→(h₃.push { cls:=.type "tuple",data:=.seq #[x,y] }).get? c=some o:=λc o n1 n2 n3 e=>Heap.get?_push_of_some _ (s3.extBut _ _ n3 (s2.extBut _ _ n2 (s1.extBut _ _ n1 e)));refine wpAny_pure ⟨_,rfl,?_⟩;rw[sz];refine hQ _ ⟨⟨f0,b1,Heap.get?_push_of_some _ (s3.extBut _ _ D.i2z.symm (s2.extBut _ _ D.i1z.symm z1)),hf⟩,⟨p,q,up _ _ D.TOz D.TOi1 D.TOi2 hTO⟩,up _ _ D.TIz D.TIi1 D.TIi2 hTI,?_,H2''.keep (λo e=>Heap.get?_push_of_some _ e) λo e=>Heap.get?_push_of_some _ e⟩ ?_ (by rw[Heap.size_push,sz]) λc o n1 _ n3 n4 e=>up c o n1 n3 n4 e
  ·exact H1'.keep (λo e=>Heap.get?_push_of_some _ (s3.extBut _ _ D.i12 e)) λo e=>Heap.get?_push_of_some _ (s3.extBut _ _ D.l1i2 e)
  ·rw[←sz];exact Heap.get?_push_size _ rfl
 | true=>
  simp only[if_true];refine wpAny_bind (wpAny_rule ?_);refine wpAny_bind (wpAny_field z1 rfl (x:=.ref TO) rfl ?_);refine wpAny_bind (wpAny_setField_rec z1 (by simp) λh₂ z2 s2=>?_);replace z2:IsZ h₂ z TI TO .ellipsis (.bool b1):=z2
  have s2:Heap.SameBut z h₁ h₂:=s2;refine wpAny_bind ?_;simp only[ae8,aee,acz,ad2];have H1a:=H1.keep (λo e=>s2.extBut _ _ D.i1z e) λo e=>s2.extBut _ _ D.l1z e;have H2a:=H2.keep (λo e=>s2.extBut _ _ D.i2z e) λo e=>s2.extBut _ _ D.l2z e;refine wpAny_bind (wpAny_bind (wpAny_onRaise ?_));show wpAny _ _ (Builtin.SmallTypes.nextOf (.ref i1) >>=_) _ _ _
  refine wpAny_bind (H1a.next (s:={ s with heap:=h₂ }) D.l1i1 hx λh₃ H1b s3=>wpAny_pure ?_);have s3:Heap.SameBut i1 h₂ h₃:=s3;have o3:IsPair h₃ TO p q:=s3.extBut _ _ D.TOi1 (s2.extBut _ _ D.TOz (k1 _ _ D.TOz hTO));refine wpAny_bind (wpAny_seqItems o3 rfl ?_);refine wpAny_bind (wpAny_updateSeq_pair o3 λh₄ o4 s4=>?_);replace o4:IsPair h₄ TO x q:=o4
  have s4:Heap.SameBut TO h₃ h₄:=s4;refine wpAny_bind (wpAny_letGo (wpAny_pure ?_));have H2b:=H2a.keep (λo e=>s4.extBut _ _ D.TOi2.symm (s3.extBut _ _ D.i12.symm e)) λo e=>s4.extBut _ _ D.l2TO (s3.extBut _ _ D.l2i1 e);refine wpAny_bind (wpAny_bind (wpAny_onRaise ?_));show wpAny _ _ (Builtin.SmallTypes.nextOf (.ref i2) >>=_) _ _ _
  refine wpAny_bind (H2b.next (s:={ s with heap:=h₄ }) D.l2i2 hy λh₅ H2c s5=>wpAny_pure ?_);have s5:Heap.SameBut i2 h₄ h₅:=s5;have o5:IsPair h₅ TO x q:=s5.extBut _ _ D.TOi2 o4;refine wpAny_bind (wpAny_seqItems o5 rfl ?_);refine wpAny_bind (wpAny_updateSeq_pair o5 λh₆ o6 s6=>?_);replace o6:IsPair h₆ TO x y:=o6
  have s6:Heap.SameBut TO h₅ h₆:=s6;refine wpAny_bind (wpAny_letGo (wpAny_pure (wpAny_pure ?_)));refine wpAny_bind (wpAny_seqItems o6 rfl ?_);refine wpAny_bind (wpAny_newTuple ?_);have sz:h₆.objs.size=s.heap.objs.size:=by rw[s6.1,s5.1,s4.1,s3.1,s2.1,s1.1]
  have z6:IsZ h₆ z TI TO .ellipsis (.bool b1):=s6.extBut _ _ D.TOz.symm (s5.extBut _ _ D.i2z.symm (s4.extBut _ _ D.TOz.symm (s3.extBut _ _ D.i1z.symm z2)));have up:∀c o,c≠z→c≠TO→c≠i1→c≠i2→s.heap.get? c=some o→h₆.get? c=some o:=λc o n1 n2 n3 n4 e=>s6.extBut _ _ n2 (s5.extBut _ _ n4 (s4.extBut _ _ n2 (s3.extBut _ _ n3 (s2.extBut _ _ n1 (k1 _ _ n1 e)))));have H1c:=H1b.keep (λo e=>s6.extBut _ _ D.TOi1.symm (s5.extBut _ _ D.i12 (s4.extBut _ _ D.TOi1.symm e))) λo e=>s6.extBut _ _ D.l1TO (s5.extBut _ _ D.l1i2 (s4.extBut _ _ D.l1TO e));have H2d:=H2c.keep (λo e=>s6.extBut _ _ D.TOi2.symm e) λo e=>s6.extBut _ _ D.l2TO e;have zl:z < h₆.objs.size:=Heap.lt_size z6;show wpAny _ _ (Builtin.SmallTypes.ownedTupleHandOut (.ref z) (.ref h₆.objs.size) >>=_) _ _ _
  refine wpAny_bind ?_;unfold Builtin.SmallTypes.ownedTupleHandOut;have z7:IsZ (h₆.push { cls:=.type "tuple",data:=.seq #[x,y] }) z TI TO .ellipsis (.bool b1):=Heap.get?_push_of_some _ z6;refine wpAny_bind (wpAny_setField_rec z7 (by simp) λh₈ z8 s8=>?_);replace z8:IsZ h₈ z TI TO (rawInt h₆.objs.size) (.bool b1):=z8
  refine wpAny_setField_rec z8 (by simp) λh₉ z9 s9=>?_;replace z9:IsZ h₉ z TI TO (rawInt h₆.objs.size) (.bool false):=z9
  have u9:∀c o,c≠z→h₆.get? c=some o→h₉.get? c=some o:=λc o n e=>s9.extBut _ _ n (s8.extBut _ _ n (Heap.get?_push_of_some _ e));have t9:IsPair h₉ h₆.objs.size x y:=s9.extBut _ _ (ab2 zl) (s8.extBut _ _ (ab2 zl) (Heap.get?_push_size _ rfl));have n9:h₉.objs.size=h₆.objs.size+1:=by rw[s9.1,s8.1,Heap.size_push]
  rw[sz] at z9 t9 n9;refine wpAny_pure ⟨_,rfl,?_⟩;show Q (.ref h₆.objs.size) _
  rw[sz];exact hQ h₉ ⟨⟨_,false,z9,.inr ⟨_,rfl⟩⟩,⟨x,y,u9 _ _ D.TOz o6⟩,u9 _ _ D.TIz (up _ _ D.TIz D.TITO D.TIi1 D.TIi2 hTI),H1c.keep (λo e=>u9 _ o D.i1z e) λo e=>u9 _ o D.l1z e,H2d.keep (λo e=>u9 _ o D.i2z e) λo e=>u9 _ o D.l2z e⟩ t9 n9 λc o n1 n2 n3 n4 e=>u9 c o n1 (up c o n1 n2 n3 n4 e)
theorem fin {Q:Fin→Shared→Prop} (hh:A.handled=none) (D:ZipApart z TI TO i1 i2 l1 l2) (hz:Zst c1 c2 z TI TO i1 i2 l1 l2 xs ys i s.heap) (hx:xs[i]?=none)
  (hE:∀h' e,(∀c o,c≠z→c≠TO→c≠i1→c≠i2→s.heap.get? c=some o→h'.get? c=some o)→(∃o,h'.get? e=some o∧o.cls=.type "StopIteration")→E (.ref e) { s with heap:=h' }):
  wpAny (model prog w) A (Builtin.«zip.__next__» ⟨[.ref z],[]⟩) Q E s:=by
 obtain ⟨⟨f0,b,z0,hf⟩,⟨p,q,hTO⟩,hTI,h1,h2⟩:=hz;show wpAny _ _ (field (.ref z) 2 >>=_) _ _ _
 refine wpAny_bind (wpAny_field z0 rfl (x:=.bool false) rfl ?_);show wpAny _ _ (field (.ref z) 3 >>=_) _ _ _
 refine wpAny_bind (wpAny_field z0 rfl (x:=.ref TI) rfl ?_);refine wpAny_bind (wpAny_seqItems hTI rfl ?_);show wpAny _ _ (Builtin.SmallTypes.ownedTupleIsFree (.ref z) >>=_) _ _ _
 refine wpAny_bind (free z0 hf λr h₁ b1 z1 s1=>?_);have k1:∀c o,c≠z→s.heap.get? c=some o→h₁.get? c=some o:=λc o n e=>s1.extBut _ _ n e;have H1:=h1.keep (λo e=>k1 _ o D.i1z e) λo e=>k1 _ o D.l1z e;cases r with
 | false=>
  simp only[abj,if_false];refine wpAny_bind ?_;rw[←adz];simp only[acz,ad2];refine wpAny_bind (wpAny_bind (wpAny_holding ?_));show wpAny _ _ (Builtin.SmallTypes.nextOf (.ref i1) >>=_) _ _ _
  exact wpAny_bind (H1.stop (s:={ s with heap:=h₁ }) hh hx λh₂ e s2 he=>hE h₂ e (λc o n1 _ n3 _ g=>s2 _ _ n3 (k1 _ _ n1 g)) he)
 | true=>
  simp only[if_true];refine wpAny_bind (wpAny_rule ?_);refine wpAny_bind (wpAny_field z1 rfl (x:=.ref TO) rfl ?_);refine wpAny_bind (wpAny_setField_rec z1 (by simp) λh₂ z2 s2=>?_);replace z2:IsZ h₂ z TI TO .ellipsis (.bool b1):=z2
  have s2:Heap.SameBut z h₁ h₂:=s2;refine wpAny_bind ?_;simp only[ae8,aee,acz,ad2];have H1a:=H1.keep (λo e=>s2.extBut _ _ D.i1z e) λo e=>s2.extBut _ _ D.l1z e;refine wpAny_bind (wpAny_bind (wpAny_onRaise ?_));show wpAny _ _ (Builtin.SmallTypes.nextOf (.ref i1) >>=_) _ _ _
  refine wpAny_bind (H1a.stop (s:={ s with heap:=h₂ }) hh hx λh₃ e s3 he=>?_);obtain ⟨oe,hoe,hce⟩:=he;have z3:IsZ h₃ z TI TO .ellipsis (.bool b1):=s3 _ _ D.i1z.symm z2;have hez:e≠z:=λx=>by subst x;rw[z3] at hoe;cases hoe;simp at hce
  exact wpAny_setField_rec z3 (by simp) λh₄ _ s4=>hE h₄ e (λc o n1 _ n3 _ g=>s4.extBut _ _ n1 (s3 _ _ n3 (s2.extBut _ _ n1 (k1 _ _ n1 g)))) ⟨oe,s4.extBut _ _ hez hoe,hce⟩
theorem pyItem {x y:Value} {Q:Option Value→Shared→Prop} (D:ZipApart z TI TO i1 i2 l1 l2) (hz:Zst c1 c2 z TI TO i1 i2 l1 l2 xs ys i s.heap) (hx:xs[i]?=some x) (hy:ys[i]?=some y)
  (hQ:∀h',Zst c1 c2 z TI TO i1 i2 l1 l2 xs ys (i+1) h'→IsPair h' s.heap.objs.size x y→h'.objs.size=s.heap.objs.size+1→(∀c o,c≠z→c≠TO→c≠i1→c≠i2→s.heap.get? c=some o→h'.get? c=some o)→Q (some (.ref s.heap.objs.size)) { s with heap:=h' }):
  wpAny (model prog w) A (pyNext (.ref z)) Q E s:=by
 have hT:s.TypeIs (.ref z) "zip":=by obtain ⟨⟨f0,b,z0,_⟩,_⟩:=hz;exact ⟨_,z0,rfl⟩
 unfold pyNext;exact wpAny_bind (wpAny_attempt (wpAny_callSpecial?_slot (name:=Str.ofString "__next__") hT F.slot_zip_next (wpAny_call_entry F.slot_zip_next hT F.entry_zip_next (item D hz hx hy λh' a b c d=>wpAny_pure (hQ h' a b c d)) (F.args_zip_next_1 _))))
theorem pyFin {Q:Option Value→Shared→Prop} (hh:A.handled=none) (D:ZipApart z TI TO i1 i2 l1 l2) (hz:Zst c1 c2 z TI TO i1 i2 l1 l2 xs ys i s.heap) (hx:xs[i]?=none)
  (hQ:∀h',(∀c o,c≠z→c≠TO→c≠i1→c≠i2→s.heap.get? c=some o→h'.get? c=some o)→Q none { s with heap:=h' }):wpAny (model prog w) A (pyNext (.ref z)) Q E s:=by
 have hT:s.TypeIs (.ref z) "zip":=by obtain ⟨⟨f0,b,z0,_⟩,_⟩:=hz;exact ⟨_,z0,rfl⟩
 unfold pyNext;refine wpAny_bind (wpAny_attempt (wpAny_callSpecial?_slot (name:=Str.ofString "__next__") hT F.slot_zip_next (wpAny_call_entry F.slot_zip_next hT F.entry_zip_next (fin (by first | exact hh | simp[hh]) D hz hx λh' e hk he=>?_) (F.args_zip_next_1 _))));obtain ⟨o,ho,hc⟩:=he;refine wpAny_bind (wpAny_isInstance (T:="StopIteration") (b:=true) ⟨o,ho,hc⟩ isSubtype_stop ?_);exact wpAny_pure (hQ _ hk)
theorem pySelf {Q:Value→Shared→Prop} (hz:Zst c1 c2 z TI TO i1 i2 l1 l2 xs ys i s.heap) (h:Q (.ref z) s):wpAny (model prog w) A (pyIter (.ref z)) Q E s:=by
 have hT:s.TypeIs (.ref z) "zip":=by obtain ⟨⟨f0,b,z0,_⟩,_⟩:=hz;exact ⟨_,z0,rfl⟩
 refine wpAny_pyIter_slot hT F.slot_zip_iter (wpAny_call_entry F.slot_zip_iter hT F.entry_zip_iter ?_ (F.args_zip_iter_1 _));show wpAny _ _ (ret (.ref z)) _ _ s
 exact wpAny_pure ⟨_,rfl,"zip",_,hT,F.slot_zip_next.lookup,h⟩
end
end L2.Zg
namespace L2.Zg
open PySem L2.Zd
theorem new_tl (l1 l2:Addr) (xs ys:Array Value):
  Meets (Builtin.«zip.__new__» ⟨[.type "zip",.ref l1,.ref l2],[]⟩) (λ_ R s=>s.heap.IsTuple l1 xs∧s.heap.IsList l2 ys∧
   R (.ok (.ret (.ref (s.heap.objs.size+4)))) { s with heap:=((((s.heap.push { cls:=.type "tuple_iterator",data:=.fields #[.ref l1,.int 0 0] }).push { cls:=.type "list_iterator",data:=.fields #[.ref l2,.int 0 0] }).push { cls:=.type "tuple",data:=.seq #[.ref s.heap.objs.size,.ref (s.heap.objs.size+1)] }).push { cls:=.type "tuple",data:=.seq #[.none,.none] }).push { cls:=.type "zip",data:=.fields #[.none,.bool false,.bool false,.ref (s.heap.objs.size+2),.ref (s.heap.objs.size+3)] } }):=
 .of_wp λprog w A R s h=>by
  obtain ⟨hp,g,d,tk,os⟩:=s;obtain ⟨hl1,hl2,h⟩:=h;have hsub:=sub_zip;have hL1:Heap.IsTuple (Shared.heap ⟨hp,g,d,tk,os⟩) l1 xs:=hl1;have hL2:Heap.IsList (Shared.heap ⟨hp.push { cls:=.type "tuple_iterator",data:=.fields #[.ref l1,.int 0 0] },g,d,tk,os⟩) l2 ys:=Heap.IsList.push hl2 _;simp only[←Heap.size_push] at h;wp_walk using wpAny_pyIter_tuple hL1,wpAny_pyIter_list hL2
  simp only[Heap.size_push] at h ⊢;exact ⟨_,rfl,h⟩
section
variable {prog:Program} {w:World} {A:Around} {E:Value→Shared→Prop} {s:Shared}
theorem Iu {l1 l2:Addr} {xs ys:Array Value} {Q:Value→Shared→Prop} (hl1:s.heap.IsTuple l1 xs) (hl2:s.heap.IsList l2 ys)
  (h:∀h',Zst true false (s.heap.objs.size+4) (s.heap.objs.size+2) (s.heap.objs.size+3) s.heap.objs.size (s.heap.objs.size+1) l1 l2 xs ys 0 h'→h'.objs.size=s.heap.objs.size+5→
   (∀c o,s.heap.get? c=some o→h'.get? c=some o)→Q (.ref (s.heap.objs.size+4)) { s with heap:=h' }):
  wpAny (model prog w) A (call (.type "zip") [.ref l1,.ref l2]) Q E s:=by
 refine callType_new F.called_zip (by decide) (F.typeCall_zip_2 _ _) (F.newCall_zip_2 _ _) (λobj=>F.args_object_init_3 obj _ _) F.entry_zip_new (new_tl l1 l2 xs ys) ⟨hl1,hl2,?_⟩;generalize hn:s.heap.objs.size=n at h ⊢;have e1:(s.heap.push { cls:=.type "tuple_iterator",data:=.fields #[.ref l1,.int 0 0] }).get? n=some { cls:=.type "tuple_iterator",data:=.fields #[.ref l1,.int 0 0] }:=by rw[←hn];exact Heap.get?_push_size _ rfl
 have n1:(s.heap.push { cls:=.type "tuple_iterator",data:=.fields #[.ref l1,.int 0 0] }).objs.size=n+1:=by rw[Heap.size_push,hn]
 have k1:∀c o,s.heap.get? c=some o→(s.heap.push { cls:=.type "tuple_iterator",data:=.fields #[.ref l1,.int 0 0] }).get? c=some o:=λc o e=>Heap.get?_push_of_some _ e;generalize s.heap.push { cls:=.type "tuple_iterator",data:=.fields #[.ref l1,.int 0 0] }=h1 at e1 n1 k1 ⊢;have e2:(h1.push { cls:=.type "list_iterator",data:=.fields #[.ref l2,.int 0 0] }).get? (n+1)=some { cls:=.type "list_iterator",data:=.fields #[.ref l2,.int 0 0] }:=by rw[←n1];exact Heap.get?_push_size _ rfl
 have n2:(h1.push { cls:=.type "list_iterator",data:=.fields #[.ref l2,.int 0 0] }).objs.size=n+2:=by rw[Heap.size_push,n1]
 have k2:∀c o,h1.get? c=some o→(h1.push { cls:=.type "list_iterator",data:=.fields #[.ref l2,.int 0 0] }).get? c=some o:=λc o e=>Heap.get?_push_of_some _ e;generalize h1.push { cls:=.type "list_iterator",data:=.fields #[.ref l2,.int 0 0] }=h2 at e2 n2 k2 ⊢;have e3:(h2.push { cls:=.type "tuple",data:=.seq #[.ref n,.ref (n+1)] }).get? (n+2)=some { cls:=.type "tuple",data:=.seq #[.ref n,.ref (n+1)] }:=by rw[←n2];exact Heap.get?_push_size _ rfl
 have n3:(h2.push { cls:=.type "tuple",data:=.seq #[.ref n,.ref (n+1)] }).objs.size=n+3:=by rw[Heap.size_push,n2]
 have k3:∀c o,h2.get? c=some o→(h2.push { cls:=.type "tuple",data:=.seq #[.ref n,.ref (n+1)] }).get? c=some o:=λc o e=>Heap.get?_push_of_some _ e;generalize h2.push { cls:=.type "tuple",data:=.seq #[.ref n,.ref (n+1)] }=h3 at e3 n3 k3 ⊢;have e4:(h3.push { cls:=.type "tuple",data:=.seq #[.none,.none] }).get? (n+3)=some { cls:=.type "tuple",data:=.seq #[.none,.none] }:=by rw[←n3];exact Heap.get?_push_size _ rfl
 have n4:(h3.push { cls:=.type "tuple",data:=.seq #[.none,.none] }).objs.size=n+4:=by rw[Heap.size_push,n3]
 have k4:∀c o,h3.get? c=some o→(h3.push { cls:=.type "tuple",data:=.seq #[.none,.none] }).get? c=some o:=λc o e=>Heap.get?_push_of_some _ e;generalize h3.push { cls:=.type "tuple",data:=.seq #[.none,.none] }=h4 at e4 n4 k4 ⊢;have e5:(h4.push { cls:=.type "zip",data:=.fields #[.none,.bool false,.bool false,.ref (n+2),.ref (n+3)] }).get? (n+4)=some { cls:=.type "zip",data:=.fields #[.none,.bool false,.bool false,.ref (n+2),.ref (n+3)] }:=by rw[←n4];exact Heap.get?_push_size _ rfl
 have n5:(h4.push { cls:=.type "zip",data:=.fields #[.none,.bool false,.bool false,.ref (n+2),.ref (n+3)] }).objs.size=n+5:=by rw[Heap.size_push,n4]
 have k5:∀c o,h4.get? c=some o→(h4.push { cls:=.type "zip",data:=.fields #[.none,.bool false,.bool false,.ref (n+2),.ref (n+3)] }).get? c=some o:=λc o e=>Heap.get?_push_of_some _ e;generalize h4.push { cls:=.type "zip",data:=.fields #[.none,.bool false,.bool false,.ref (n+2),.ref (n+3)] }=h5 at e5 n5 k5 ⊢;have up:∀c o,s.heap.get? c=some o→h5.get? c=some o:=λc o e=>k5 _ _ (k4 _ _ (k3 _ _ (k2 _ _ (k1 _ _ e))));obtain ⟨o1,g1,r1⟩:=hl1;obtain ⟨o2,g2,r2⟩:=hl2;exact ⟨⟨_,e5,rfl⟩,h _ ⟨⟨.none,false,e5,.inl rfl⟩,⟨_,_,k5 _ _ e4⟩,k5 _ _ (k4 _ _ e3),⟨⟨_,k5 _ _ (k4 _ _ (k3 _ _ (k2 _ _ e1))),rfl,rfl⟩,⟨o1,up _ _ g1,r1⟩⟩,⟨⟨_,k5 _ _ (k4 _ _ (k3 _ _ e2)),rfl,rfl⟩,⟨o2,up _ _ g2,r2⟩⟩⟩ n5 up⟩
theorem Gb {l1 l2:Addr} {xs ys:Array Value} {Q:Value→Shared→Prop} (hl1:s.heap.IsList l1 xs) (hl2:s.heap.IsList l2 ys)
  (h:∀h',Zst false false (s.heap.objs.size+4) (s.heap.objs.size+2) (s.heap.objs.size+3) s.heap.objs.size (s.heap.objs.size+1) l1 l2 xs ys 0 h'→h'.objs.size=s.heap.objs.size+5→
   (∀c o,s.heap.get? c=some o→h'.get? c=some o)→Q (.ref (s.heap.objs.size+4)) { s with heap:=h' }):
  wpAny (model prog w) A (call (.type "zip") [.ref l1,.ref l2]) Q E s:=
 call_zip_2 hl1 hl2 λh' a1 a2 a3 a4 a5 a6 keep=>h h' ⟨⟨.none,false,a1,.inl rfl⟩,⟨_,_,a3⟩,a2,⟨a4,hl1.at λo e=>keep _ o e⟩,⟨a5,hl2.at λo e=>keep _ o e⟩⟩ a6 keep
end
structure Mk (xs ys:Array Value) (lo:Addr) (h:Heap) (as:List Addr):Prop where
 nd:as.Nodup
 up:∀a∈as,lo < a
 at':∀(j:Nat) (a:Addr),as[j]?=some a→∃x y,xs[j]?=some x∧ys[j]?=some y∧IsPair h a x y
section
variable {prog:Program} {w:World} {A:Around} {s:Shared} {R:Result→Shared→Prop} {c1 c2:Bool} {z TI TO i1 i2 l1 l2 S:Addr} {xs ys:Array Value}
theorem loop (hh:A.handled=none) (D:ZipApart z TI TO i1 i2 l1 l2) (hS:S∉[z,TI,TO,i1,i2,l1,l2]) (lo:Addr) (hlo:z≤lo∧TO≤lo∧i1≤lo∧i2≤lo∧S≤lo) (hn:xs.size=ys.size) (hz:xs.size≤sizeLine) (res:Value) {h₁:Heap}
  (hR:∀h' tk acc c as,(∀b o,b∉[S,z,TO,i1,i2]→h₁.get? b=some o→h'.get? b=some o)→h'.get? S=some { cls:=.type "list",dict:=none,data:=.seq acc c,slots:=#[] }→as.length=xs.size→Mk xs ys lo h' as→
   acc.toList=as.map Value.ref→R (.ok (.ret res)) { s with heap:=h',toks:=tk }):
  ∀(k i:Nat) (h:Heap) (tk c:Nat) (acc:Array Value) (as:List Addr),xs.size - i=k→i≤xs.size→Zst c1 c2 z TI TO i1 i2 l1 l2 xs ys i h→(∀b o,b∉[S,z,TO,i1,i2]→h₁.get? b=some o→h.get? b=some o)→
   h.get? S=some { cls:=.type "list",dict:=none,data:=.seq acc c,slots:=#[] }→acc.toList=as.map Value.ref→as.length=i→Mk xs ys lo h as→lo < h.objs.size→
   codeAny (model prog w) A (.builtin "list.extend.loop" ⟨[.ref S,.ref z,res],[]⟩) R { s with heap:=h,toks:=tk }:=by
 simp only[aag,aa4,or_false,not_or] at hS;obtain ⟨Sz,STI,STO,S1,S2,Sl1,Sl2⟩:=hS;intro k;induction k with
 | zero=>
  intro i h tk c acc as hk hi hst hkeep hSl hacc hal hG hIs;refine codeAny_builtin PySem.F.entry_extend_loop ?_;rw[Around.under_plainId PySem.F.plain_extend_loop _];show wpAny _ A.in1 (pyNext (.ref z) >>=_) _ _ _
  refine wpAny_bind (pyFin (s:={ s with heap:=h,toks:=tk }) (A:=A.in1) hh D hst (Array.getElem?_eq_none (by omega)) λh' he=>?_);refine wpAny_pure (hR h' tk acc c as (λb o hb e=>?_) (he S _ Sz STO S1 S2 hSl) (by omega) ⟨hG.nd,hG.up,λj a hj=>?_⟩ hacc)
  ·have hb':=hb;simp only[aag,aa4,or_false,not_or] at hb';exact he b o hb'.2.1 hb'.2.2.1 hb'.2.2.2.1 hb'.2.2.2.2 (hkeep b o hb e)
  ·obtain ⟨x,y,g1,g2,g3⟩:=hG.at' j a hj;have u:=hG.up a (aad hj);have ne:∀{c:Addr},c≤lo→a≠c:=λq=>ab2 (ach q u);exact ⟨x,y,g1,g2,he a _ (ne hlo.1) (ne hlo.2.1) (ne hlo.2.2.1) (ne hlo.2.2.2.1) g3⟩
 | succ k ih=>
  intro i h tk c acc as hk hi hst hkeep hSl hacc hal hG hIs;have hlt:i < xs.size:=by omega
  have hsz:acc.size=i:=by rw[←abx,hacc,aa0,hal]
  refine codeAny_builtin PySem.F.entry_extend_loop ?_;rw[Around.under_plainId PySem.F.plain_extend_loop _];show wpAny _ A.in1 (pyNext (.ref z) >>=_) _ _ _
  refine wpAny_bind (pyItem (s:={ s with heap:=h,toks:=tk }) D hst (abd hlt) (abd (by omega)) λh' hst' ht hz' hkp=>?_);dsimp only at ht hz' hkp ⊢;have hS':=hkp S _ Sz STO S1 S2 hSl;have up:∀b o,b≠S→h'.get? b=some o→(h'.update S (Obj.mapSeq (·.push (Value.ref h.objs.size)))).get? b=some o:=λb o hb e=>(Heap.get?_update_other _ _ (Ne.symm hb)).trans e;have hSs:S < h.objs.size:=Heap.lt_size hSl;show wpAny _ A.in1 (updateSeq S (·.push (Value.ref h.objs.size)) >>=_) _ _ _
  refine wpAny_bind ?_;refine wpAny_updateSeq hS' rfl (wpAny_pure ⟨plainId_quiet PySem.F.plain_extend_loop _,ih (i+1) _ tk _ (acc.push (Value.ref h.objs.size)) (as++[h.objs.size]) (by omega) hlt
   (hst'.keep (λb hb o e=>up b o (λx=>by subst x;simp only[aag,aa4,or_false] at hb;rcases hb with q | q | q | q | q <;> exact absurd q (by assumption)) e) (λo e=>up _ o (Ne.symm Sl1) e) λo e=>up _ o (Ne.symm Sl2) e)
   (λb o hb e=>?_) (Heap.get?_update_self _ hS' rfl) (by rw[Array.toList_push,hacc,aa8];rfl) (by rw[aa1,hal];rfl) ⟨?_,?_,?_⟩ ?_⟩) (by rw[hsz];omega) (by show (acc.push (Value.ref h.objs.size)).size≤sizeLine+1;rw[Array.size_push,hsz];omega)
  ·have hb':=hb;simp only[aag,aa4,or_false,not_or] at hb';exact up b o hb'.1 (hkp b o hb'.2.1 hb'.2.2.1 hb'.2.2.2.1 hb'.2.2.2.2 (hkeep b o hb e))
  ·refine List.nodup_append.mpr ⟨hG.nd,(by simp),λa ha b hb=>?_⟩;rw[List.mem_singleton.mp hb];obtain ⟨j,hj⟩:=List.mem_iff_getElem?.mp ha;obtain ⟨_,_,_,_,e3⟩:=hG.at' j a hj;exact aap (Heap.lt_size e3)
  ·intro a ha;rcases List.mem_append.mp ha with ha | ha
   ·exact hG.up a ha
   ·rw[List.mem_singleton.mp ha];exact hIs
  ·intro j b hj;rcases Nat.lt_trichotomy j as.length with g | g | g
   ·rw[aao g] at hj;obtain ⟨x,y,e1,e2,e3⟩:=hG.at' j b hj;have u:=hG.up b (aad hj);have ne:∀{c:Addr},c≤lo→b≠c:=λq=>ab2 (ach q u);exact ⟨x,y,e1,e2,up b _ (ne hlo.2.2.2.2) (hkp b _ (ne hlo.1) (ne hlo.2.1) (ne hlo.2.2.1) (ne hlo.2.2.2.1) e3)⟩
   ·subst g;have hb:h.objs.size=b:=by simpa using hj
    subst hb;exact ⟨_,_,by rw[hal];exact abd hlt,by rw[hal];exact abd (by omega),up _ _ (ab2 hSs) ht⟩
   ·have hnone:(as++[h.objs.size])[j]?=none:=abi (by rw[aa1,aa9];omega);rw[hnone] at hj;cases hj
  ·rw[Heap.size_update,hz'];exact ac3 hIs
end
theorem x6:typeLookup (.type "zip") "__len__"=pure none:=by rw[typeLookup_type,builtinLookup_eq_fast];kernel_rfl
theorem Ic:typeLookup (.type "zip") "__length_hint__"=pure none:=by rw[typeLookup_type,builtinLookup_eq_fast];kernel_rfl
section
variable {prog:Program} {w:World} {A:Around} {E:Value→Shared→Prop} {s:Shared} {c1 c2:Bool} {z TI TO i1 i2 l1 l2:Addr} {xs ys:Array Value}
theorem extend {R:Result→Shared→Prop} (hh:A.handled=none) (D:ZipApart z TI TO i1 i2 l1 l2) (hz:Zst c1 c2 z TI TO i1 i2 l1 l2 xs ys 0 s.heap) (S:Addr) (hS:S∉[z,TI,TO,i1,i2,l1,l2]) (lo:Addr) (hlo:z≤lo∧TO≤lo∧i1≤lo∧i2≤lo∧S≤lo) (hls:lo < s.heap.objs.size) (hn:xs.size=ys.size) (hsz:xs.size≤sizeLine) (res:Value) (c₀:Nat) (hSl:s.heap.get? S=some { cls:=.type "list",data:=.seq #[] c₀ })
  (hR:∀h' tk acc c as,(∀b o,b∉[S,z,TO,i1,i2]→s.heap.get? b=some o→h'.get? b=some o)→h'.get? S=some { cls:=.type "list",dict:=none,data:=.seq acc c,slots:=#[] }→as.length=xs.size→Mk xs ys lo h' as→
   acc.toList=as.map Value.ref→R (.ok (.ret res)) { s with heap:=h',toks:=tk }):
  wpAny (model prog w) A.in1 (Builtin.List.listExtendWith (.ref S) (.ref z) res)
   (λfin s'=>match fin with | .done f=>R (.ok f) s' | .again c'=>c'.quiet=true∧codeAny (model prog w) A c' R s') (λe s'=>R (.error e) s') s:=by
 have hT:s.TypeIs (.ref z) "zip":=by obtain ⟨⟨f0,b,z0,_⟩,_⟩:=hz;exact ⟨_,z0,rfl⟩
 have hSz:S≠z:=λe=>hS (by simp[e]);unfold Builtin.List.listExtendWith;refine wpAny_bind (wpAny_typeOf hT ?_);have h1:Builtin.List.listSameRef (.ref S) (.ref z)=false:=by simp[Builtin.List.listSameRef,hSz]
 have h2:(Value.type "zip"==Value.type "list")=false:=by decide
 have h3:(Value.type "zip"==Value.type "tuple")=false:=by decide
 simp only[h1,h2,h3,ad6,abj,if_false];refine wpAny_bind (pySelf hz ?_);refine wpAny_bind (wpAny_holding ?_);unfold Builtin.List.listLengthHint;refine wpAny_bind (wpAny_specialOf hT x6 ?_);show wpAny _ A.in1 (specialOf (Value.ref z) (Str.ofString "__length_hint__") >>=_) _ _ _
 refine wpAny_bind (wpAny_specialOf hT Ic ?_);refine wpAny_pure ?_;show wpAny _ A.in1 (rule "list.extend.makes-room" >>=λ_=>Builtin.List.listTouch (.ref S) >>=λ_=>again (.builtin "list.extend.loop" ⟨[.ref S,.ref z,res],[]⟩)) _ _ _
 refine wpAny_bind (wpAny_rule ?_);refine wpAny_bind ?_;show wpAny _ A.in1 (updateSeq S (·.push .none) >>=λ_=>updateSeq S (·.pop)) _ _ _
 refine wpAny_bind (wpAny_updateSeq hSl rfl ?_);have hS₂:=Heap.get?_update_self (Obj.mapSeq (·.push Value.none)) hSl rfl;refine wpAny_updateSeq (hz:=by seq_fits) hS₂ rfl ?_;have hS₃:=Heap.get?_update_self (Obj.mapSeq (·.pop)) hS₂ rfl;have oth:∀b o,b≠S→s.heap.get? b=some o→((s.heap.update S (Obj.mapSeq (·.push Value.none))).update S (Obj.mapSeq (·.pop))).get? b=some o:=λb o hb e=>(Heap.get?_update_other _ _ (Ne.symm hb)).trans ((Heap.get?_update_other _ _ (Ne.symm hb)).trans e);have hS':=hS;simp only[aag,aa4,or_false,not_or] at hS';refine wpAny_pure ⟨plainId_quiet PySem.F.plain_extend_loop _,loop (s:=s) (h₁:=s.heap) hh D hS lo hlo hn hsz res hR xs.size 0 _ _ _ #[] [] (aci _) (aaa _) (hz.keep (λb hb o e=>oth b o (λx=>?_) e) (λo e=>oth _ o (Ne.symm hS'.2.2.2.2.2.1) e) λo e=>oth _ o (Ne.symm hS'.2.2.2.2.2.2) e) (λb o hb e=>oth b o (λx=>hb (by simp[x])) e) hS₃ rfl rfl ⟨List.nodup_nil,(λ_ ha=>nomatch ha),(λj a hj=>by simp at hj)⟩ ?_⟩
 ·subst x;simp only[aag,aa4,or_false] at hb;rcases hb with q | q | q | q | q
  ·exact hS'.1 q
  ·exact hS'.2.1 q
  ·exact hS'.2.2.1 q
  ·exact hS'.2.2.2.1 q
  ·exact hS'.2.2.2.2.1 q
 ·rw[Heap.size_update,Heap.size_update];exact hls
theorem Gh {Q:Value→Shared→Prop} (hh:A.handled=none) (D:ZipApart z TI TO i1 i2 l1 l2) (hz:Zst c1 c2 z TI TO i1 i2 l1 l2 xs ys 0 s.heap) (hlt:∀b∈[z,TI,TO,i1,i2,l1,l2],b < s.heap.objs.size) (hn:xs.size=ys.size) (hsz:xs.size≤sizeLine)
  (hQ:∀h' tk acc c as,(∀b o,b∉[z,TO,i1,i2]→s.heap.get? b=some o→h'.get? b=some o)→h'.get? s.heap.objs.size=some { cls:=.type "list",dict:=none,data:=.seq acc c,slots:=#[] }→as.length=xs.size→Mk xs ys s.heap.objs.size h' as→
   acc.toList=as.map Value.ref→Q (.ref s.heap.objs.size) { s with heap:=h',toks:=tk }):
  wpAny (model prog w) A (call (.type "list") [.ref z]) Q E s:=by
 refine callType_codes (Q₁:=λobj s₁=>obj=.ref s.heap.objs.size∧s₁={ s with heap:=s.heap.push { cls:=.type "list",data:=.seq #[] } }) PySem.F.called_list (PySem.F.typeCall_list_1 _) PySem.F.entry_list_init
  (code_list_new _ ⟨rfl,rfl⟩) λobj s₁ h₁=>?_
 obtain ⟨rfl,rfl⟩:=h₁;have hS:(s.heap.push { cls:=.type "list",data:=.seq #[] }).get? s.heap.objs.size=some { cls:=.type "list",data:=.seq #[] }:=Heap.get?_push_size _ rfl;have hSf:s.heap.objs.size∉[z,TI,TO,i1,i2,l1,l2]:=λe=>ab6 _ (hlt _ e);have hz1:=hz.keep (h':=s.heap.push { cls:=.type "list",data:=.seq #[] }) (λb _ o e=>Heap.get?_push_of_some _ e) (λo e=>Heap.get?_push_of_some _ e) λo e=>Heap.get?_push_of_some _ e;refine ⟨⟨_,hS,rfl⟩,PySem.F.args_list_init_2 _ _,?_⟩;have z1:=hlt z (by simp);have z2:=hlt TO (by simp);have z3:=hlt i1 (by simp);have z4:=hlt i2 (by simp);show wpAny _ _ (do let old ←Builtin.List.listItems (.ref s.heap.objs.size);Builtin.List.listUpdate (.ref s.heap.objs.size) (λ_=>#[]);letGo old.toList.reverse;Builtin.List.listExtendWith (.ref s.heap.objs.size) (.ref z) .none) _ _ _
 refine wpAny_bind ?_;unfold Builtin.List.listItems;refine wpAny_bind (wpAny_seqItems hS rfl (wpAny_pure ?_));show wpAny _ _ (updateSeq s.heap.objs.size (λ_=>#[]) >>=λ_=>letGo (#[]:Array Value).toList.reverse >>=λ_=>Builtin.List.listExtendWith (.ref s.heap.objs.size) (.ref z) .none) _ _ _
 refine wpAny_bind (wpAny_updateSeq hS rfl ?_);have hS₂:=Heap.get?_update_self (Obj.mapSeq (λ_=>(#[]:Array Value))) hS rfl;have oth:∀b o,b≠s.heap.objs.size→(s.heap.push { cls:=.type "list",data:=.seq #[] }).get? b=some o→((s.heap.push { cls:=.type "list",data:=.seq #[] }).update s.heap.objs.size (Obj.mapSeq (λ_=>(#[]:Array Value)))).get? b=some o:=λb o hb e=>(Heap.get?_update_other _ _ (Ne.symm hb)).trans e;refine wpAny_bind (wpAny_letGo ?_);refine extend (A:=A.in1) hh D (hz1.keep (λb hb o e=>oth b o (aap (hlt b (by simp only[aag,aa4,or_false] at hb ⊢;rcases hb with q | q | q | q | q <;> simp[q]))) e) (λo e=>oth _ o (aap (hlt l1 (by simp))) e) λo e=>oth _ o (aap (hlt l2 (by simp))) e) _ hSf s.heap.objs.size ⟨abq z1,abq z2,abq z3,abq z4,aa5 _⟩ (by show _ < (Heap.update _ _ _).objs.size;rw[Heap.size_update,Heap.size_push];exact adf _) hn hsz .none _ hS₂ λh' tk acc c as hk hS' hl hG hacc=>?_;exact ⟨rfl,hQ h' tk acc c as (λb o hb e=>hk b o (λx=>by
  rcases List.mem_cons.mp x with q | q
  ·exact ab6 _ (q ▸ Heap.lt_size e)
  ·exact hb q) (oth b o (aap (Heap.lt_size e)) (Heap.get?_push_of_some _ e))) hS' hl hG hacc⟩
end
end L2.Zg
namespace L2
open PySem PySem.Spec PyProof.Rows Zd Zg
theorem b_zip0:bootBuiltins "zip"=some (.type "zip"):=by decide+kernel
def SqB (K:PySem.W.Frag):Bool→Hp→Addr→List V→Prop
 | true,H,a,xs=>SqT K H a xs
 | false,H,a,xs=>SqL K H a xs
def itB:Bool→Heap→Addr→Addr→Nat→Prop
 | true,h,it,l,i=>h.IsTupleIter it l i
 | false,h,it,l,i=>h.IsListIter it l i
section
variable {X:Cx} {pins:List (Addr×Obj)} {σ:St} {H:Hp} {s:Shared}
theorem Inv.sqB (I:Inv X pins σ H s) {b:Bool} {a:Addr} {xs:List V} (h:SqB X.K b H a xs):∃its:List Value,Vals xs its∧xs.length≤sizeLine∧a < s.heap.objs.size∧(∀it i,itB b s.heap it a i→Hf b it a its.toArray i s.heap)∧(b=true→s.heap.IsTuple a its.toArray)∧(b=false→s.heap.IsList a its.toArray):=by
 cases b
 ·obtain ⟨its,r,p,z⟩:=I.list h;refine ⟨its,r,z,?_,λit i q=>⟨q,p.isList⟩,(λe=>nomatch e),λ_=>p.isList⟩;obtain ⟨o,e,_⟩:=p.isList;exact Heap.lt_size e
 ·obtain ⟨its,r,p,z⟩:=I.tuple h;refine ⟨its,r,z,?_,λit i q=>⟨q,p⟩,(λ_=>p),(λe=>nomatch e)⟩;obtain ⟨o,e,_⟩:=p;exact Heap.lt_size e
end
section
variable {X:Cx}
theorem x9 {pins:List (Addr×Obj)} {σ:St} {H:Hp} {s:Shared} {c:Bool} {l1 l2:Addr} {xs ys:List V} {A:Around} {E:Value→Shared→Prop} {Q:Value→Shared→Prop} (I:Inv X pins σ H s) (h1:SqB X.K c H l1 xs) (h2:SqL X.K H l2 ys)
  (q:∀(u v:List Value) (h':Heap),Vals xs u→Vals ys v→Zst c false (s.heap.objs.size+4) (s.heap.objs.size+2) (s.heap.objs.size+3) s.heap.objs.size (s.heap.objs.size+1) l1 l2 u.toArray v.toArray 0 h'→h'.objs.size=s.heap.objs.size+5→(∀c o,s.heap.get? c=some o→h'.get? c=some o)→l1 < s.heap.objs.size→l2 < s.heap.objs.size→Q (.ref (s.heap.objs.size+4)) { s with heap:=h' }):
  wpAny (model X.prog X.w) A (call (.type "zip") [.ref l1,.ref l2]) Q E s:=by
 obtain ⟨u,ru,_,lt1,_,t1,g1⟩:=I.sqB h1;obtain ⟨v,rv,_,lt2,_,t2,g2⟩:=I.sqB (b:=false) h2;cases c with
 | true=>exact Iu (t1 rfl) (g2 rfl) λh' a b d=>q u v h' ru rv a b d lt1 lt2
 | false=>exact Gb (g1 rfl) (g2 rfl) λh' a b d=>q u v h' ru rv a b d lt1 lt2
end
noncomputable def fm (H:Hp) (N:Addr→Option HO):Hp:=λb=>match N b with | some o=>some o | none=>H b
theorem Inv.many {X:Cx} {pins:List (Addr×Obj)} {σ:St} {H:Hp} {s:Shared} {h':Heap} {t':Nat} {N:Addr→Option HO} (I:Inv X pins σ H s) (k:∀b u,s.heap.get? b=some u→h'.get? b=some u) (hp:∀a o,N a=some o→s.heap.objs.size≤a) (new:∀a o,N a=some o→bz X.prog X.w (fm H N) h' a o):
  Inv X pins σ (fm H N) { s with heap:=h',toks:=t' }:=by
 have old:∀b,b < s.heap.objs.size→fm H N b=H b:=λb hb=>by
  unfold fm;cases e:N b with
  | none=>rfl
  | some o=>exact absurd (aaf hb (hp b o e)) (ab6 _)
 have tr:∀b u,H b=some u→fm H N b=some u:=λb u e=>by rw[old b (I.hok.lt e)];exact e
 refine I.step (g':=s.gens) (d':=s.drawn) (ch:=[]) (λb hb=>nomatch hb) (λb o _ _ _ e _=>k b o e) (λb o _ _ _ e _=>⟨o.slots,k b o e⟩) (λb o _ e n=>by rw[old b (Heap.lt_size e)];exact n)
  (λb o _ e=>⟨o,k b o e⟩) (λb xs e=>tr b _ e) (λb o u e=>tr b _ e) (λb ps e=>⟨#[],by rw[tr b _ e];simp⟩) (λm hm=>hm.at λo e=>k _ o e) (λb u e=>?_) I.bare
 cases en:N b with
 | some o=>
  have:fm H N b=some o:=by unfold fm;rw[en]
  rw[this] at e;cases e
  exact new b _ en
 | none=>
  have:fm H N b=H b:=by unfold fm;rw[en]
  rw[this] at e;exact (I.hok b u e).tm (λc v _ q=>k c v q) (λc q=>tr c _ q) λc xs q=>tr c _ q
theorem m6 {β:Type}:∀{as:List Addr} {ps:List β},as.Nodup→∀{j:Nat} {a:Addr} {p:β},as[j]?=some a→ps[j]?=some p→(as.zip ps).lookup a=some p
 | [],_,_,j,a,p,h,_=>by simp at h
 | _::_,[],_,j,a,p,_,h=>by simp at h
 | b::as,q::ps,nd,0,a,p,h1,h2=>by
  simp at h1 h2;subst h1 h2;simp[List.lookup]
 | b::as,q::ps,nd,j+1,a,p,h1,h2=>by
  simp only[adj] at h1 h2;have hn:=List.nodup_cons.mp nd;have ne:a≠b:=λe=>hn.1 (e ▸ aad h1);rw[ae0,adb];simp only[show (a==b)=false from beq_eq_false_iff_ne.mpr ne];exact m6 hn.2 h1 h2
theorem n0 {β:Type}:∀{as:List Addr} {ps:List β} {a:Addr} {p:β},(as.zip ps).lookup a=some p→∃j:Nat,as[j]?=some a∧ps[j]?=some p
 | [],_,a,p,h=>by simp at h
 | _::_,[],a,p,h=>by simp at h
 | b::as,q::ps,a,p,h=>by
  rw[ae0,adb] at h;by_cases e:a=b
  ·simp only[show (a==b)=true from beq_iff_eq.mpr e] at h;cases h
   exact ⟨0,by rw[e];rfl,rfl⟩
  ·simp only[show (a==b)=false from beq_eq_false_iff_ne.mpr e] at h;obtain ⟨j,h1,h2⟩:=n0 h;exact ⟨j+1,h1,h2⟩
theorem rb:∀as:List Addr,Vals (as.map V.ref) (as.map Value.ref)
 | []=>.nil
 | _::as=>.cons rfl (rb as)
def tLZ (K:PySem.W.Frag) (ta:TA):TE:=λσ H Q=>ta σ H λvs H1=>∃(l1 l2:Addr) (xs ys:List V),vs=[.ref l1,.ref l2]∧SqT K H1 l1 xs∧SqL K H1 l2 ys∧xs.length=ys.length∧
 ∀(l:Addr) (as:List Addr) (H2:Hp),ak H1 H2→H1 l=none→as.length=xs.length→H2 l=some (.lst (as.map V.ref))→(∀(j:Nat) (x y:V),xs[j]?=some x→ys[j]?=some y→∃a,as[j]?=some a∧H2 a=some (.tup [x,y]))→Q (.ref l) H2
section
variable {X:Cx}
theorem xh {a b:Expr} {ta:TA} {p p2 pos pos2:Pos} (hc:X.calm=true) (hg:Gl X "list") (hm:X.mg "list"=none) (hg2:Gl X "zip") (hm2:X.mg "zip"=none) (ha:PA X [a,b] ta)
  (hs:starEach [.Call (.Name "zip" p2) [a,b] [] pos2] X.env=[(false,eval (.Call (.Name "zip" p2) [a,b] [] pos2) X.env)]:=by rfl) (hs2:starEach [a,b] X.env=(false,eval a X.env)::starEach [b] X.env:=by rfl) (hpl:(backTo pos2 (starEach [b] X.env)).any (·.1)=false:=by rfl):
  PE X (.Call (.Name "list" p) [.Call (.Name "zip" p2) [a,b] [] pos2] [] pos) (tLZ X.K ta):=by
 intro pins s σ H Q I h;refine wpAny_Call_Name_kw (ic I hg hm Cj ?_);refine PyProof.Rows.callWith_type1 ?_ hs rfl;rw[hs];show wpAny _ _ (spliced ((false,eval _ X.env)::backTo pos [])) _ _ s
 refine Calls.spliced_cons ?_;refine wpAny_Call_Name_kw (ic I hg2 hm2 b_zip0 ?_);refine PyProof.Rows.callWith_type1 (thn (ha pos2 pins s σ H _ I h) λus s1 ⟨vs,H1,I1,r1,q1⟩=>?_) hs2 hpl;obtain ⟨l1,l2,xs,ys,rfl,e1,e2,hl,q⟩:=q1;obtain ⟨u1,u2,rfl,ru1,ru2⟩:=vals2 r1;cases ru1
 cases ru2
 have zl:xs.length≤sizeLine:=by obtain ⟨_,_,_,z⟩:=I1.tuple e1;exact z
 refine x9 (c:=true) I1 e1 e2 λu v h' ru rv zs hz keep lt1 lt2=>Calls.spliced_nil ?_;have n1:=ru.length;have n2:=rv.length;refine Gh (s:={ s1 with heap:=h' }) (I1.ok.hd hc) (zipApart_new lt1 lt2) zs (λb hb=>?_) (by rw[aa3,aa3];omega) (by rw[aa3];omega) λh2 tk acc c as kp hL hal hM hacc=>?_
 ·have hz':(Shared.heap { s1 with heap:=h' }).objs.size=s1.heap.objs.size+5:=hz;rw[hz'];simp only[aag,aa4,or_false] at hb;rcases hb with rfl | rfl | rfl | rfl | rfl | rfl | rfl
  ·exact acd (by decide) _
  ·exact acd (by decide) _
  ·exact acd (by decide) _
  ·exact Nat.lt_add_of_pos_right (by decide)
  ·exact acd (by decide) _
  ·exact aaf lt1 (abo _ _)
  ·exact aaf lt2 (abo _ _)
 have hM:Zg.Mk u.toArray v.toArray h'.objs.size h2 as:=hM;have kp:∀b o,b∉[s1.heap.objs.size+4,s1.heap.objs.size+3,s1.heap.objs.size,s1.heap.objs.size+1]→h'.get? b=some o→h2.get? b=some o:=kp;have hL:h2.get? h'.objs.size=some { cls:=.type "list",dict:=none,data:=.seq acc c,slots:=#[] }:=hL;rw[aa3] at hal;have le:s1.heap.objs.size≤h'.objs.size:=by rw[hz];exact abo _ _
 have k2:∀b o,s1.heap.get? b=some o→h2.get? b=some o:=λb o e=>kp b o (λz=>by
  have lt:=Heap.lt_size e;simp only[aag,aa4,or_false] at z;rcases z with rfl | rfl | rfl | rfl
  ·exact absurd lt (Nat.not_lt.mpr (abo _ _))
  ·exact absurd lt (Nat.not_lt.mpr (abo _ _))
  ·exact absurd lt (ab6 _)
  ·exact absurd lt (Nat.not_lt.mpr (abo _ _))) (keep b o e)
 let N:Addr→Option HO:=λb=>if b=h'.objs.size then some (.lst (as.map V.ref)) else ((as.zip (xs.zip ys)).lookup b).map λp=>.tup [p.1,p.2]
 have Nl:N h'.objs.size=some (.lst (as.map V.ref)):=if_pos rfl;have Na:∀(j:Nat) (a:Addr) (x y:V),as[j]?=some a→xs[j]?=some x→ys[j]?=some y→N a=some (.tup [x,y]):=λj a x y h1 h3 h4=>by
  show (if a=h'.objs.size then _ else _)=_
  rw[if_neg (ab2 (hM.up a (aad h1)))];have:(xs.zip ys)[j]?=some (x,y):=List.getElem?_zip_eq_some.mpr ⟨h3,h4⟩;rw[m6 hM.nd h1 this];rfl
 have inv:∀a o,N a=some o→(a=h'.objs.size∧o=.lst (as.map V.ref))∨∃(j:Nat) (x y:V),as[j]?=some a∧xs[j]?=some x∧ys[j]?=some y∧o=.tup [x,y]:=λa o e=>by
  by_cases h:a=h'.objs.size
  ·subst h;rw[Nl] at e;exact .inl ⟨rfl,(aa6 e).symm⟩
  ·have e:(if a=h'.objs.size then _ else ((as.zip (xs.zip ys)).lookup a).map λp=>HO.tup [p.1,p.2])=some o:=e;rw[if_neg h] at e;obtain ⟨⟨x,y⟩,h1,h2⟩:=Option.map_eq_some_iff.mp e;obtain ⟨j,g1,g2⟩:=n0 h1;obtain ⟨g3,g4⟩:=List.getElem?_zip_eq_some.mp g2;exact .inr ⟨j,x,y,g1,g3,g4,h2.symm⟩
 have lo:∀a o,N a=some o→s1.heap.objs.size≤a:=λa o e=>by
  rcases inv a o e with ⟨rfl,_⟩ | ⟨j,x,y,h1,_⟩
  ·exact le
  ·exact aaw le (abq (hM.up a (aad h1)))
 have I2:Inv X pins σ (fm H1 N) { s1 with heap:=h2,toks:=tk }:=I1.many k2 lo λa o e=>by
  rcases inv a o e with ⟨rfl,rfl⟩ | ⟨j,x,y,h1,h3,h4,rfl⟩
  ·refine ⟨by rw[aa0];omega,acc.toList,c,?_,by rw[adw];exact hL⟩;rw[hacc];exact rb as
  ·obtain ⟨x',y',g1,g2,g3⟩:=hM.at' j a h1;obtain ⟨xu,hxu,rxu⟩:=ru.get h3;obtain ⟨yu,hyu,ryu⟩:=rv.get h4;rw[ads] at g1 g2;rw[hxu] at g1;rw[hyu] at g2;cases g1
   cases g2
   exact ⟨by show (2:Nat)≤sizeLine;decide,[x',y'],.cons rxu (.cons ryu .nil),⟨_,g3,rfl,_,rfl,rfl⟩⟩
 have same:ak H1 (fm H1 N):=λb o e=>by
  have lt:=I1.hok.lt e;unfold fm;cases en:N b with
  | none=>exact e
  | some o'=>exact absurd (aaf lt (lo b o' en)) (ab6 _)
 refine ⟨.ref h'.objs.size,_,I2,rfl,q _ as _ same (I1.hok.fresh le) (by omega) (by unfold fm;rw[Nl]) λj x y h3 h4=>?_⟩;have hj:j < as.length:=by rw[hal,←n1];exact (List.getElem?_eq_some_iff.mp h3).1
 refine ⟨as[j],aa2 hj,?_⟩;unfold fm;rw[Na j as[j] x y (aa2 hj) h3 h4]
end
end L2
namespace Pc
open PySem PySem.Spec L2 PyProof.Rows
abbrev Ky:=Nat×Str
noncomputable def kyT (k:Ky):HO:=.tup [.int (k.1:Int),.str k.2]
def HsAt (H:Hp) (l:Addr) (hs:List Ky):Prop:=∃as:List Addr,H l=some (.lst (as.map V.ref))∧as.length=hs.length∧∀(j:Nat) (k:Ky),hs[j]?=some k→∃a,as[j]?=some a∧H a=some (kyT k)
noncomputable def aw (kinds:List Str) (sh:List V):List Str:=sh.filterMap λv=>match v with
 | .str z=>if z∈kinds then some z else none
 | _=>none
def j3 (K:PySem.W.Frag):Sp:=λvs H Q _=>∃(st kt ut:Addr) (sh:List V) (kinds:List Str) (u:Und),vs=[.ref st,.ref kt,.ref ut]∧SqT K H st sh∧SqT K H kt (kinds.map V.str)∧m5 H ut u∧Kinds kinds∧(∀v∈sh,isW v)∧sh.length≤1000∧u.hs.length=(aw kinds sh).length∧∀(l:Addr) (H':Hp),ak H H'→H l=none→HsAt H' l (u.hs.zip (aw kinds sh))→Q (.ref l) H'
end Pc
namespace Pc
open PySem PySem.Spec L2 PyProof.Rows
noncomputable def isH (kinds:List Str):V→Bool
 | .str z=>decide (z∈kinds)
 | _=>false
theorem sj {kinds:List Str} {v:V} (hv:isW v):inV v (kinds.map V.str)=isH kinds v:=by
 obtain ⟨k,rfl⟩:=hv;cases k with
 | inl i=>
  show inV (.int i) (kinds.map V.str)=false
  induction kinds with
  | nil=>rfl
  | cons z r ih=>exact ih
 | inr z=>
  show inV (.str z) (kinds.map V.str)=decide (z∈kinds)
  by_cases h:z∈kinds
  ·rw[decide_eq_true h];exact mh (List.mem_map.mpr ⟨z,h,rfl⟩)
  ·rw[decide_eq_false h];cases e:inV (.str z) (kinds.map V.str) with
   | false=>rfl
   | true=>
    obtain ⟨y,hy,e'⟩:=List.mem_map.mp (iu e);cases e'
    exact absurd hy h
theorem j6 {kinds:List Str} (hk:Kinds kinds) {v:V} (hv:isW v):b7 kinds v=lH↔isH kinds v=true:=by
 obtain ⟨b1,b2,b3,_,_,_⟩:=lets;rcases dj (kinds:=kinds) hv with ⟨rfl,h⟩ | ⟨rfl,h⟩ | ⟨⟨z,hz,rfl⟩,h⟩ | ⟨h,hno⟩
 ·rw[h];refine ⟨λe=>absurd e b1,λe=>?_⟩;exact absurd rfl (hk _ (of_decide_eq_true (show decide (Str.ofString "any"∈kinds)=true from e))).2.1
 ·rw[h];refine ⟨λe=>absurd e b2,λe=>?_⟩;exact absurd rfl (hk _ (of_decide_eq_true (show decide (Str.ofString "var"∈kinds)=true from e))).2.2
 ·exact ⟨λ_=>decide_eq_true hz,λ_=>h⟩
 ·rw[h];refine ⟨λe=>absurd e b3,λe=>?_⟩;rw[sj hv,e] at hno;cases hno
theorem xm (kinds:List Str) (v:V) (r:List V):aw kinds (v::r)=(match v with | .str z=>if z∈kinds then [z] else [] | _=>[])++aw kinds r:=by
 unfold aw;rw[acb];cases v with
 | str z=>
  by_cases h:z∈kinds
  ·simp[h]
  ·simp[h]
 | _=>rfl
theorem gf (kinds:List Str):∀(sh:List V),(aw kinds sh).map V.str=sh.filter (isH kinds)
 | []=>rfl
 | v::r=>by
  rw[xm,aa8,gf kinds r,aav];cases v with
  | str z=>
   by_cases h:z∈kinds
   ·simp[h,isH]
   ·simp[h,isH]
  | _=>simp[isH]
theorem An (kinds:List Str) (v:V) (r:List V):(aw kinds (v::r)).length=(if isH kinds v=true then 1 else 0)+(aw kinds r).length:=by
 have e:=congrArg aca (gf kinds (v::r));have e':=congrArg aca (gf kinds r);rw[aa0] at e e';rw[e,e',aav];by_cases h:isH kinds v=true
 ·rw[if_pos h,if_pos h,aaq];omega
 ·rw[if_neg h,if_neg h];omega
theorem rj {kinds:List Str} {ws:List V} (hk:Kinds kinds):∀(sh:List V) (p:Nat) (u u':Und),(∀v∈sh,isW v)→cj kinds ws sh p u=some u'→u'.hs.length=u.hs.length+(aw kinds sh).length∧∀h∈u'.hs,h∈u.hs∨p≤h
 | [],p,u,u',_,h=>by
  have h:some u=some u':=h;cases h
  exact ⟨rfl,λ_ m=>.inl m⟩
 | v::r,p,u,u',hw,h=>by
  rw[gk] at h;by_cases c:lies (b7 kinds v) v (ws.getD p .non)=true
  ·rw[if_pos c] at h;obtain ⟨i1,i2⟩:=rj hk r _ _ u' (λx m=>hw x (aak _ m)) h;have hv:=hw v aal;rw[An];by_cases e:isH kinds v=true
   ·have e':=(j6 hk hv).mpr e;have ep:u.put (b7 kinds v) p (ws.getD p .non)=⟨u.hs++[p],u.ns,u.vs⟩:=by
     unfold Und.put;rw[if_pos e']
    rw[ep] at i1 i2;rw[if_pos e'] at i2;rw[if_pos e];have i1:u'.hs.length=(u.hs++[p]).length+(aw kinds r).length:=i1;rw[aa1,aa9] at i1;refine ⟨by omega,λh m=>?_⟩;have le:p≤endAt ws p:=abo _ _;rcases i2 h m with g | g
    ·rcases List.mem_append.mp (show h∈u.hs++[p] from g) with g | g
     ·exact .inl g
     ·rw[List.mem_singleton.mp g];exact .inr (aa5 _)
    ·exact .inr (by omega)
   ·have e':¬b7 kinds v=lH:=λz=>e ((j6 hk hv).mp z);have ep:(u.put (b7 kinds v) p (ws.getD p .non)).hs=u.hs:=by
     unfold Und.put;rw[if_neg e'];split
     ·rfl
     split
     ·rfl
     ·rfl
    rw[ep] at i1 i2;rw[if_neg e'] at i2;rw[if_neg e];refine ⟨by omega,λh m=>?_⟩;rcases i2 h m with g | g
    ·exact .inl g
    ·exact .inr (by omega)
  ·rw[if_neg c] at h;cases h
end Pc
namespace Pc
open PySem PySem.Spec L2 PyProof.Rows
end Pc
namespace Pc
open PySem PySem.Spec L2 PyProof.Rows
end Pc
namespace Pc
open PySem PySem.Spec L2 PyProof.Rows
end Pc
namespace Pc
open PySem PySem.Spec L2 PyProof.Rows
end Pc
namespace Pc
open PySem PySem.Spec L2 PyProof.Rows
def ib (K:PySem.W.Frag):Sp:=λvs H Q _=>∃(kt st:Addr) (kinds:List Str) (sh:List V),vs=[.ref kt,.ref st]∧SqT K H kt (kinds.map V.str)∧SqT K H st sh∧(∀v∈sh,isW v)∧sh.length≤1000∧∀(l:Addr) (H':Hp),ak H H'→H l=none→H' l=some (.lst ((aw kinds sh).map V.str))→Q (.ref l) H'
end Pc
namespace Pc
open PySem PySem.Spec L2 PyProof.Rows
end Pc
namespace L2
theorem ob3 {α0 α1 α2:Type} {p:α0→α1→α2→Prop} {g:Prop} (h:∃a0 a1 a2,p a0 a1 a2) (k:∀a0 a1 a2,p a0 a1 a2→g):g:=by
 obtain ⟨a0,a1,a2,h⟩:=h;exact k a0 a1 a2 h
theorem ob4 {α0 α1 α2 α3:Type} {p:α0→α1→α2→α3→Prop} {g:Prop} (h:∃a0 a1 a2 a3,p a0 a1 a2 a3) (k:∀a0 a1 a2 a3,p a0 a1 a2 a3→g):g:=by
 obtain ⟨a0,a1,a2,a3,h⟩:=h;exact k a0 a1 a2 a3 h
theorem ob5 {α0 α1 α2 α3 α4:Type} {p:α0→α1→α2→α3→α4→Prop} {g:Prop} (h:∃a0 a1 a2 a3 a4,p a0 a1 a2 a3 a4) (k:∀a0 a1 a2 a3 a4,p a0 a1 a2 a3 a4→g):g:=by
 obtain ⟨a0,a1,a2,a3,a4,h⟩:=h;exact k a0 a1 a2 a3 a4 h
theorem ob6 {α0 α1 α2 α3 α4 α5:Type} {p:α0→α1→α2→α3→α4→α5→Prop} {g:Prop} (h:∃a0 a1 a2 a3 a4 a5,p a0 a1 a2 a3 a4 a5) (k:∀a0 a1 a2 a3 a4 a5,p a0 a1 a2 a3 a4 a5→g):g:=by
 obtain ⟨a0,a1,a2,a3,a4,a5,h⟩:=h;exact k a0 a1 a2 a3 a4 a5 h
theorem ob7 {α0 α1 α2 α3 α4 α5 α6:Type} {p:α0→α1→α2→α3→α4→α5→α6→Prop} {g:Prop} (h:∃a0 a1 a2 a3 a4 a5 a6,p a0 a1 a2 a3 a4 a5 a6) (k:∀a0 a1 a2 a3 a4 a5 a6,p a0 a1 a2 a3 a4 a5 a6→g):g:=by
 obtain ⟨a0,a1,a2,a3,a4,a5,a6,h⟩:=h;exact k a0 a1 a2 a3 a4 a5 a6 h
theorem ob8 {α0 α1 α2 α3 α4 α5 α6 α7:Type} {p:α0→α1→α2→α3→α4→α5→α6→α7→Prop} {g:Prop} (h:∃a0 a1 a2 a3 a4 a5 a6 a7,p a0 a1 a2 a3 a4 a5 a6 a7) (k:∀a0 a1 a2 a3 a4 a5 a6 a7,p a0 a1 a2 a3 a4 a5 a6 a7→g):g:=by
 obtain ⟨a0,a1,a2,a3,a4,a5,a6,a7,h⟩:=h;exact k a0 a1 a2 a3 a4 a5 a6 a7 h
theorem ob10 {α0 α1 α2 α3 α4 α5 α6 α7 α8 α9:Type} {p:α0→α1→α2→α3→α4→α5→α6→α7→α8→α9→Prop} {g:Prop} (h:∃a0 a1 a2 a3 a4 a5 a6 a7 a8 a9,p a0 a1 a2 a3 a4 a5 a6 a7 a8 a9) (k:∀a0 a1 a2 a3 a4 a5 a6 a7 a8 a9,p a0 a1 a2 a3 a4 a5 a6 a7 a8 a9→g):g:=by
 obtain ⟨a0,a1,a2,a3,a4,a5,a6,a7,a8,a9,h⟩:=h;exact k a0 a1 a2 a3 a4 a5 a6 a7 a8 a9 h
open PySem PySem.Spec PyProof.Rows
theorem jw {K:PySem.W.Frag} {n:Nat} {a:Addr} {x0 x1:V} {i0 i1:Nat} {σ:L2.St} {H:Hp} {Q:L2.St→Hp→Prop} (h:H a=some (.tup [x0,x1])) (hn:2=n) (q:Q ((σ.set i0 (some x0)).set i1 (some x1)) H):gTup K n (mx (gc i0) (mx (gc i1) gNil)) (.ref a) σ H Q:=⟨a,_,rfl,SqT.of h,hn,_,_,rfl,_,_,rfl,rfl,q⟩
end L2
namespace Pc
open PySem PySem.Spec L2 PyProof.Rows
theorem Hq {K:PySem.W.Frag} {v:V} {kt:Addr} {kinds:List Str} {H:Hp} {Q:VK} {E:XK} (p0:isW v) (p1:SqT K H kt (kinds.map V.str)) (p2:Q (.str (b7 kinds v)) H):(gm K) [v,.ref kt] H Q E:=⟨v,kt,kinds,rfl,p0,p1,p2⟩
theorem mkLies {l:Str} {v x:V} {H:Hp} {Q:VK} {E:XK} (p0:isW v) (p1:isW x) (p2:Q (.bl (lies l v x)) H):tj [.str l,v,x] H Q E:=⟨l,v,x,rfl,p0,p1,p2⟩
theorem mkLaid {K:PySem.W.Frag} {st kt wt:Addr} {sh:List V} {kinds:List Str} {ws:List V} {p n:Nat} {H:Hp} {Q:VK} {E:XK} (p0:SqT K H st sh) (p1:SqT K H kt (kinds.map V.str)) (p2:SqT K H wt ws) (p3:Kinds kinds) (p4:(∀v∈sh,isW v)) (p5:(∀v∈ws,isW v)) (p6:isTerm sh) (p7:eat 1 ((ws.drop p).map arV)=some n) (p8:sh.length≤1000) (p9:ws.length≤1000) (p10:∀H',ak H H'→told (cj kinds ws sh p ⟨[],[],[]⟩) H' Q):(ur K) [.ref st,.ref kt,.ref wt,.int (p:Int)] H Q E:=⟨st,kt,wt,sh,kinds,ws,p,n,rfl,p0,p1,p2,p3,p4,p5,p6,p7,p8,p9,p10⟩
theorem E3 {K:PySem.W.Frag} {t:Addr} {ws:List V} {H:Hp} {Q:VK} {E:XK} (p0:SqT K H t ws) (p1:(∀v∈ws,isW v)) (p2:isTerm ws) (p3:ws.length≤1000) (p4:∀(l:Addr) (H':Hp),ak H H'→H l=none→H' l=some (.lst ((ab3 ws.length).map λq=>plV (endAt ws q)))→Q (.ref l) H'):(pf K) [.ref t] H Q E:=⟨t,ws,rfl,p0,p1,p2,p3,p4⟩
theorem za {K:PySem.W.Frag} {st kt wt et:Addr} {sh:List V} {kinds:List Str} {ws:List V} {p:Nat} {H:Hp} {Q:VK} {E:XK} (p0:SqT K H st sh) (p1:SqT K H kt (kinds.map V.str)) (p2:SqT K H wt ws) (p3:H et=some (.lst ((ab3 ws.length).map λq=>plV (endAt ws q)))) (p4:Kinds kinds) (p5:(∀v∈sh,isW v)) (p6:isTerm sh) (p7:sh.length≤1000) (p8:Tw ws) (p9:p < ws.length) (p10:∀H',ak H H'→told (cj kinds ws sh p ⟨[],[],[]⟩) H' Q):(j8 K) [.ref kt,.ref st,.ref wt,.ref et,.int (p:Int)] H Q E:=⟨st,kt,wt,et,sh,kinds,ws,p,rfl,p0,p1,p2,p3,p4,p5,p6,p7,p8,p9,p10⟩
theorem Ia {d nl b:Addr} {ns:List Int} {zs:List Str} {m n:Nat} {H:Hp} {Q:VK} {E:XK} (p0:cq H d b ns n) (p1:bw H nl zs) (p2:1≤m) (p3:m≤120) (p4:n≤50000) (p5:∀(t:Addr) (n':Nat) (H':Hp) (ws:List V),au d H H'→H' d=some (.lst [.ref b,.int (n':Int)])→n'≤n+m→H t=none→H' t=some (.tup ws)→Tw ws→ws.length≤m→Q (.ref t) H'):mq [.ref d,.ref nl,.int (m:Int)] H Q E:=⟨d,nl,b,ns,zs,m,n,rfl,p0,p1,p2,p3,p4,p5⟩
theorem Ih {d kt b:Addr} {ns:List Int} {kinds:List Str} {n:Nat} {H:Hp} {Q:VK} {E:XK} (p0:cq H d b ns n) (p1:H kt=some (.tup (kinds.map V.str))) (p2:Kinds kinds) (p3:1≤kinds.length) (p4:kinds.length≤20) (p5:n≤50000) (p6:∀(t:Addr) (n':Nat) (H':Hp) (sh:List V),au d H H'→H' d=some (.lst [.ref b,.int (n':Int)])→n'≤n+12→H t=none→H' t=some (.tup sh)→g7 kinds sh→Q (.ref t) H'):mf [.ref d,.ref kt] H Q E:=⟨d,kt,b,ns,kinds,n,rfl,p0,p1,p2,p3,p4,p5,p6⟩
theorem G3 {K:PySem.W.Frag} {kt st:Addr} {kinds:List Str} {sh:List V} {H:Hp} {Q:VK} {E:XK} (p0:H kt=some (.tup (kinds.map V.str))) (p1:H st=some (.tup sh)) (p2:Kinds kinds) (p3:g7 kinds sh) (p4:∀(t:Addr) (ds:List V) (H':Hp),ak H H'→H' t=some (.tup ds)→Q (.ref t) H'):(mi K) [.ref kt,.ref st] H Q E:=⟨kt,st,kinds,sh,rfl,p0,p1,p2,p3,p4⟩
theorem mkBook {d nl b:Addr} {ns:List Int} {zs:List Str} {n:Nat} {H:Hp} {Q:VK} {E:XK} (p0:cq H d b ns n) (p1:bw H nl zs) (p2:n≤1000) (p3:∀(bt:Addr) (n':Nat) (H':Hp) (kinds:List Str) (rs:List Rl),au d H H'→H' d=some (.lst [.ref b,.int (n':Int)])→n'≤n+1000→bo H' bt kinds rs→Bk kinds rs→1≤rs.length→(∀r∈rs,r.name∈zs)→(∀z∈kinds,z∈zs)→Q (.ref bt) H'):rq [.ref d,.ref nl] H Q E:=⟨d,nl,b,ns,zs,n,rfl,p0,p1,p2,p3⟩
theorem Ew {d b:Addr} {ns:List Int} {n:Nat} {H:Hp} {Q:VK} {E:XK} (p0:cq H d b ns n) (p1:n≤1000) (p2:∀(l:Addr) (H':Hp) (zs:List Str),au d H H'→H' d=some (.lst [.ref b,.int ((n+1:Nat):Int)])→bw H' l zs→(∀z∈zs,bu z)→Q (.ref l) H'):ju [.ref d] H Q E:=⟨d,b,ns,n,rfl,p0,p1,p2⟩
theorem Eb {K:PySem.W.Frag} {st kt ut:Addr} {sh:List V} {kinds:List Str} {u:Und} {H:Hp} {Q:VK} {E:XK} (p0:SqT K H st sh) (p1:SqT K H kt (kinds.map V.str)) (p2:m5 H ut u) (p3:Kinds kinds) (p4:(∀v∈sh,isW v)) (p5:sh.length≤1000) (p6:u.hs.length=(aw kinds sh).length) (p7:∀(l:Addr) (H':Hp),ak H H'→H l=none→HsAt H' l (u.hs.zip (aw kinds sh))→Q (.ref l) H'):(j3 K) [.ref st,.ref kt,.ref ut] H Q E:=⟨st,kt,ut,sh,kinds,u,rfl,p0,p1,p2,p3,p4,p5,p6,p7⟩
theorem vj {K:PySem.W.Frag} {kt st:Addr} {kinds:List Str} {sh:List V} {H:Hp} {Q:VK} {E:XK} (p0:SqT K H kt (kinds.map V.str)) (p1:SqT K H st sh) (p2:(∀v∈sh,isW v)) (p3:sh.length≤1000) (p4:∀(l:Addr) (H':Hp),ak H H'→H l=none→H' l=some (.lst ((aw kinds sh).map V.str))→Q (.ref l) H'):(ib K) [.ref kt,.ref st] H Q E:=⟨kt,st,kinds,sh,rfl,p0,p1,p2,p3,p4⟩
theorem ik {d b:Addr} {ns:List Int} {n:Nat} {H:Hp} {Q:VK} {E:XK} (p0:cq H d b ns n) (p1:n≤100000) (p2:∀(c:Int) (H':Hp),au d H H'→H' d=some (.lst [.ref b,.int ((n+1:Nat):Int)])→Q (.int c) H'):fi [.ref d] H Q E:=⟨d,b,ns,n,rfl,p0,p1,p2⟩
end Pc
namespace L2
open PySem PySem.Spec PyProof.Rows
structure dg (fs ch:List Addr) (h h':Heap):Prop where
 keep:∀b o,h.get? b=some o→b∉fs→b∉ch→h'.get? b=some o
 slot:∀b o,h.get? b=some o→b∉ch→∃sl,h'.get? b=some { o with slots:=sl }
theorem dg.refl {fs ch:List Addr} {h:Heap}:dg fs ch h h:=⟨λ_ _ e _ _=>e,λ_ o e _=>⟨o.slots,e⟩⟩
theorem dg.un {fs ch:List Addr} {H:Hp} {h h':Heap} (t:dg fs ch h h') (hc:∀b∈ch,∃o,h'.get? b=some o):Un fs ch H H h h' where
 keep:=λb o e _ hb hx=>t.keep b o e hb hx
 slot:=λb o e _ _ hx=>t.slot b o e hx
 free:=λ_ _ _ n _=>n
 there:=λb o e hx=>let ⟨_,q⟩:=t.slot b o e hx;⟨_,q⟩
 tups:=λ_ _ e=>e
 frzs:=λ_ _ _ e=>e
 tbls:=λ_ _ e=>⟨#[],by rw[e];simp⟩
theorem dg.hok {P:Program} {w:World} {fs ch:List Addr} {H:Hp} {h h':Heap} (t:dg fs ch h h') (ok:HOk P w H h) (hf:∀b∈fs,H b=none) (hc:∀b∈ch,H b=none):HOk P w H h':=λb u e=>
 (ok b u e).tm (λc v hcb q=>by
  have key:∀{z},H c=some z→h'.get? c=some v:=λ{z} hz=>t.keep c v q (λx=>by rw[hf c x] at hz;cases hz) λx=>by rw[hc c x] at hz;cases hz
  rcases hcb with rfl | hcb
  ·exact key e
  ·exact key hcb) (λ_ q=>q) λ_ _ q=>q
structure Fly (n:Nat) (H:Hp) (h:Heap) (a:Addr) (cls:Value) (dx:Option Addr):Prop where
 lo:n≤a
 un:H a=none
 ob:∃oe vs,h.get? a=some oe∧oe.cls=cls∧oe.dict=dx∧oe.data=.fields vs∧1 < vs.size∧
  (vs[1]?=some .none∨∃T oT ts,vs[1]?=some (.ref T)∧n≤T∧H T=none∧T≠a∧h.get? T=some oT∧oT.data=.fields ts∧3 < ts.size)
structure nu (n:Nat) (H:Hp) (h:Heap) (a:Addr) (cls:Value) (dx:Option Addr):Prop where
 lo:n≤a
 un:H a=none
 ob:∃oe vs,h.get? a=some oe∧oe.cls=cls∧oe.dict=dx∧oe.data=.fields vs∧1 < vs.size∧
  ∃T oT ts,vs[1]?=some (.ref T)∧n≤T∧H T=none∧T≠a∧h.get? T=some oT∧oT.data=.fields ts∧3 < ts.size
section
variable {n m:Nat} {H:Hp} {h:Heap} {a:Addr} {cls:Value} {dx:Option Addr}
theorem nu.fly (x:nu n H h a cls dx):Fly n H h a cls dx:=let ⟨oe,vs,h1,h2,h3,h4,h5,h6⟩:=x.ob;⟨x.lo,x.un,oe,vs,h1,h2,h3,h4,h5,.inr h6⟩
theorem Fly.le (x:Fly n H h a cls dx) (hm:m≤n):Fly m H h a cls dx:=by
 obtain ⟨oe,vs,h1,h2,h3,h4,h5,h6⟩:=x.ob;refine ⟨aaw hm x.lo,x.un,oe,vs,h1,h2,h3,h4,h5,?_⟩;rcases h6 with h6 | ⟨T,oT,ts,k1,k2,k3,k4,k5,k6,k7⟩
 ·exact .inl h6
 ·exact .inr ⟨T,oT,ts,k1,aaw hm k2,k3,k4,k5,k6,k7⟩
end
section
variable {M:Model} {A:Around} {E:Value→Shared→Prop} {s:Shared} {n:Nat} {H:Hp} {a:Addr} {cls:Value} {dx:Option Addr}
theorem pq (o:Obj) (f:Array Value→Array Value):(o.mapFields f).dict=o.dict:=by
 obtain ⟨c,d,dt,sl⟩:=o;cases dt <;> rfl
theorem pz {fr:Option Addr} {Q:Unit→Shared→Prop} {fs:List Addr} (F:nu n H s.heap a cls dx)
  (q:∀h' ch,(∀b∈ch,n≤b∧H b=none∧∃o,h'.get? b=some o)→dg fs ch s.heap h'→nu n H h' a cls dx→Q () { s with heap:=h' }):wpAny M A (setFlight (.ref a) fr) Q E s:=by
 obtain ⟨oe,vs,h1,h2,h3,h4,h5,T,oT,ts,k1,k2,k3,k4,k5,k6,k7⟩:=F.ob;unfold setFlight;refine wpAny_bind (wpAny_field h1 h4 k1 ?_);rw[if_pos (show (Value.ref T !=Value.none)=true from by simp)];refine wpAny_setField k5 k6 k7 ?_;have self:=Heap.get?_update_self (Obj.mapFields (·.setIfInBounds 3 (fr.elim Value.none λf=>rawInt f))) k5 (Obj.isFreed_of_fields (Obj.data_mapFields k6 _));have other:∀b o,b≠T→s.heap.get? b=some o→(s.heap.update T (Obj.mapFields (·.setIfInBounds 3 (fr.elim Value.none λf=>rawInt f)))).get? b=some o:=λb o hb e=>(Heap.get?_update_other _ _ (Ne.symm hb)).trans e;refine q _ [T] (λb hb=>?_) ⟨λb o e _ hb=>other b o (λz=>hb (by simp[z])) e,λb o e hb=>⟨o.slots,other b o (λz=>hb (by simp[z])) e⟩⟩ ⟨F.lo,F.un,oe,vs,other a oe (Ne.symm k4) h1,h2,h3,h4,h5,T,_,_,k1,k2,k3,k4,self,Obj.data_mapFields k6 _,by simpa using k7⟩;obtain rfl:b=T:=by simpa using hb
 exact ⟨k2,k3,_,self⟩
theorem qz {base:Heap} {gb env:Env} {outer:List Env} {L:Addr} {hadNext:Bool} {head:Value} {oe:Obj} {vs:Array Value} {Q:Unit→Shared→Prop}
  (hfr:A.frames=some (gb::outer)) (hl:s.heap.FunFrames base (gb::outer)) (hf0:gb.frame=some L) (hf:env.frame=some L) (lo:n≤a) (un:H a=none) (fresh:∀b,s.heap.objs.size≤b→H b=none)
  (h1:s.heap.get? a=some oe) (h2:oe.cls=cls) (h3:oe.dict=dx) (h4:oe.data=.fields vs) (h5:1 < vs.size)
  (q:∀h' ch,(∀b∈ch,n≤b∧H b=none∧∃o,h'.get? b=some o)→dg (frs (gb::outer)) ch s.heap h'→nu n H h' a cls dx→Q () { s with heap:=h' }):
  wpAny M A (do let f ←PySem.frameOf env;let pl ←entryPlaceOf L hadNext;let t ←EntryCells.newEntry head f .none (rawInt L) .none pl;setField (.ref a) 1 t) Q E s:=by
 have na:a∉frs (gb::outer):=λhm=>by
  obtain ⟨_,o,ho,hnf⟩:=hl.mem hm;rw[h1] at ho;cases ho
  exact hnf vs h4
 have e0:PySem.frameOf env=PySem.frameOf gb:=by unfold PySem.frameOf;rw[hf,hf0]
 rw[e0];refine wpAny_bind (wpAny_frameOf_fun hfr hl hf0 λg sl=>?_);refine wpAny_bind (wpAny_entryPlaceOf λpl hpl=>?_);unfold EntryCells.newEntry newFields;refine wpAny_bind (wpAny_newObj_type ?_ (hpl.sizeOk5 _ _ _ _ _));generalize ht:([head,Value.ref L,.none,rawInt L,.none]++(if pl.isEmpty then aac 6 Value.none else pl)).toArray=ts;have hts:3 < ts.size:=by rw[←ht];simp only[aa3,aa1,aaq,acv] <;> omega
 have g1:g.get? a=some oe:=(sl.2.1 a na).trans h1;have sz:g.objs.size=s.heap.objs.size:=sl.1;have p1:(g.push { cls:=.type "traceback",dict:=none,data:=.fields ts }).get? a=some oe:=Heap.get?_push_of_some _ g1;refine wpAny_setField p1 h4 h5 ?_;have na2:g.objs.size≠a:=ab2 (Heap.lt_size g1);have d1:=Obj.data_mapFields h4 (·.setIfInBounds 1 (Value.ref g.objs.size));have u1:=Heap.get?_update_self (Obj.mapFields (·.setIfInBounds 1 (Value.ref g.objs.size))) p1 (Obj.isFreed_of_fields d1);have u2:((g.push { cls:=.type "traceback",dict:=none,data:=.fields ts }).update a (Obj.mapFields (·.setIfInBounds 1 (Value.ref g.objs.size)))).get? g.objs.size=some { cls:=.type "traceback",dict:=none,data:=.fields ts }:=
  (Heap.get?_update_other _ _ (Ne.symm na2)).trans (Heap.get?_push_size g rfl)
 have other:∀b o,b≠a→g.get? b=some o→((g.push { cls:=.type "traceback",dict:=none,data:=.fields ts }).update a (Obj.mapFields (·.setIfInBounds 1 (Value.ref g.objs.size)))).get? b=some o:=λb o hb e=>
  (Heap.get?_update_other _ _ (Ne.symm hb)).trans (Heap.get?_push_of_some _ e)
 refine q _ [a] (λb hb=>?_) ⟨λb o e hb hc=>other b o (λz=>hc (by simp[z])) ((sl.2.1 b hb).trans e),λb o e hc=>?_⟩ ⟨lo,un,_,_,u1,(Obj.cls_mapFields _ _).trans h2,(pq _ _).trans h3,d1,by simpa using h5,g.objs.size,_,_,by simp[h5],?_,?_,na2,u2,rfl,hts⟩
 ·obtain rfl:b=a:=by simpa using hb
  exact ⟨lo,un,_,u1⟩
 ·obtain ⟨sl',e'⟩:=sl.2.2 b o e;exact ⟨sl',other b _ (λz=>hc (by simp[z])) e'⟩
 ·exact aaw lo (abq (Heap.lt_size g1))
 ·exact fresh _ (by rw[sz];exact aa5 _)
theorem dg.trans {fs c1 c2:List Addr} {h h1 h2:Heap} (x:dg fs c1 h h1) (y:dg fs c2 h1 h2):dg fs (c1++c2) h h2:=by
 refine ⟨λb o e hb hc=>y.keep b o (x.keep b o e hb λz=>hc (abu _ z)) hb λz=>hc (aar _ z),λb o e hc=>?_⟩;obtain ⟨s1,e1⟩:=x.slot b o e λz=>hc (abu _ z);obtain ⟨s2,e2⟩:=y.slot b _ e1 λz=>hc (aar _ z);exact ⟨s2,e2⟩
theorem Dc {base:Heap} {gb env:Env} {outer:List Env} {L:Addr} {Q:Unit→Shared→Prop}
  (hfr:A.frames=some (gb::outer)) (hl:s.heap.FunFrames base (gb::outer)) (hf0:gb.frame=some L) (hf:env.frame=some L) (fresh:∀b,s.heap.objs.size≤b→H b=none) (F:Fly n H s.heap a cls dx)
  (q:∀h' ch,(∀b∈ch,n≤b∧H b=none∧∃o,h'.get? b=some o)→dg (frs (gb::outer)) ch s.heap h'→nu n H h' a cls dx→Q () { s with heap:=h' }):wpAny M A (noteFrame (.ref a) env) Q E s:=by
 obtain ⟨oe,vs,h1,h2,h3,h4,h5,h6⟩:=F.ob;unfold noteFrame;simp only[hf];rcases h6 with h6 | ⟨T,oT,ts,k1,k2,k3,k4,k5,k6,k7⟩
 ·refine wpAny_bind (wpAny_field h1 h4 h6 ?_);rw[if_neg (by decide)];exact qz hfr hl hf0 hf F.lo F.un fresh h1 h2 h3 h4 h5 q
 ·refine wpAny_bind (wpAny_field h1 h4 k1 ?_);rw[if_pos (show (Value.ref T !=Value.none)=true from by simp)];refine wpAny_bind (wpAny_field k5 k6 (x:=ts[3]) (by simp[k7]) ?_);by_cases hm:(ts[3]==rawInt L)=true
  ·rw[if_pos hm];exact wpAny_pure (q s.heap [] (λb hb=>by cases hb) .refl ⟨F.lo,F.un,oe,vs,h1,h2,h3,h4,h5,T,oT,ts,k1,k2,k3,k4,k5,k6,k7⟩)
  ·rw[if_neg hm];refine wpAny_bind (wpAny_setField k5 k6 k7 ?_);have self:=Heap.get?_update_self (Obj.mapFields (·.setIfInBounds 3 Value.none)) k5 (Obj.isFreed_of_fields (Obj.data_mapFields k6 _));have other:∀b o,b≠T→s.heap.get? b=some o→(s.heap.update T (Obj.mapFields (·.setIfInBounds 3 Value.none))).get? b=some o:=λb o hb e=>(Heap.get?_update_other _ _ (Ne.symm hb)).trans e;have nT:∀b o,s.heap.get? b=some o→(∀vs,o.data≠.fields vs)→b≠T:=λb o e d z=>by
    rw[z,k5] at e;cases e
    exact d ts k6
   have tu:dg (frs (gb::outer)) [T] s.heap (s.heap.update T (Obj.mapFields (·.setIfInBounds 3 Value.none))):=⟨λb o e _ hb=>other b o (λz=>hb (by simp[z])) e,λb o e hb=>⟨o.slots,other b o (λz=>hb (by simp[z])) e⟩⟩;refine qz hfr (hl.of_keeps λb o e d=>⟨o,other b o (nT b o e d) e,rfl⟩) hf0 hf F.lo F.un (λb hb=>fresh b (by rw[show (s.heap.update T (Obj.mapFields (·.setIfInBounds 3 Value.none))).objs.size=s.heap.objs.size from Heap.size_after_update ..] at hb;exact hb)) (other a oe (Ne.symm k4) h1) h2 h3 h4 h5 λh' ch hc tn fl=>?_;refine q h' ([T]++ch) (λb hb=>?_) (tu.trans tn) fl;rcases List.mem_append.mp hb with hb | hb
   ·obtain rfl:b=T:=by simpa using hb
    refine ⟨k2,k3,?_⟩;by_cases hc2:b∈ch
    ·exact (hc b hc2).2.2
    ·obtain ⟨sl,e⟩:=tn.slot b _ self hc2;exact ⟨_,e⟩
   ·exact hc b hb
end
end L2
namespace L2
open PySem PySem.Spec PyProof.Rows
def Bnd (X:Cx) (pins:List (Addr×Obj)) (n:Nat):Prop:=X.s₀.heap.objs.size≤n∧X.env.locals < n∧(∀x c,X.env.cells.lookup x=some c→c < n)∧∀p∈X.pn++pins,p.1 < n
def XE (X:Cx) (E:XK):Value→Shared→Prop:=λe s'=>∃pins σ H n a cls dx,e=.ref a∧Inv X pins σ H s'∧Bnd X pins n∧Fly n H s'.heap a cls dx∧E cls dx H
noncomputable abbrev Cx.xp (X:Cx) (E:XK):Cx:=X.jt (XE X E)
def vw (X:Cx):Prop:=∃gb outer0 L,X.stack=gb::outer0∧gb.frame=some L∧X.env.frame=some L
noncomputable def CXE (P:Program) (w:World):CXT:=λouter H s E e s'=>∃H' a cls dx,e=.ref a∧s'.os=s.os∧AllBare s'.gens∧Un (frs outer) [] H H' s.heap s'.heap∧HOk P w H' s'.heap∧Fly s.heap.objs.size H' s'.heap a cls dx∧E cls dx H'
section
variable {X:Cx} {pins:List (Addr×Obj)} {σ:St} {H:Hp} {s:Shared} {n:Nat} {a:Addr} {cls:Value} {dx:Option Addr} {M:Model} {A:Around} {E':Value→Shared→Prop} {env:Env} {E:XK}
theorem Inv.bnd (I:Inv X pins σ H s):Bnd X pins s.heap.objs.size:=
 ⟨I.sz,I.lt,λx c e=>let ⟨_,z⟩:=I.cell x c e;z.lt,λp hp=>Heap.lt_size (I.pin p hp).1⟩
theorem Inv.turn {ch:List Addr} {h':Heap} (I:Inv X pins σ H s) (B:Bnd X pins n) (hc:∀b∈ch,n≤b∧H b=none∧∃o,h'.get? b=some o) (t:dg (frs X.stack) ch s.heap h'):Inv X pins σ H { s with heap:=h' }:=by
 refine I.call (g':=s.gens) (d':=s.drawn) (t':=s.toks) (t.un λb hb=>(hc b hb).2.2) (t.hok I.hok I.rm λb hb=>(hc b hb).2.1) I.bare λb hb=>?_;have lo:=(hc b hb).1;exact ⟨.inr (aaw B.1 lo),ab2 (aaf B.2.1 lo),λx c e=>aap (aaf (B.2.2.1 x c e) lo),λp hp=>aap (aaf (B.2.2.2 p hp) lo)⟩
theorem wy {Q:Unit→Shared→Prop} (I:Inv X pins σ H s) (B:Bnd X pins n) (F:Fly n H s.heap a cls dx) (S:vw X) (hA:A.frames=X.A.frames) (hE:env.frame=X.env.frame)
  (q:∀h',Inv X pins σ H { s with heap:=h' }→nu n H h' a cls dx→Q () { s with heap:=h' }):wpAny M A (noteFrame (.ref a) env) Q E' s:=by
 obtain ⟨gb,outer0,L,hs,h0,h1⟩:=S;have fr:A.frames=some (gb::outer0):=by rw[hA,I.ok.frames,hs]
 have st:=I.stack;rw[hs] at st;refine Dc fr st h0 (hE.trans h1) (λb hb=>I.hok.fresh hb) F λh' ch hc t fl=>q h' (I.turn B hc ?_) fl;rw[hs];exact t
theorem fq {fr:Option Addr} {Q:Unit→Shared→Prop} (I:Inv X pins σ H s) (B:Bnd X pins n) (F:nu n H s.heap a cls dx)
  (q:∀h',Inv X pins σ H { s with heap:=h' }→nu n H h' a cls dx→Q () { s with heap:=h' }):wpAny M A (setFlight (.ref a) fr) Q E' s:=
 pz (fs:=frs X.stack) F λh' ch hc t fl=>q h' (I.turn B hc t) fl
theorem nu.head {h:Heap} (F:nu n H h a cls dx):∃oe vs T,h.get? a=some oe∧oe.data=.fields vs∧vs[1]?=some (.ref T):=
 let ⟨oe,vs,h1,_,_,h4,_,T,_,_,k1,_⟩:=F.ob;⟨oe,vs,T,h1,h4,k1⟩
theorem vi (S:vw X):PassesOwn (model X.prog X.w) X.A X.env (XE X E):=by
 rintro e s' ⟨pins,σ,H,n,a,cls,dx,rfl,I,B,F,q⟩;refine wy I B F S rfl rfl λh' I' F'=>?_;obtain ⟨oe,vs,T,h1,h2,h3⟩:=F'.head;show wpAny _ _ _ _ _ _
 refine wpAny_bind (wpAny_field (s:={ s' with heap:=h' }) h1 h2 h3 ?_);rw[if_neg (show ¬((Value.ref T==Value.none)=true) from by simp)];exact fq I' B F' λh'' I'' F''=>⟨pins,σ,H,n,a,cls,dx,rfl,I'',B,F''.fly,q⟩
theorem Hz {e:Value} {R:Value→Shared→Prop} (S:vw X) (hx:X.ex=[]) (z:XE X E e s) (q:∀s',CXE X.prog X.w X.outer X.H₀ X.s₀ E e s'→R e s'):wpAny M X.A (leaving X.env e) (λ_ s'=>R e s') E' s:=by
 obtain ⟨pins,σ,H,n,a,cls,dx,rfl,I,B,F,qE⟩:=z;unfold leaving;refine wpAny_bind (wy I B F S rfl rfl λh' I' F'=>?_);refine fq (s:={ s with heap:=h' }) I' B F' λh'' I'' F''=>q _ ?_;have u:=I''.base;rw[hx] at u;exact ⟨H,a,cls,dx,rfl,I''.os,I''.bare,u,I''.hok,F''.fly.le B.1,qE⟩
theorem passX:Passes (CXE X.prog X.w) (X.xp E) E:=by
 rintro pins σ H s e s' I ⟨H',a,cls,dx,rfl,os,bare,un,hok,F,q⟩;have I0:=I.cy;exact ⟨pins,σ,H',_,a,cls,dx,rfl,I0.Df (ch:=[]) os un hok bare (λb z=>absurd z (by simp)),I0.bnd,F,q⟩
end
section
variable {P:Program} {w:World} {K:PySem.W.Frag} {mg:Str→Option Value} {base:Heap}
theorem wu {CX:CXT} {N:List Str} {qual:Str} {scope:Scope} {f:Addr} {cd:Value} {A:Around} {outer:List Env} {s:Shared} {H:Hp} {E:XK}:vw (jk CX P w K mg base N qual scope f cd A outer s H E):=⟨_,_,_,rfl,rfl,rfl⟩
theorem Fun.okX {x qual:Str} {st:Stmt} {f:Addr} {fd:FuncData} {N ps:List Str} {k:Nat} {sp:Sp} (F:Fun K x qual st f fd) (S:ba N ps (ah st)) (len:∀vs H Q E,sp vs H Q E→vs.length=ps.length)
  (hbody:∀(cdv:Value) (A:Around) (outer:List Env) (s:Shared) (H:Hp) (vs:List V) (Q:VK) (E:XK),dr k (A.deeper (envOfC qual (ah st) s.heap.objs.size f cdv))→sp vs H Q E→
   ∃t,PSs ((jk (CXE P w) P w K mg base N qual (ah st) f cdv A outer s H E).xp E) (ax st) t∧t { nx:=λ_ H'=>Q .non H',rt:=Q } (start N vs) H):iz P w K mg base (CXE P w) (k+1) f fd ps sp:=by
 obtain ⟨oc,od,kV,doc,pm,an,cdv,ct,osl,rfl,lk,hcd⟩:=F.ex;refine fn_of lk hcd S len λA outer s H vs Q E hr hsp=>?_;obtain ⟨t,h,q⟩:=hbody cdv A outer s H vs Q E hr hsp;refine ⟨t,λpins s' σ H' D I hw=>wpAny_mono (h pins s' σ H' D (I.jt _) hw) (λ_ _ q=>q.cy) λe s'' z=>?_,q⟩;exact Hz wu rfl z λ_ y=>y
def i4 (P:Program) (w:World) (K:PySem.W.Frag) (mg:Str→Option Value) (base:Heap) (k:Nat) (x:Str) (ps:List Str) (sp:Sp):Prop:=
 ∃(f:Addr) (fd:FuncData),iz P w K mg base (CXE P w) k f fd ps sp∧Binds K fd ps []∧PySem.W.keepIn K (.ref f)=true∧mg x=some (.ref f)
theorem i4.up {j k:Nat} {x:Str} {ps:List Str} {sp:Sp} (h:i4 P w K mg base j x ps sp) (l:j≤k):i4 P w K mg base k x ps sp:=by
 obtain ⟨f,fd,F,r⟩:=h;exact ⟨f,fd,F.mono l,r⟩
theorem Def.hasX {k:Nat} {x:Str} {st:Stmt} {N ps:List Str} {sp:Sp} (D:Def K mg x st ps) (S:ba N ps (ah st)) (len:∀vs H Q E,sp vs H Q E→vs.length=ps.length)
  (hbody:∀(f:Addr) (cdv:Value) (A:Around) (outer:List Env) (s:Shared) (H:Hp) (vs:List V) (Q:VK) (E:XK),dr k (A.deeper (envOfC x (ah st) s.heap.objs.size f cdv))→sp vs H Q E→
   ∃t,PSs ((jk (CXE P w) P w K mg base N x (ah st) f cdv A outer s H E).xp E) (ax st) t∧t { nx:=λ_ H'=>Q .non H',rt:=Q } (start N vs) H):i4 P w K mg base (k+1) x ps sp:=by
 obtain ⟨f,fd,F,b,m⟩:=D;exact ⟨f,fd,F.okX S len λcdv A outer s H vs Q E hr h=>hbody f cdv A outer s H vs Q E hr h,b,F.kp,m⟩
end
section
variable {X:Cx} {E:XK} {k:Nat} {ps:List Str} {sp:Sp} {x:Str} {p pos:Pos} {e:Expr} {es:List Expr} {t:TA}
theorem y3 (h:i4 X.prog X.w X.K X.mg X.base k x ps sp) (hr:dr k X.A) (ha:PA (X.xp E) (e::es) t) (hg:Gl X x:=by rfl) (hdb:(x==("__debug__":Str))=false:=by decide+kernel)
  (he:starEach (e::es) X.env=(false,eval e X.env)::starEach es X.env:=by rfl) (hpl:(backTo pos (starEach es X.env)).any (·.1)=false:=by rfl):
  PE (X.xp E) (.Call (.Name x p) (e::es) [] pos) (zk sp [] E t):=by
 obtain ⟨f,fd,F,b,kp,m⟩:=h;exact yy (X:=X.xp E) F hr hg m kp b .nil passX ha hdb he hpl
end
end L2
namespace PySem
open Sem (wp)
structure Xc (K:W.Frag) (C:Addr) (bm:List Value):Prop where
 lk:∃nm q N bs sn sub ab col dd k0 k1 k2 k3 k5,K.lookup C=some (excClassObj nm q C N bs bm true sn sub ab col dd k0 k1 k2 k3 k5 "ValueError.__new__")
 hv:bm.contains (.type "ValueError")=true
 hb:bm.contains (.type "BaseException")=true
 ha:bm.contains (.type "AttributeError")=false
 hn:bm.contains (.type "NameError")=false
 ho:bm.contains (.type "object")=true
 kp:W.keepIn K (.ref C)=true
 sa:∀self:Value,refuseLoop self "__setattr__" bm=pure ()
 fs:W.findIn K (.ref C) "__setattr__"=some (some (.builtin "object.__setattr__"))
 fg:W.findIn K (.ref C) "__getattribute__"=some (some (.builtin "BaseException.__getattribute__"))
 fh:W.findIn K (.ref C) "__getattr__"=some none
 fc:W.findIn K (.ref C) "__class__"=some (some (.builtin "object.__class__"))
section
variable {prog:Program} {w:World} {A:Around} {E:Value→Shared→Prop} {K:W.Frag} {C:Addr} {bm rest:List Value} {init:Value}
theorem Bj {h:Heap} {g:Array GenState} {d:Drawn} {t:Nat} {os:OsState} {R:Result→Shared→Prop} (X:K.In h) (c:Xc K C bm) (hl:rest.length≤sizeLine)
  (q:R (.ok (.ret (.ref (h.objs.size+1)))) ⟨(h.push { cls:=.type "tuple",data:=.seq rest.toArray }).push { cls:=.ref C,data:=.fields #[.ref h.objs.size,.none,.none,.none,.bool false,.none] },g,d,t,os⟩):
  codeAny (model prog w) A (.builtin "ValueError.__new__" ⟨.ref C::rest,[]⟩) R ⟨h,g,d,t,os⟩:=by
 obtain ⟨nm,qn,N,bs,sn,sub,ab,col,dd,k0,k1,k2,k3,k5,lk⟩:=c.lk;have hC:=X _ _ lk;have Fv:=PySem.F.excBase_ValueError;have hends:=Fv.ends;have z1:(Value.ref C::bm).contains (.type "ValueError")=true:=by rw[aaz,c.hv,ac5]
 have z2:(Value.ref C::bm).contains (.type "AttributeError")=false:=by rw[aaz,c.ha];rfl
 have z3:(Value.ref C::bm).contains (.type "NameError")=false:=by rw[aaz,c.hn];rfl
 refine codeAny_builtinAt Fv.entry ?_;unfold Builtin.«BaseException.__new__»;refine wpAt_bind ?_;show wpAt _ _ _ (stack >>=_) _ _ _
 refine wpAt_bind (wpAt_stack λp below=>wpAt_of_wpAny ?_);wp_walk
 refine wpAt_of_wpAny ?_;rw[Fv.owner];repeat (first | with_reducible refine wpAny_madeHere_exc Fv.canon hC ?_ | with_reducible refine wpAny_loadPart_at hC ?_ | (with_reducible refine wpAny_isSubtype_exc hC ?_;first | rw[z1] | rw[z2] | rw[z3]) | wp_step)
 show R _ _
 rw[Heap.size_push];exact q
theorem yb {h:Heap} {g:Array GenState} {d:Drawn} {t:Nat} {os:OsState} {Q:Fin→Shared→Prop} (X:K.In h) (c:Xc K C bm) (hi:W.findIn K (.ref C) "__init__"=some (some init))
  (hb:∀self,W.Looks (model prog w) h (bindSpecial init self) (init,[self])) (hl:rest.length≤sizeLine)
  (q:wpAny (model prog w) A (call init (.ref (h.objs.size+1)::rest)) (λr s'=>r=.none∧Q (.done (.ret (.ref (h.objs.size+1)))) s') E
   ⟨(h.push { cls:=.type "tuple",data:=.seq rest.toArray }).push { cls:=.ref C,data:=.fields #[.ref h.objs.size,.none,.none,.none,.bool false,.none] },g,d,t,os⟩):
  wpAny (model prog w) A (Builtin.«type.__call__» ⟨.ref C::rest,[]⟩) Q E ⟨h,g,d,t,os⟩:=by
 obtain ⟨nm,qn,N,bs,sn,sub,ab,col,dd,k0,k1,k2,k3,k5,lk⟩:=c.lk;have hC:=X _ _ lk;have Fv:=PySem.F.excBase_ValueError;repeat (first | with_reducible refine wpAny_loadPart_at hC ?_ | with_reducible refine wpAny_madeBy_exc hC ?_ | wp_step)
 refine codeAny_call_builtin_code (Code.quiet_builtin _ Fv.quiet) (wpAny_check_new_subU Fv c.hv .base hC ?_);refine Bj X c hl ?_;show wpAny _ _ _ _ _ _
 have kk:∀b o,h.get? b=some o→((h.push { cls:=.type "tuple",data:=.seq rest.toArray }).push { cls:=.ref C,data:=.fields #[.ref h.objs.size,.none,.none,.none,.bool false,.none] }).get? b=some o:=
  λb o e=>Heap.get?_push_of_some _ (Heap.get?_push_of_some _ e)
 have hC2:=kk _ _ hC;have he:((h.push { cls:=.type "tuple",data:=.seq rest.toArray }).push { cls:=.ref C,data:=.fields #[.ref h.objs.size,.none,.none,.none,.bool false,.none] }).get? (h.objs.size+1)=some
   { cls:=.ref C,data:=.fields #[.ref h.objs.size,.none,.none,.none,.bool false,.none] }:=by heap_get
 have z4:(Value.ref C::bm).contains (.ref C)=true:=by simp
 unfold isInstance;repeat (first | with_reducible refine wpAny_loadPart_at he ?_ | (with_reducible refine wpAny_isSubtype_exc hC2 ?_;rw[z4]) | wp_step)
 show wpAny _ _ (typeLookup (.ref C) _) _ _ _
 refine ((W.looks_findIn X hi).keeps kk).here ?_;refine wpAny_holding (wpAny_bind (((hb _).keeps kk).here ?_));refine wpAny_bind (wpAny_mono q (λr s' hr=>?_) λ_ _ z=>z);obtain ⟨rfl,hQ⟩:=hr;wp_walk
 exact hQ
theorem Dm {s:Shared} {Q:Value→Shared→Prop} (X:K.In s.heap) (c:Xc K C bm) (hi:W.findIn K (.ref C) "__init__"=some (some init)) (hb:∀self,W.Looks (model prog w) s.heap (bindSpecial init self) (init,[self]))
  (hl:rest.length≤sizeLine)
  (q:wpAny (model prog w) (A.under (.builtin "type.__call__" ⟨.ref C::rest,[]⟩)) (call init (.ref (s.heap.objs.size+1)::rest)) (λr s'=>r=.none∧Q (.ref (s.heap.objs.size+1)) s') E
   { s with heap:=(s.heap.push { cls:=.type "tuple",data:=.seq rest.toArray }).push { cls:=.ref C,data:=.fields #[.ref s.heap.objs.size,.none,.none,.none,.bool false,.none] } }):
  wpAny (model prog w) A (call (.ref C) rest) Q E s:=by
 obtain ⟨h,g,d,t,os⟩:=s;obtain ⟨nm,qn,N,bs,sn,sub,ab,col,dd,k0,k1,k2,k3,k5,lk⟩:=c.lk;have hC:=X _ _ lk;dsimp only at hC q;have g1:=tc_lookup;have g2:=tc_bind (.ref C);have g3:(⟨h,g,d,t,os⟩:Shared).TypeIs (.ref C) "type":=⟨_,hC,rfl⟩;refine wpAny_call (codeAny_of_tree ?_);show wpAny _ _ (callAny (.ref C) _) _ _ _
 repeat (any_goals (first | assumption | with_reducible refine wpAny_loadPart_at hC ?_ | wp_step))
 refine ⟨rfl,?_⟩;refine codeAny_call_builtin_at (Code.quiet_builtin _ (by decide+kernel)) entry_typeCall (wpAny_check_type_call_sub hC (yb X c hi hb hl ?_));exact q
end
end PySem
namespace L2
open PySem PySem.Spec PyProof.Rows
noncomputable def XO (a C:Addr) (dx:Option Addr) (nw:Bool):HO:=.ext λh=>∃o vs,h.get? a=some o∧o.cls=.ref C∧o.dict=dx∧o.data=.fields vs∧(nw=true→∃t,vs=#[.ref t,.none,.none,.none,.bool false,.none])
noncomputable def XD (dx:Addr) (fs:List (Str×V)):HO:=.ext λh=>∃mA,h.Ns1 dx mA∧(∀f,ku (fs.lookup f) (mA f))∧PySem.Within mA (fs.map (·.1))
theorem XO.mk {P:Program} {w:World} {H:Hp} {h:Heap} {a C:Addr} {dx:Option Addr} {nw:Bool} (e:∃o vs,h.get? a=some o∧o.cls=.ref C∧o.dict=dx∧o.data=.fields vs∧(nw=true→∃t,vs=#[.ref t,.none,.none,.none,.bool false,.none])):bz P w H h a (XO a C dx nw):=by
 refine ⟨e,?_,?_⟩
 ·obtain ⟨o,_,q,_⟩:=e;exact ⟨o,q⟩
 ·rintro h1 h2 ⟨o,vs,q,r⟩ k;exact ⟨o,vs,k o q,r⟩
theorem XO.get {P:Program} {w:World} {H:Hp} {h:Heap} {a C:Addr} {dx:Option Addr} {nw:Bool} (x:HOk P w H h) (e:H a=some (XO a C dx nw)):∃o vs,h.get? a=some o∧o.cls=.ref C∧o.dict=dx∧o.data=.fields vs∧(nw=true→∃t,vs=#[.ref t,.none,.none,.none,.bool false,.none]):=(x a _ e).1
theorem XD.get {P:Program} {w:World} {H:Hp} {h:Heap} {dx:Addr} {fs:List (Str×V)} (x:HOk P w H h) (e:H dx=some (XD dx fs)):∃mA,h.Ns1 dx mA∧(∀f,ku (fs.lookup f) (mA f))∧PySem.Within mA (fs.map (·.1)):=(x dx _ e).1
end L2
namespace PySem
open Sem (wp)
open Builtin Builtin.ObjectAttr
section
variable {prog:Program} {w:World} {A:Around} {E:Value→Shared→Prop} {K:W.Frag} {C x:Addr} {bm rest:List Value} {h:Heap} {g:Array GenState} {d:Drawn} {t:Nat} {os:OsState} {o:Obj} {vs:Array Value}
theorem Ab {R:Result→Shared→Prop} (X:K.In h) (c:Xc K C bm) (hx:h.get? x=some o) (hc:o.cls=.ref C) {t0:Addr} (hd:o.data=.fields #[.ref t0,.none,.none,.none,.bool false,.none]) (hl:rest.length≤sizeLine)
  (q:R (.ok (.ret .none)) ⟨(h.push { cls:=.type "tuple",data:=.seq rest.toArray }).update x (Obj.mapFields (·.setIfInBounds 0 (.ref h.objs.size))),g,d,t,os⟩):
  codeAny (model prog w) A (.call (.builtin "ValueError.__init__") ⟨.ref x::rest,[]⟩) R ⟨h,g,d,t,os⟩:=by
 obtain ⟨nm,qn,N,bs,sn,sub,ab,col,dd,k0,k1,k2,k3,k5,lk⟩:=c.lk;have hC:=X _ _ lk;have Fv:=PySem.F.excBase_ValueError;have z1:(Value.ref C::bm).contains (.type "ValueError")=true:=by rw[aaz,c.hv,ac5]
 have short:=Fv.noStar;refine codeAny_call_builtin Fv.init.plain Fv.initEntry ?_;simp only[checkBuiltinCall,Fv.initKind,Fv.initSplit,Fv.initRow];repeat (first | (with_reducible refine wpAny_loadPart_at hx ?_;rw[hc]) | with_reducible refine wpAny_loadPart_at hC ?_ | (with_reducible refine wpAny_isSubtype_exc hC ?_;rw[z1]) | wp_step)
 refine wpAny_onRaise ?_;rw[show ∀(a b:String) (n:Nat),Bind.check ⟨.positional,"*","ValueError",.self,[⟨"args",.varPos,false⟩]⟩ a b n (adt (λy=>y.fst) ({ pos:=Value.ref x::rest }:Args).kw)=pure () from λa b n=>check_star_args _ _ _ _ _ _];refine wpAny_pure ?_;unfold Builtin.«BaseException.__init__»;have hx2:(h.push { cls:=.type "tuple",data:=.seq rest.toArray }).get? x=some o:=Heap.get?_push_of_some _ hx;have hz:0 < (#[.ref t0,.none,.none,.none,.bool false,.none]:Array Value).size:=by show 0 < 6;decide
 have hz1:(#[.ref t0,.none,.none,.none,.bool false,.none]:Array Value)[0]?=some (.ref t0):=rfl;repeat (first | with_reducible refine wpAny_field hx2 hd hz1 ?_ | with_reducible refine wpAny_setField hx2 hd hz ?_ | wp_step)
 all_goals first | exact q | skip
theorem xtype {M:Model} (hx:h.get? x=some o) (hc:o.cls=.ref C):W.Looks M h (typeOf (.ref x)) (.ref C):=hc ▸ (W.Looks.ld hx).andThen .now
theorem xsub {M:Model} (X:K.In h) (c:Xc K C bm) (b:Value):W.Looks M h (isSubtype (.ref C) b) ((Value.ref C::bm).contains b):=by
 obtain ⟨nm,qn,N,bs,sn,sub,ab,col,dd,k0,k1,k2,k3,k5,lk⟩:=c.lk;intro A' Q' E' s' k' q';obtain ⟨h2,g2,d2,t2,o2⟩:=s';exact wpAny_isSubtype_exc (k' _ _ (X _ _ lk)) q'
theorem xinst {M:Model} (X:K.In h) (c:Xc K C bm) (hx:h.get? x=some o) (hc:o.cls=.ref C) (b:Value):W.Looks M h (isInstance (.ref x) b) ((Value.ref C::bm).contains b):=(xtype hx hc).andThen (xsub X c b)
theorem W.gj {cd:ClassData} {oc:Value} {od:Option Addr} {sl:Array (Option Value)} (lk:K.lookup C=some ⟨oc,od,.cls cd,sl⟩):W.clsIn K C=some cd:=by
 unfold W.clsIn;rw[lk]
theorem xraise {env:Env} {s:Shared} {m:Sem Value} {Q:Flow→Shared→Prop} (hh:A.handled=none)
  (q:wpAny (model prog w) A m (λv s₁=>∃e o vs C bm,v=.ref e∧K.In s₁.heap∧Xc K C bm∧s₁.heap.get? e=some o∧o.cls=.ref C∧o.data=.fields vs∧vs[1]?=some .none∧E (.ref e) s₁) E s):
  wpAny (model prog w) A (raiseStmt env (some m) none) Q E s:=by
 unfold raiseStmt;refine wpAny_bind (wpAny_mono q (λv s₁ h₁=>?_) λ_ _ x=>x);obtain ⟨e,o,vs,C,bm,rfl,X,c,he,hc,hd,h1,hE⟩:=h₁;obtain ⟨nm,qn,N,bs,sn,sub,ab,col,dd,k0,k1,k2,k3,k5,lk⟩:=c.lk;have hC:=X _ _ lk;have z1:(Value.ref C::bm).contains (.type "BaseException")=true:=by rw[aaz,c.hb,ac5]
 obtain ⟨hp,g,d,tk,os⟩:=s₁;obtain ⟨oc,od,odt,osl⟩:=o;obtain rfl:oc=.ref C:=hc;obtain rfl:odt=.fields vs:=hd;dsimp only at X he hC hE;repeat (first | with_reducible refine wpAny_loadPart_at he ?_ | with_reducible refine wpAny_loadPart_at hC ?_ | (with_reducible refine wpAny_isSubtype_exc hC ?_;rw[z1]) | wp_step)
 rw[h1];refine wpAny_pure ?_;rw[if_neg (by decide)];exact wpAny_pure (wpAny_raiseNew_none hh hE)
theorem xmatch {s:Shared} {bC:List Value} {D:Addr} {Q:Bool→Shared→Prop} (X:K.In s.heap) (c:Xc K C bm) (cD:Xc K D bC) (hx:s.heap.get? x=some o) (hc:o.cls=.ref C) (q:Q ((Value.ref C::bm).contains (.ref D)) s):
  wpAny (model prog w) A (excMatches (.ref x) (.ref D)) Q E s:=by
 obtain ⟨nm,qn,N,bs,sn,sub,ab,col,dd,k0,k1,k2,k3,k5,lk⟩:=cD.lk;have hD:=X _ _ lk;have z1:(Value.ref D::bC).contains (.type "BaseException")=true:=by rw[aaz,cD.hb,ac5]
 have f:=tc_notTuple;obtain ⟨hp,g,d,tk,os⟩:=s;dsimp only at X hx hD q;have lx:=xtype (M:=model prog w) hx hc;have ls:=xsub (M:=model prog w) X c (.ref D);unfold excMatches;repeat (first | with_reducible refine wpAny_loadPart_at hD ?_ | (with_reducible refine wpAny_isSubtype_exc hD ?_;rw[z1]) | (with_reducible refine wpAny_loadPart_at hx ?_;rw[hc]) | wp_step)
 refine ls.here ?_;cases hb:(Value.ref C::bm).contains (.ref D) with
 | true=>
  rw[hb] at q;exact wpAny_pure (wpAny_pure (wpAny_pure q))
 | false=>
  rw[hb] at q;exact wpAny_pure (wpAny_pure (wpAny_pure q))
theorem Hs:W.specialIn K (.builtin "object.__class__") "__get__"=some (some (.builtin "getset_descriptor.__get__")):=by kernel_rfl
theorem Bd:W.takesIn K (.builtin "object.__class__")=some true:=by kernel_rfl
theorem xclass {od:Option Obj} {s:Shared} {Q:Option Value→Shared→Prop} (X:K.In s.heap) (c:Xc K C bm) (I:W.InstAt s.heap x o C od) (q:Q (some (.ref C)) { s with toks:=s.toks+1 }):wpAny (model prog w) A (getAttr? (.ref x) "__class__") Q E s:=by
 obtain ⟨nm,qn,N,bs,sn,sub,ab,col,dd,k0,k1,k2,k3,k5,lk⟩:=c.lk;have z1:(Value.ref C::bm).contains (.type "BaseException")=true:=by rw[aaz,c.hb,ac5]
 have z3:(Value.ref C::bm).contains (.type "object")=true:=by rw[aaz,c.ho,ac5]
 have J:W.Looks (model prog w) s.heap (isInstance (.ref x) (.type "BaseException")) true:=z1 ▸ xinst X c I.at_ I.cls (.type "BaseException");have z2:(Value.builtin "BaseException.__getattribute__"==Value.builtin "object.__getattribute__")=false:=by decide+kernel
 have hf:W.findObj K C od "__class__"=some (.bind (.builtin "getset_descriptor.__get__") (.builtin "object.__class__")):=by
  unfold W.findObj;rw[W.gj lk,ac9,c.fc,ac9];simp[Hs,Bd]
 have hm:W.mroIn K C (.type "object")=some true:=by
  unfold W.mroIn;rw[W.gj lk,ac9,if_neg (by simp),z3]
 have L0:=I.type (M:=model prog w);have L1:=W.looks_find (M:=model prog w) X I hf;obtain ⟨hh,g,d,t,os⟩:=s;dsimp only at X L0 L1 J q;unfold getAttr? getAttrBy? getAttrBy;refine wpAny_bind (wpAny_mkText (wpAny_bind (wpAny_attempt (wpAny_holding (wpAny_bind (W.Looks.here (s:=⟨hh,g,d,t+1,os⟩) L0 (wpAny_bind (W.Looks.here (s:=⟨hh,g,d,t+1,os⟩) (W.looks_findIn X c.fg) ?_))))))));dsimp only;rw[z2,adn,if_neg (by decide)];unfold getAttrByItsOwn hookBefore;refine wpAny_bind ((W.Looks.here (s:=⟨hh,g,d,t+1,os⟩) (W.looks_findIn X c.fh) ?_));refine wpAny_bind (wpAny_attempt (wpAny_holding ?_));unfold callGetattribute boundAndCalled;rw[if_neg (by decide),PySem.F.attr_ValueError.ga.bind (.ref x)];refine wpAny_bind (wpAny_pure (wpAny_call (codeAny_call_builtin PySem.F.attr_ValueError.ga.plain PySem.F.entry_bexc_ga
  (@W.check_slot (model prog w) _ _ ⟨hh,g,d,t+1,os⟩ "BaseException.__getattribute__" "BaseException" "__getattribute__" (.ref x) [.str "__class__" t] [] _ (by decide+kernel) (by decide+kernel) J (PySem.F.args_bexc_ga (.ref x) (.str "__class__" t)) ?_))))
 unfold Builtin.«object.__getattribute__»;refine wpAny_bind (wpAny_pure ?_);dsimp only;refine wpAny_bind (wpAny_pure (wpAny_bind (W.Looks.here (s:=⟨hh,g,d,t+1,os⟩) L0 (wpAny_bind (W.Looks.here (s:=⟨hh,g,d,t+1,os⟩) L1 ?_)))));show wpAny _ _ (holding [.builtin "object.__class__"] (call (.builtin "getset_descriptor.__get__") [.builtin "object.__class__",.ref x,.ref C]) >>=ret) _ _ _
 refine wpAny_bind (wpAny_holding (wpAny_call (W.class_get (s:=⟨hh,g,d,t+1,os⟩) (ox:=o) (od:=od) X I hm ?_)));refine wpAny_pure (wpAny_pure (wpAny_pure q))
theorem xkit {od:Option Obj} (c:Xc K C bm):W.KitX K (.ref x) (.ref C) (λh=>W.InstAt h x o C od) where
 ty:=λ_ _ _ I=>I.type
 it:=λ_ _ X _=>by
  obtain ⟨nm,qn,N,bs,sn,sub,ab,col,dd,k0,k1,k2,k3,k5,lk⟩:=c.lk;intro A' Q' E' s' k q;unfold isType loadHead;exact wpAny_bind (wpAny_loadPart (k _ _ (X _ _ lk)) (wpAny_pure q))
 ne:=λh tp dd' its n sl X htp=>by
  obtain ⟨nm,qn,N,bs,sn,sub,ab,col,dd,k0,k1,k2,k3,k5,lk⟩:=c.lk;refine Bool.eq_false_iff.mpr λq=>?_;have e:C=tp:=Value.ref.inj (beq_iff_eq.mp q);subst e;have z:=congrArg (λo:Option Obj=>o.map (·.cls)) ((X _ _ lk).symm.trans htp);have z2:Value.type "type"=Value.type "tuple":=aa6 z;exact absurd z2 (by decide)
 ca:=λX I k=>xclass X c I k
theorem yq {D:Addr} {bD:List Value} (c:Xc K C bm) (cD:Xc K D bD):W.kitOne K (.ref C) (.ref D)=some ((Value.ref C::bm).contains (.ref D)):=by
 obtain ⟨nm,qn,N,bs,sn,sub,ab,col,dd,k0,k1,k2,k3,k5,lk⟩:=c.lk;obtain ⟨nm',qn',N',bs',sn',vc,ab',col',dd',k0',k1',k2',k3',k5',lk'⟩:=cD.lk;unfold W.kitOne;by_cases e:(Value.ref C==Value.ref D)=true
 ·rw[if_pos e,aaz];rw[show (Value.ref D==Value.ref C)=true from by rw[beq_iff_eq] at e ⊢;exact e.symm];rfl
 ·rw[if_neg e];unfold W.kitCls;dsimp only;rw[if_pos (by rw[W.gj lk'];show (true&&((K.lookup D).map (·.cls))==some (Value.type "type"))=true;rw[lk'];rfl)];show W.mroIn K C (.ref D)=_
  unfold W.mroIn;rw[W.gj lk,ac9,if_neg (by simp)]
theorem xkitTy {T:String} (c:Xc K C bm) (hT:W.kitMeta T=true):W.kitOne K (.ref C) (.type T)=some (bm.contains (.type T)):=by
 obtain ⟨nm,qn,N,bs,sn,sub,ab,col,dd,k0,k1,k2,k3,k5,lk⟩:=c.lk;unfold W.kitOne;rw[if_neg (by intro z;cases beq_iff_eq.mp z)];unfold W.kitCls;dsimp only;rw[if_pos hT];show W.mroIn K C (.type T)=_
 unfold W.mroIn;rw[W.gj lk,ac9,if_neg (by simp),aaz];rfl
end
end PySem
namespace PySem
open Sem (wp)
theorem g6 {α:Type} {p q:α→Bool}:∀(l:List α) (i:Nat),l.findIdx? q=some i→(∀a∈l,q a=true→p a=false)→(l.eraseIdx i).find? p=l.find? p
 | [],i,h,_=>by simp at h
 | a::l,i,h,hq=>by
  rw[List.findIdx?_cons] at h;cases e:q a with
  | true=>
   rw[e] at h;have h':0=i:=by simpa using h
   subst h';rw[List.eraseIdx_cons_zero,abh,hq a aal e]
  | false=>
   rw[e] at h;simp only[abj,if_false,Option.map_eq_some_iff] at h;obtain ⟨j,hj,rfl⟩:=h;rw[adi,abh,abh,g6 l j hj λb hb=>hq b (aak _ hb)]
theorem uc {es:Array DictEntry} {name x:Str} {i:Nat} (hi:es.findIdx? (λe=>e.key.isStr name)=some i) (hx:x≠name):nsFind (es.eraseIdxIfInBounds i) x=nsFind es x:=by
 obtain ⟨l⟩:=es;simp only[nsFind,findBy,acp,List.find?_toArray,List.findIdx?_toArray] at hi ⊢;rw[g6 l i hi λa _ ha=>?_];cases e:a.key.isStr x with
 | false=>rfl
 | true=>exact absurd (Value.isStr_inj _ _ _ e ha) hx
section
variable {M:Model} {A:Around} {E:Value→Shared→Prop} {s:Shared} {env:Env}
theorem wo {a:Addr} {m:Str→Option Value} {name:Str} {v:Value} {Q:Bool→Shared→Prop} (hn:s.heap.Ns a m) (hv:m name=some v)
  (hQ:∀h' m',h'.Ns a m'→(∀y,y≠name→m' y=m y)→Heap.SameBut a s.heap h'→Q true { s with heap:=h' }):wpAny M A (nsDel a name) Q E s:=by
 obtain ⟨o,es,ep,ho,hd,hk,hm⟩:=id hn;have hs:es.any (·.key.isStr name)=true:=by
  have z:=hm name;rw[hv] at z;unfold nsFind findBy at z;obtain ⟨en,h1,_⟩:=Option.map_eq_some_iff.mp z;have h2:=Array.find?_some h1;obtain ⟨j,hj,e⟩:=Array.mem_iff_getElem.mp (Array.mem_of_find?_eq_some h1);exact Array.any_eq_true.mpr ⟨j,hj,by rw[e];exact h2⟩
 have hhas:nsHas name o=pure true:=by
  rw[nsHas_eq];unfold nsHasByArray;rw[hd];dsimp only;rw[if_pos hs]
 unfold nsDel;refine wpAny_bind (wpAny_loadPart ho ?_);rw[hhas];refine wpAny_bind (wpAny_pure ?_);rw[if_pos rfl];refine wpAny_bind (wpAny_updatePart ho (wpAny_pure ?_));obtain ⟨cl,d,dt,sl⟩:=o;subst hd;cases hi:es.findIdx? (·.key.isStr name) with
 | none=>
  exfalso
  obtain ⟨j,hj,hp⟩:=Array.any_eq_true.mp hs;have:=(Array.findIdx?_eq_none_iff.mp hi) es[j] (Array.getElem_mem hj);simp[hp] at this
 | some i=>
  refine hQ _ (nsFind (es.eraseIdxIfInBounds i)) ⟨_,_,ep+1,Heap.get?_update_self _ ho (by simp only[Obj.dropName_eq,Obj.dropNameByArray,hi] <;> rfl),(by simp only[Obj.dropName_eq,Obj.dropNameByArray,hi] <;> rfl),hk.erase i,λ_=>rfl⟩ (λy hy=>?_) (Heap.SameBut.update ..);rw[uc hi hy];exact hm y
theorem Bq {n:Str} {pos:Pos} {m:Str→Option Value} {Q:Unit→Shared→Prop} (hl:env.kindOf n=some .local) (hn:s.heap.Ns env.locals m)
  (hp:(env.scope.kind==.class||(env.scope.kind==.module&&env.locals !=env.globals))=false)
  (h:∀h' m',h'.Ns env.locals m'→(∀y,y≠n→m' y=m y)→Heap.SameBut env.locals s.heap h'→Q () { s with heap:=h',toks:=s.toks+1 }):
  wpAny M A (do bindName env n .none;unbindBehindTheSuite env n pos) Q E s:=by
 refine wpAny_bind (wpAny_bindName (wpAny_storeName_local hl hn (λh1 hn1 hs1=>?_) hp));unfold unbindBehindTheSuite;refine wpAny_onRaise ?_;unfold unbindName;refine wpAny_bind (wpAny_point (wpAny_bind ?_));unfold deleteName;simp only[hl,hp];rw[if_neg (by decide)];refine wpAny_bind (wo (v:=Value.none) hn1 (by simp) λh2 m2 hn2 ho2 hs2=>?_);simp only[Bool.not_true,abj,if_false];exact wpAny_pure (wpAny_point (h h2 m2 hn2 (λy hy=>by rw[ho2 y hy];simp[hy]) (hs1.trans hs2)))
end
end PySem
namespace L2
open PySem PySem.Spec PyProof.Rows
section
variable {X:Cx} {pins:List (Addr×Obj)} {σ:St} {H:Hp} {s:Shared} {n:Nat} {a:Addr}
theorem Inv.track {o:HO} (I:Inv X pins σ H s) (B:Bnd X pins n) (lo:n≤a) (un:H a=none) (ob:bz X.prog X.w (upd H a o) s.heap a o):Inv X pins σ (upd H a o) s:=by
 obtain ⟨h,g,d,t,os⟩:=s;have nn:∀b u,H b=some u→b≠a:=λb u e=>ag e un;refine I.step (h':=h) (H':=upd H a o) (g':=g) (t':=t) (d':=d) (ch:=[a]) (λb hb=>?_) (λb u _ _ _ e _=>e) (λb u _ _ _ e _=>⟨u.slots,e⟩) (λb u hb _ n=>?_) (λb u _ e=>⟨u,e⟩)
  (λb xs e=>by rw[af (nn b _ e)];exact e) (λb u v e=>by rw[af (nn b _ e)];exact e) (λb ps e=>⟨#[],by rw[af (nn b _ e),e];simp⟩) (λ_ m=>m) (λb u e=>?_) I.bare
 ·obtain rfl:b=a:=by simpa using hb
  exact ⟨.inr (aaw B.1 lo),ab2 (aaf B.2.1 lo),λx c e=>aap (aaf (B.2.2.1 x c e) lo),λp hp=>aap (aaf (B.2.2.2 p hp) lo)⟩
 ·rw[af (λz=>hb (by simp[z]))];exact n
 ·by_cases hb:b=a
  ·subst hb;rw[ae] at e;cases e
   exact ob
  ·rw[af hb] at e;exact (I.hok b u e).tm (λ_ _ _ q=>q) (λc q=>by rw[af (nn c _ q)];exact q) λc xs q=>by rw[af (nn c _ q)];exact q
end
def me (C:Addr) (E:XK) (t:TA):TS:=λ_ σ H=>t σ H λvs H1=>vs.length≤100∧E (.ref C) none H1
section
variable {X:Cx} {E:XK} {k:Nat} {f C:Addr} {bm:List Value} {fd:FuncData} {ps:List Str} {sp:Sp} {x:Str} {p cpos pos:Pos} {e:Expr} {es:List Expr} {t:TA}
theorem Ar (c:Xc X.K C bm) (hi:PySem.W.findIn X.K (.ref C) "__init__"=some (some (.builtin "ValueError.__init__"))) (hr:dr k X.A) (hm:X.mg x=some (.ref C)) (ha:PA (X.xp E) (e::es) t) (hg:Gl X x:=by rfl) (hdb:(x==("__debug__":Str))=false:=by decide+kernel)
  (he:starEach (e::es) X.env=(false,eval e X.env)::starEach es X.env:=by rfl) (hpl:(backTo cpos (starEach es X.env)).any (·.1)=false:=by rfl):
  PS (X.xp E) (.Raise (some (.Call (.Name x p) (e::es) [] cpos)) none pos) (me C E t):=by
 intro pins s σ H D I h;rw[arm_exec_Raise];refine wpAny_bind (wpAny_standAt (xraise (K:=X.K) hr.hd (wpAny_bind (wpAny_mono (wpAny_Call_Name_kw (jz I hg hm ?_ hdb)) (λv s₃ h₃=>wpAny_bind (wpAny_standAt (wpAny_pure h₃))) λ_ _ x=>x))));refine PySem.W.callWith_K (h₀:=X.base) I.ok.mod.kin c.kp (thn (ha cpos pins s σ H _ I h) λus s1 ⟨vs,H1,I1,r,hl,q⟩=>⟨I1.kIn,?_⟩) he hpl;have hl2:us.length≤sizeLine:=by
  rw[sizeLine_eq,←r.length];omega
 refine Dm I1.kIn c hi (λself=>PySem.W.Looks.of_pure (PySem.F.excBase_ValueError.init.bind self)) hl2 ?_;obtain ⟨h1,g,d,tk,os⟩:=s1;have kk:∀b o,h1.get? b=some o→((h1.push { cls:=.type "tuple",data:=.seq us.toArray }).push { cls:=.ref C,data:=.fields #[.ref h1.objs.size,.none,.none,.none,.bool false,.none] }).get? b=some o:=
  λb o e=>Heap.get?_push_of_some _ (Heap.get?_push_of_some _ e)
 have sz:(h1.push { cls:=.type "tuple",data:=.seq us.toArray }).objs.size=h1.objs.size+1:=Heap.size_push ..;have g1:=Heap.get?_push_size (h1.push { cls:=.type "tuple",data:=.seq us.toArray }) (o:={ cls:=.ref C,data:=.fields #[.ref h1.objs.size,.none,.none,.none,.bool false,.none] }) rfl;rw[sz] at g1;refine wpAny_call (Ab (λb o e=>kk b o (I1.kIn b o e)) c g1 rfl rfl hl2 ⟨rfl,?_⟩);have g2:=Heap.get?_update_self (Obj.mapFields (·.setIfInBounds 0 (Value.ref ((h1.push { cls:=.type "tuple",data:=.seq us.toArray }).push { cls:=.ref C,data:=.fields #[.ref h1.objs.size,.none,.none,.none,.bool false,.none] }).objs.size)))
  (Heap.get?_push_of_some { cls:=.type "tuple",data:=.seq us.toArray } g1) rfl
 have k3:∀b o,h1.get? b=some o→((((h1.push { cls:=.type "tuple",data:=.seq us.toArray }).push { cls:=.ref C,data:=.fields #[.ref h1.objs.size,.none,.none,.none,.bool false,.none] }).push { cls:=.type "tuple",data:=.seq us.toArray }).update (h1.objs.size+1)
   (Obj.mapFields (·.setIfInBounds 0 (Value.ref ((h1.push { cls:=.type "tuple",data:=.seq us.toArray }).push { cls:=.ref C,data:=.fields #[.ref h1.objs.size,.none,.none,.none,.bool false,.none] }).objs.size)))).get? b=some o:=λb o e=>
  (Heap.get?_update_other _ _ (ab2 (ac3 (Heap.lt_size e)))).trans (Heap.get?_push_of_some _ (kk b o e))
 have I3:=I1.kept (t':=tk) k3;exact ⟨_,_,_,C,bm,rfl,I3.kIn,c,g2,rfl,rfl,rfl,pins,σ,H1,h1.objs.size,_,.ref C,none,rfl,I3.cy,I1.cy.bnd,⟨adm _,I1.hok.fresh (adm _),_,_,g2,rfl,rfl,rfl,(by show 1 < 6;decide),.inl rfl⟩,q⟩
end
end L2
namespace L2
open PySem PySem.Spec PyProof.Rows
def XIs (K:PySem.W.Frag) (H:Hp) (x:V) (C:Addr) (bm:List Value):Prop:=Xc K C bm∧∃a dx nw,x=.ref a∧H a=some (XO a C dx nw)∧(dx=none∨∃d fs,dx=some d∧H d=some (XD d fs))
section
variable {X:Cx} {pins:List (Addr×Obj)} {σ:St} {H:Hp} {s:Shared}
theorem o7 {a C:Addr} {dx:Option Addr} {nw:Bool} (I:Inv X pins σ H s) (ea:H a=some (XO a C dx nw)) (ed:dx=none∨∃d fs,dx=some d∧H d=some (XD d fs)):∃o od,PySem.W.InstAt s.heap a o C od:=by
 obtain ⟨o,vv,g1,g2,g3,g4,g5⟩:=XO.get I.hok ea;have no:PySem.W.notCls o=true:=by unfold PySem.W.notCls;rw[g4]
 rcases ed with rfl | ⟨d,fs,rfl,e⟩
 ·exact ⟨o,none,g1,g2,no,by rw[g3];exact True.intro⟩
 ·obtain ⟨mA,⟨od,_,_,n1,_⟩,_⟩:=XD.get I.hok e;exact ⟨o,some od,g1,g2,no,by rw[g3];exact n1⟩
end
section
variable {X:Cx}
theorem ug:fj X (.builtin "isinstance") (λxs H Q=>∃x C bm D bD,xs=[x,.ref D]∧XIs X.K H x C bm∧Xc X.K D bD∧Q (.bl ((Value.ref C::bm).contains (.ref D))) H):=by
 intro pins s σ H xs us Q I r h;obtain ⟨x,C,bm,D,bD,rfl,⟨c,a,dx,nw,rfl,ea,ed⟩,cD,q⟩:=h;obtain ⟨u,u2,rfl,rx,r2⟩:=vals2 r;cases (show u=Value.ref a from rx)
 cases (show u2=Value.ref D from r2)
 obtain ⟨o,od,J⟩:=o7 I ea ed;exact PySem.W.kia_one (xkit c) I.kIn J (yq c cD) (λz=>nomatch z) λtk=>⟨.bl _,H,I.tok tk,rfl,q⟩
theorem uh:fj X (.builtin "isinstance") (λxs H Q=>∃x C bm n,xs=[x,.ty n]∧XIs X.K H x C bm∧PySem.W.kitMeta n=true∧Q (.bl (bm.contains (.type n))) H):=by
 intro pins s σ H xs us Q I r h;obtain ⟨x,C,bm,n,rfl,⟨c,a,dx,nw,rfl,ea,ed⟩,hn,q⟩:=h;obtain ⟨u,u2,rfl,rx,r2⟩:=vals2 r;cases (show u=Value.ref a from rx)
 cases (show u2=Value.type n from r2)
 obtain ⟨o,od,J⟩:=o7 I ea ed;exact PySem.W.kia_one (xkit c) I.kIn J (xkitTy c hn) (λz=>nomatch z) λtk=>⟨.bl _,H,I.tok tk,rfl,q⟩
theorem pj:∀{cs:List Addr} {us:List Value},Vals (cs.map V.ref) us→us=cs.map Value.ref
 | [],_,.nil=>rfl
 | c::cs,_,.cons r t=>by
  rw[ab0,pj t];cases r
  rfl
theorem qt {K:PySem.W.Frag} {C:Addr} {bm:List Value} (c:Xc K C bm):∀{cs:List Addr},(∀D∈cs,∃bD,Xc K D bD)→PySem.W.kitAny K (.ref C) (cs.map Value.ref)=some (cs.any λD=>(Value.ref C::bm).contains (.ref D))
 | [],_=>rfl
 | D::cs,h=>by
  obtain ⟨bD,cD⟩:=h D aal;rw[ab0,PySem.W.kitAny,yq c cD,acn,qt c λD' h'=>h D' (aak _ h')];cases (Value.ref C::bm).contains (.ref D) <;> rfl
theorem mz {K:PySem.W.Frag}:∀{cs:List Addr},(∀D∈cs,∃bD,Xc K D bD)→PySem.W.kitAny K (.type "NoneType") (cs.map Value.ref)=some false
 | [],_=>rfl
 | D::cs,h=>by
  obtain ⟨bD,cD⟩:=h D aal;obtain ⟨nm',qn',N',bs',sn',vc,ab',col',dd',k0',k1',k2',k3',k5',lk'⟩:=cD.lk;have e:PySem.W.kitOne K (.type "NoneType") (.ref D)=some false:=by
   unfold PySem.W.kitOne;rw[if_neg (by intro z;cases beq_iff_eq.mp z)];unfold PySem.W.kitCls;dsimp only;rw[if_pos (by rw[PySem.W.gj lk'];show (true&&((K.lookup D).map (·.cls))==some (Value.type "type"))=true;rw[lk'];rfl)];show (fastBuiltinMro "NoneType").map (·.contains (Value.ref D))=some false
   rw[show fastBuiltinMro "NoneType"=some [Value.type "NoneType",Value.type "object"] from by kernel_rfl];rfl
  rw[ab0,PySem.W.kitAny,e];exact mz λD' h'=>h D' (aak _ h')
theorem uo:fj X (.builtin "isinstance") (λxs H Q=>∃(x:V) (p:Addr) (cs:List Addr) (b:Bool),xs=[x,.ref p]∧H p=some (.tup (cs.map V.ref))∧(∀D∈cs,∃bD,Xc X.K D bD)∧
  ((x=.non∧b=false)∨∃C bm,XIs X.K H x C bm∧b=cs.any λD=>(Value.ref C::bm).contains (.ref D))∧Q (.bl b) H):=by
 intro pins s σ H xs us Q I r h;obtain ⟨x,p,cs,b,rfl,hp,hcs,hx,q⟩:=h;obtain ⟨u,u2,rfl,rx,r2⟩:=vals2 r;cases (show u2=Value.ref p from r2)
 obtain ⟨_,its,ri,o,h1,h2,k,h3,h4⟩:=(show bz X.prog X.w H s.heap p (.tup (cs.map V.ref)) from I.hok p _ hp);obtain rfl:=pj ri;obtain ⟨cls,dd,data,sl⟩:=o;cases (show cls=.type "tuple" from h2)
 cases (show data=.seq (cs.map Value.ref).toArray k from h3)
 have fin:∀tk:Nat,∃y H',Inv X pins σ H' { s with toks:=tk }∧RelV y (Value.bool b)∧Q y H':=λtk=>⟨.bl b,H,I.tok tk,rfl,q⟩;rcases hx with ⟨rfl,rfl⟩ | ⟨C,bm,⟨c,a,dx,nw,rfl,ea,ed⟩,rfl⟩
 ·cases (show u=Value.none from rx)
  exact PySem.W.kia_tup PySem.W.kitx_none I.kIn True.intro h1 (mz hcs) (λz=>nomatch z) fin
 ·cases (show u=Value.ref a from rx)
  obtain ⟨o',od,J⟩:=o7 I ea ed;exact PySem.W.kia_tup (xkit c) I.kIn J h1 (qt c hcs) (λz=>nomatch z) fin
end
def XF (X:Cx) (pins:List (Addr×Obj)) (σ:St) (E:XK):Value→Shared→Prop:=λe s'=>∃H' n a cls dx,e=.ref a∧Inv X pins σ H' s'∧Bnd X pins n∧Fly n H' s'.heap a cls dx∧E cls dx H'
abbrev TX:=Ends→XK→St→Hp→Prop
def PXS (X:Cx) (st:List Stmt) (t:TX):Prop:=
 ∀(pins:List (Addr×Obj)) (s:Shared) (σ:St) (H:Hp) (D:Ends) (E:XK),Inv X pins σ H s→t D E σ H→wpAny (model X.prog X.w) X.A (execs st X.env) (SP X pins D) (XF X pins σ E) s
noncomputable def tXSet (i:Nat) (sp:Sp) (t:TA):TX:=λD E σ H=>t σ H λvs H1=>sp vs H1 (λv H2=>D.nx (σ.set i (some v)) H2) E
section
variable {X:Cx} {k:Nat} {ps:List Str} {sp:Sp} {x:Str} {p pos epos:Pos} {e:Expr} {es:List Expr} {t:TA}
theorem Gg (h:i4 X.prog X.w X.K X.mg X.base k x ps sp) (hr:dr k X.A) (ha:PA X.nox (e::es) t) (hg:Gl X x) (hdb:(x==("__debug__":Str))=false)
  (he:starEach (e::es) X.env=(false,eval e X.env)::starEach es X.env) (hpl:(backTo pos (starEach es X.env)).any (·.1)=false)
  {pins:List (Addr×Obj)} {s:Shared} {σ:St} {H:Hp} {Q:VK} {E:XK} (I:Inv X pins σ H s) (w:t σ H λvs H1=>sp vs H1 Q E):
  wpAny (model X.prog X.w) X.A (eval (.Call (.Name x p) (e::es) [] pos) X.env) (EP X pins σ Q) (XF X pins σ E) s:=by
 obtain ⟨f,fd,F,b,kp,m⟩:=h;refine wpAny_Call_Name_kw (jz I hg m ?_ hdb);refine PySem.W.callWith_K (h₀:=X.base) I.ok.mod.kin kp (wpAny_mono (ha pos pins s σ H _ (I.jt _) w) (λus s1 ⟨vs,H1,I1',r,q⟩=>?_) λ_ _ z=>False.elim z) he hpl;have I1:=I1'.cy;refine ⟨I1.kIn,?_⟩;have hl:us.length=ps.length:=by rw[←r.length];exact F.len _ _ _ _ q
 refine wpAny_call (codeAny_mono (F.run X.A X.stack s1 H1 ⟨us,[]⟩ us vs Q E hr I1.gb (by have z:=b s1 us I1.kIn (by rw[abk];exact hl);rw[abk] at z;exact z) r q) λr s' hq=>?_);cases r with
 | error e=>
  obtain ⟨H',a,cls,dx,rfl,os,bare,un,hok,F',qE⟩:=hq;exact ⟨H',_,a,cls,dx,rfl,I1.Df (ch:=[]) os un hok bare (λb z=>absurd z (by simp)),I1.bnd,F',qE⟩
 | ok fl=>
  cases fl with
  | ret u=>exact I1.after hq
  | next=>exact False.elim hq
  | brk=>exact False.elim hq
  | cont=>exact False.elim hq
theorem Fu {i:Nat} {z:Str} {zp:Pos} (hN:X.N.Nodup) (hi:X.N[i]?=some z) (hz:Loc X.env.scope z) (h:i4 X.prog X.w X.K X.mg X.base k x ps sp) (hr:dr k X.A) (ha:PA X.nox (e::es) t) (hg:Gl X x:=by rfl) (hdb:(x==("__debug__":Str))=false:=by decide+kernel)
  (he:starEach (e::es) X.env=(false,eval e X.env)::starEach es X.env:=by rfl) (hpl:(backTo pos (starEach es X.env)).any (·.1)=false:=by rfl) (hs:swapsWith (.Call (.Name x p) (e::es) [] pos) (some (.Name z zp)) epos.line X.env=pure false:=by rfl)
  (hf:X.fn z=true∨X.env.scope.names.lookup z=some .local:=by first | exact .inl rfl | exact .inr rfl | assumption):
  PXS X [.Assign [.Name z zp] (.Call (.Name x p) (e::es) [] pos) epos] (tXSet i sp t):=by
 intro pins s σ H D E I w;refine wpAny_execs_cons (wpAny_Assign_Name (thn (Gg h hr ha hg hdb he hpl I w) λv s1 ⟨y,H1,I1,r1,q1⟩=>?_) hs);exact kg I1 hN hi hz r1 (λs2 I2=>wpAny_execs_nil ⟨_,H1,I2,q1⟩) hf
end
section
variable {X:Cx} {pins:List (Addr×Obj)} {σ:St} {H:Hp} {s:Shared}
theorem Inv.locs {h':Heap} {m m':Str→Option Value} {t':Nat} (I:Inv X pins σ H s) (hl:∀(i:Nat) (x:Str) (v:V),X.N[i]?=some x→σ[i]?=some (some v)→Vis X.env.scope x→∃u,RelV v u∧Look X.env s.heap m x u)
  (hm:∀(i:Nat) (x:Str) (v:V),X.N[i]?=some x→σ[i]?=some (some v)→m' x=m x) (hn:h'.Ns X.env.locals m') (sb:Heap.SameBut X.env.locals s.heap h'):Inv X pins σ H { s with heap:=h',toks:=t' }:=by
 have neL:∀b o,X.s₀.heap.get? b=some o→b≠X.env.locals:=λb o e=>aap (aaf (Heap.lt_size e) I.ok.above);have cl:∀y c v,X.env.cells.lookup y=some c→s.heap.IsCell c v→h'.IsCell c v:=λy c v e z=>z.sameBut sb (I.cne y c e);refine ⟨I.ok,I.os,I.bare,⟨λb o e n hb hx=>?_,λb o e n hb hx=>?_,I.base.free,λb o e hx=>?_,I.base.tups,I.base.frzs,I.base.tbls⟩,⟨m',hn,λi x v e1 e2 e3=>?_⟩,λy c e=>?_,I.free,I.freeC,λp hp=>?_,λb u e=>?_,I.len⟩
 ·exact (sb.2 b (neL b o e)).trans (I.base.keep b o e n hb hx)
 ·obtain ⟨sl,e1⟩:=I.base.slot b o e n hb hx;exact ⟨sl,(sb.2 b (neL b o e)).trans e1⟩
 ·obtain ⟨o',e1⟩:=I.base.there b o e hx;exact ⟨o',(sb.2 b (neL b o e)).trans e1⟩
 ·obtain ⟨u,r,l⟩:=hl i x v e1 e2 e3;refine ⟨u,r,?_⟩;rcases l with ⟨k,e⟩ | ⟨k,c,e,z⟩
  ·exact .inl ⟨k,by rw[hm i x v e1 e2];exact e⟩
  ·exact .inr ⟨k,c,e,cl x c _ e z⟩
 ·obtain ⟨v,z⟩:=I.cell y c e;exact ⟨v,cl y c v e z⟩
 ·obtain ⟨e,n,ne,nf,d⟩:=I.pin p hp;exact ⟨(sb.2 p.1 ne).trans e,n,ne,nf,d⟩
 ·refine (I.hok b u e).tm (λc v hc q=>(sb.2 c ?_).trans q) (λ_ q=>q) λ_ _ q=>q;rintro rfl;rcases hc with rfl | hc
  ·rw[I.free] at e;cases e
  ·rw[I.free] at hc;cases hc
theorem Inv.gone {M:Model} {A:Around} {E:Value→Shared→Prop} {i:Nat} {n:Str} {pos:Pos} {Q:Unit→Shared→Prop} (I:Inv X pins σ H s) (hN:X.N.Nodup) (hi:X.N[i]?=some n) (hk:X.env.scope.names.lookup n=some .local)
  (q:∀s',Inv X pins (σ.set i none) H s'→Q () s'):wpAny M A (do bindName X.env n .none;unbindBehindTheSuite X.env n pos) Q E s:=by
 have hcls:(X.env.scope.kind==.class||(X.env.scope.kind==.module&&X.env.locals !=X.env.globals))=false:=by rw[I.ok.kind];rfl
 have hiσ:i < σ.length:=by rw[I.len];exact (List.getElem?_eq_some_iff.mp hi).1
 have wk:∀(j:Nat) v,(σ.set i none)[j]?=some (some v)→j≠i∧σ[j]?=some (some v):=λj v e=>by
  by_cases hj:j=i
  ·subst hj;rw[ack hiσ] at e;cases e
  ·rw[acq (Ne.symm hj)] at e;exact ⟨hj,e⟩
 have I1:Inv X pins (σ.set i none) H s:=I.weak (ae9 ..) λj v e=>(wk j v e).2;obtain ⟨m,hn,hl⟩:=id I1.loc;refine Bq hk hn hcls λh' m' hn' ho sb=>q _ (I1.locs hl (λj x v e1 e2=>ho x λz=>?_) hn' sb);subst z;exact (wk j v e2).1 (ou hN e1 hi)
noncomputable abbrev Cx.inX (X:Cx) (a:Addr):Cx:={ X with A:=X.A.mark (some (.ref a)),calm:=false }
theorem Cx.Ok.inX {a:Addr} (ok:X.Ok):(X.inX a).Ok:=
 ⟨ok.mod,ok.kind,ok.glob,ok.blt,ok.above,ok.inj,ok.has,ok.cab,λz=>ade z,ok.frames,ok.stk,ok.exf,ok.bs,ok.bsz,ok.noex,ok.exfs,ok.la,ok.frf⟩
theorem Inv.inX {a:Addr} (I:Inv X pins σ H s):Inv (X.inX a) pins σ H s:=⟨I.ok.inX,I.os,I.bare,I.base,I.loc,I.cell,I.free,I.freeC,I.pin,I.hok,I.len⟩
theorem Inv.outX {a:Addr} (ok:X.Ok) (I:Inv (X.inX a) pins σ H s):Inv X pins σ H s:=⟨ok,I.os,I.bare,I.base,I.loc,I.cell,I.free,I.freeC,I.pin,I.hok,I.len⟩
end
def tTry (K:PySem.W.Frag) (D:Addr) (ie:Nat) (tb:TX) (ts:TS):TS:=λDn σ H=>tb Dn (λcls dx H2=>∃C bm,cls=.ref C∧Xc K C bm∧(Value.ref C::bm).contains (.ref D)=true∧
 ∀a,H2 a=none→ts { nx:=λσ' H'=>Dn.nx (σ'.set ie none) H',rt:=Dn.rt,bk:=λσ' H'=>Dn.bk (σ'.set ie none) H',ct:=λσ' H'=>Dn.ct (σ'.set ie none) H' } (σ.set ie (some (.ref a))) (upd H2 a (XO a C dx false))) σ H
section
variable {X:Cx} {D:Addr} {bD:List Value} {ie:Nat} {n y:Str} {cp hpos tpos:Pos} {body suite:List Stmt} {b₀:Stmt} {tb:TX} {ts:TS}
theorem ps_try (S:vw X) (hN:X.N.Nodup) (hi:X.N[ie]?=some n) (hk:X.env.scope.names.lookup n=some .local) (hf:X.fn n=true) (cD:Xc X.K D bD) (hm:X.mg y=some (.ref D)) (hb:PXS X body tb) (hs:∀a,PSs (X.inX a).nox (b₀::suite) ts)
  (hg:Gl X y:=by rfl) (hdb:(y==("__debug__":Str))=false:=by decide+kernel):PS X (.Try body [.ExceptHandler (some (.Name y cp)) (some n) (b₀::suite) hpos] [] [] tpos) (tTry X.K D ie tb ts):=by
 intro pins s σ H Dn I h;refine wpAny_Try_except (wpAny_mono (hb pins s σ H _ _ I h) (λf s1 q=>?_) λe s1 z=>?_)
 ·cases f with
  | next=>exact wpAny_execs_nil q
  | ret v=>exact q
  | brk=>exact q
  | cont=>exact q
 ·obtain ⟨H1,nn,a,cls,dx,rfl,I1,B,F,C,bm,rfl,c,hc,q⟩:=z;refine wy I1 B F S rfl rfl λh2 I2 F2=>?_;refine fq I2 B F2 λh3 I3 F3=>?_;have I3':Inv (X.inX a) pins σ H1 { s1 with heap:=h3 }:=I3.inX;refine wpAny_handleBy_cons (codeAny_handlers_test (jz I3' hg hm ?_ hdb)) (by intro q;cases q);obtain ⟨oe,vs,f1,f2,f3,f4,f5,T,oT,ts',k1,k2,k3,k4,k5,k6,k7⟩:=F3.ob;refine xmatch (K:=X.K) I3.kIn c cD f1 f2 ?_;rw[hc];refine codeAny_handlers_suite_as (fq I3 B F3 λh4 I4 F4=>?_);obtain ⟨oe,vs,f1,f2,f3,f4,f5,T,oT,ts',k1,k2,k3,k4,k5,k6,k7⟩:=F4.ob;have I5:=I4.track (o:=XO a C dx false) B F4.lo F4.un (XO.mk ⟨oe,vs,f1,f2,f3,f4,λz=>ade z⟩);refine kg I5 hN hi (.inl hk) (v:=.ref a) rfl (λs6 I6=>?_) (.inl hf);refine wpAny_mono (hs a pins s6 _ _ _ (I6.inX.jt _) (q a F4.un)) (λf s7 w=>?_) λ_ _ z=>False.elim z;cases f with
  | next=>
   obtain ⟨σ7,H7,J,w⟩:=w;exact (J.cy.outX I6.ok).gone hN hi hk λs8 J8=>⟨_,H7,J8,w⟩
  | brk=>
   obtain ⟨σ7,H7,J,w⟩:=w;exact (J.cy.outX I6.ok).gone hN hi hk λs8 J8=>⟨_,H7,J8,w⟩
  | cont=>
   obtain ⟨σ7,H7,J,w⟩:=w;exact (J.cy.outX I6.ok).gone hN hi hk λs8 J8=>⟨_,H7,J8,w⟩
  | ret u=>
   obtain ⟨v,σ7,H7,J,r,w⟩:=w;exact (J.cy.outX I6.ok).gone hN hi hk λs8 J8=>⟨v,_,H7,J8,r,w⟩
end
end L2
namespace L2
open PySem PySem.Spec PyProof.Rows
section
variable {X:Cx} {E:XK} {k:Nat} {C:Addr} {bm:List Value} {ps:List Str} {sp:Sp} {x:Str} {p cpos pos:Pos} {e:Expr} {es:List Expr} {t:TA}
end
end L2
namespace Pc
open PySem PySem.Spec L2 PyProof.Rows
structure Cl where
 cov:Addr
 noTerm:Addr
 noBox:Addr
 badCover:Addr
 noCover:Addr
 badRow:Addr
 noValue:Addr
 twice:Addr
 noName:Addr
 badShape:Addr
 badDeed:Addr
 unsound:Addr
noncomputable def Cl.all (c:Cl):List Addr:=[c.cov,c.noTerm,c.noBox,c.badCover,c.noCover,c.badRow,c.noValue,c.twice,c.noName,c.badShape,c.badDeed,c.unsound]
noncomputable abbrev vbm:List Value:=[.type "ValueError",.type "Exception",.type "BaseException",.type "object"]
noncomputable abbrev cbm (c:Cl):List Value:=.ref c.cov::vbm
structure Errs (K:PySem.W.Frag) (mg:Str→Option Value) (c:Cl):Prop where
 nd:c.all.Nodup
 m_cov:mg "CoverError"=some (.ref c.cov)
 m_noTerm:mg "NoTerm"=some (.ref c.noTerm)
 m_noBox:mg "NoBox"=some (.ref c.noBox)
 m_badCover:mg "BadCover"=some (.ref c.badCover)
 m_noCover:mg "NoCover"=some (.ref c.noCover)
 m_badRow:mg "BadRow"=some (.ref c.badRow)
 m_noValue:mg "NoValue"=some (.ref c.noValue)
 m_twice:mg "Twice"=some (.ref c.twice)
 m_noName:mg "NoName"=some (.ref c.noName)
 m_badShape:mg "BadShape"=some (.ref c.badShape)
 m_badDeed:mg "BadDeed"=some (.ref c.badDeed)
 m_unsound:mg "Unsound"=some (.ref c.unsound)
 x_cov:Xc K c.cov vbm
 x_noTerm:Xc K c.noTerm (cbm c)
 x_noBox:Xc K c.noBox (cbm c)
 x_badCover:Xc K c.badCover (cbm c)
 x_noCover:Xc K c.noCover (cbm c)
 x_badRow:Xc K c.badRow (cbm c)
 x_noValue:Xc K c.noValue (cbm c)
 x_twice:Xc K c.twice (cbm c)
 x_noName:Xc K c.noName (cbm c)
 x_badShape:Xc K c.badShape (cbm c)
 x_badDeed:Xc K c.badDeed (cbm c)
 x_unsound:Xc K c.unsound (cbm c)
 r_cov:PySem.W.readsIn K c.cov (.type "type")=true
 t_cov:PySem.W.typeIn K (.ref c.cov)=some (.type "type")
 f_cov:PySem.W.findCls K (.ref c.cov) (.type "type") "__init__"=some (.val (.builtin "ValueError.__init__"))
theorem Xc.mk' {K:PySem.W.Frag} {C:Addr} {bm:List Value} {nm q:Str} {N:Addr} {bs:List Value} {sn:List Str} {sub:List Value} {ab:Bool} {col:Option Bool} {dd:Option Addr} {k0 k1 k2 k3 k5:Option Value}
  (lk:K.lookup C=some (excClassObj nm q C N bs bm true sn sub ab col dd k0 k1 k2 k3 k5 "ValueError.__new__")) (kp:PySem.W.keepIn K (.ref C)=true) (fs:PySem.W.findIn K (.ref C) "__setattr__"=some (some (.builtin "object.__setattr__")))
  (fg:PySem.W.findIn K (.ref C) "__getattribute__"=some (some (.builtin "BaseException.__getattribute__"))) (fh:PySem.W.findIn K (.ref C) "__getattr__"=some none) (fc:PySem.W.findIn K (.ref C) "__class__"=some (some (.builtin "object.__class__")))
  (hb:bm=vbm∨∃D,bm=.ref D::vbm):Xc K C bm where
 lk:=⟨_,_,_,_,_,_,_,_,_,_,_,_,_,_,lk⟩
 hv:=by rcases hb with rfl | ⟨D,rfl⟩ <;> rfl
 hb:=by rcases hb with rfl | ⟨D,rfl⟩ <;> rfl
 ha:=by rcases hb with rfl | ⟨D,rfl⟩ <;> rfl
 hn:=by rcases hb with rfl | ⟨D,rfl⟩ <;> rfl
 ho:=by rcases hb with rfl | ⟨D,rfl⟩ <;> rfl
 kp:=kp
 sa:=λself=>by
  rcases hb with rfl | ⟨D,rfl⟩
  ·exact PySem.F.store_ValueError.passes self
  ·rw[refuseLoop_ref];exact PySem.F.store_ValueError.passes self
 fs:=fs
 fg:=fg
 fh:=fh
 fc:=fc
theorem isC {c:Cl} {C D:Addr}:(Value.ref C::cbm c).contains (.ref D)=(decide (D=C)||decide (D=c.cov)):=by
 rw[aaz,aaz];have e1:(Value.ref D==Value.ref C)=decide (D=C):=by
  by_cases h:D=C
  ·rw[h,decide_eq_true rfl];simp
  ·rw[decide_eq_false h];exact Bool.eq_false_iff.mpr λz=>h (Value.ref.inj (beq_iff_eq.mp z))
 have e2:(Value.ref D==Value.ref c.cov)=decide (D=c.cov):=by
  by_cases h:D=c.cov
  ·rw[h,decide_eq_true rfl];simp
  ·rw[decide_eq_false h];exact Bool.eq_false_iff.mpr λz=>h (Value.ref.inj (beq_iff_eq.mp z))
 have e3:(vbm.contains (Value.ref D))=false:=rfl;rw[e1,e2,e3,ad6]
theorem anyC {c:Cl} {C:Addr} {cs:List Addr} (h:∀D∈cs,D≠C∧D≠c.cov):(cs.any λD=>(Value.ref C::cbm c).contains (.ref D))=false:=by
 rw[ae3];intro D hD;rw[isC,decide_eq_false (h D hD).1,decide_eq_false (h D hD).2];decide
theorem Errs.ne {K:PySem.W.Frag} {mg:Str→Option Value} {κ:Cl} (er:Errs K mg κ) (i j:Nat) {C D:Addr} (hi:κ.all[i]?=some D) (hj:κ.all[j]?=some C) (hij:i≠j):D≠C:=λe=>by
 subst e;obtain ⟨h1,e1⟩:=List.getElem?_eq_some_iff.mp hi;obtain ⟨h2,e2⟩:=List.getElem?_eq_some_iff.mp hj;exact hij ((aco er.nd).mp (e1.trans e2.symm))
theorem se:bootBuiltins "ValueError"=some (.type "ValueError"):=by decide+kernel
end Pc
namespace Pc
open PySem PySem.Spec L2 PyProof.Rows
theorem find_name {rs:List Rl} (nd:(rs.map (·.name)).Nodup):∀{i:Nat} {r:Rl},rs[i]?=some r→rs.find? (λx=>decide (x.name=r.name))=some r:=by
 induction rs with
 | nil=>intro i r h;simp at h
 | cons x rs ih=>
  intro i r h;have nd:(x.name::rs.map (·.name)).Nodup:=nd;obtain ⟨n1,n2⟩:=List.nodup_cons.mp nd;cases i with
  | zero=>
   cases h
   rw[List.find?_cons_of_pos (by simp)]
  | succ i=>
   have h:rs[i]?=some r:=h;have ne:¬x.name=r.name:=λe=>n1 (e ▸ List.mem_map.mpr ⟨r,aad h,rfl⟩);rw[List.find?_cons_of_neg (by simpa using ne)];exact ih n2 h
section
variable {kinds:List Str} {rs:List Rl} {ws:List V} {g:Ky→Option Int}
end
end Pc
namespace Pc
open PySem PySem.Spec L2 PyProof.Rows
def gu (H:Hp) (t:Addr) (r:Rl) (u:Und):Prop:=∃ra ut:Addr,H t=some (.tup [.ref ra,.ref ut])∧fw H ra r∧m5 H ut u
def KsAt (H:Hp) (l:Addr) (ks:List Ky):Prop:=∃as:List Addr,H l=some (.lst (as.map V.ref))∧as.length=ks.length∧∀(j:Nat) (k:Ky),ks[j]?=some k→∃a,as[j]?=some a∧H a=some (kyT k)
def sd:Sp:=λvs H Q _=>∃(b t:Addr) (kinds:List Str) (rs:List Rl) (r:Rl) (u:Und),vs=[.ref b,.ref t]∧bo H b kinds rs∧Bk kinds rs∧r∈rs∧gu H t r u∧u.hs.length=(aw kinds r.shape).length∧∀(l:Addr) (H':Hp),ak H H'→H l=none→KsAt H' l (u.hs.zip (aw kinds r.shape)).reverse→Q (.ref l) H'
theorem mkLast {b t:Addr} {kinds:List Str} {rs:List Rl} {r:Rl} {u:Und} {H:Hp} {Q:VK} {E:XK} (p0:bo H b kinds rs) (p1:Bk kinds rs) (p2:r∈rs) (p3:gu H t r u) (p4:u.hs.length=(aw kinds r.shape).length) (p5:∀(l:Addr) (H':Hp),ak H H'→H l=none→KsAt H' l (u.hs.zip (aw kinds r.shape)).reverse→Q (.ref l) H'):sd [.ref b,.ref t] H Q E:=⟨b,t,kinds,rs,r,u,rfl,p0,p1,p2,p3,p4,p5⟩
end Pc
namespace L2.Lrv
open PySem PySem.Spec PyProof.Rows PySem.W
theorem x6:typeLookup (.type "list_reverseiterator") "__len__"=pure none:=by rw[typeLookup_type,builtinLookup_eq_fast];kernel_rfl
theorem hint:typeLookup (.type "list_reverseiterator") "__length_hint__"=pure (some (.builtin "list_reverseiterator.__length_hint__")):=by rw[typeLookup_type,builtinLookup_eq_fast];kernel_rfl
section
variable {prog:Program} {w:World} {A:Around} {E:Value→Shared→Prop} {s:Shared} {r:Addr}
theorem Dh {Q:Bool→Shared→Prop} (hT:s.TypeIs (.ref r) "list_reverseiterator") (h:Q false s):wpAny (model prog w) A (Builtin.List.listLengthHint (.ref r)) Q E s:=by
 unfold Builtin.List.listLengthHint;refine wpAny_bind (wpAny_specialOf hT x6 ?_);show wpAny _ A (specialOf (Value.ref r) (Str.ofString "__length_hint__") >>=_) _ _ _
 refine wpAny_bind (wpAny_specialOf hT hint ?_);generalize hid:("list_reverseiterator.__length_hint__":String)=id0;wp_delta
 rw[show splitId id0=some ("list_reverseiterator","__length_hint__") from by subst hid;decide+kernel];subst hid;refine wpAny_bind (wpAny_isInstance (T:="list_reverseiterator") (b:=true) hT (by rw[isSubtype_type];kernel_rfl) ?_);refine wpAny_ite_split (λhab=>absurd hab (by decide)) (λ_=>?_);refine wpAny_ite_split (λ_=>?_) (λhab=>absurd (by decide+kernel) hab);refine wpAny_ite_split (λhab=>absurd hab (by decide+kernel)) (λ_=>?_);exact wpAny_pure h
theorem xb {R:Result→Shared→Prop} {I l:Addr} {items:Array Value} (hh:A.handled=none) (hI:s.heap.IsRevIter I l ((items.size:Int) - 1)) (hl:s.heap.IsList l items) (hne:l≠I) (hn:items.size≤sizeLine) (S:Addr) (hSI:S≠I) (hSl:S≠l) (res:Value) (c₀:Nat) (hS:s.heap.get? S=some { cls:=.type "list",data:=.seq #[] c₀ })
  (hR:∀h' tk acc' c',(∀b o,b≠S→b≠I→s.heap.get? b=some o→h'.get? b=some o)→h'.get? S=some { cls:=.type "list",dict:=none,data:=.seq acc' c',slots:=#[] }→ItemsOf (λi v=>items[items.size - 1 - i]?=some v) acc' items.size→R (.ok (.ret res)) { s with heap:=h',toks:=tk }):
  wpAny (model prog w) A.in1 (Builtin.List.listExtendWith (.ref S) (.ref I) res)
   (λfin s'=>match fin with | .done f=>R (.ok f) s' | .again c'=>c'.quiet=true∧codeAny (model prog w) A c' R s') (λe s'=>R (.error e) s') s:=by
 have W:=Walks.listRev (prog:=prog) (w:=w) (A:=A.in1) hh I l hne items;have hSf:S∉[I,l]:=by simp only[aag,aa4,or_false,not_or];exact ⟨hSI,hSl⟩
 have key:∀(h:Heap) (c₁ tk:Nat),(0≤items.size∧h.IsRevIter I l ((items.size:Int) - 1 - ((0:Nat):Int))∧h.IsList l items)→(∀b o,b≠S→s.heap.get? b=some o→h.get? b=some o)→
   h.get? S=some { cls:=.type "list",data:=.seq #[] c₁ }→codeAny (model prog w) A (.builtin "list.extend.loop" ⟨[.ref S,.ref I,res],[]⟩) R { s with heap:=h,toks:=tk }:=by
  intro h c₁ tk hst hk hS₁;refine codeAny_extend_loopS W.toS hn S hSf res items.size 0 _ #[] c₁ rfl (aaa _) hst hS₁ (ItemsOf.nil _) λs' acc' c' hm hS' hacc=>?_;rw[Moved.eq_with hm];refine hR s'.heap s'.toks acc' c' (λb o hb hbI e=>hm.heap b o (λhmem=>?_) (hk b o hb e)) hS' hacc;rcases List.mem_cons.mp hmem with e' | hmem
  ·exact hb e'
  ·exact hbI (List.mem_singleton.mp hmem)
 have hT:=hI.typeIs;unfold Builtin.List.listExtendWith;refine wpAny_bind (wpAny_typeOf (T:="list_reverseiterator") hT ?_);have h1:Builtin.List.listSameRef (.ref S) (.ref I)=false:=by simp[Builtin.List.listSameRef,hSI]
 have h2:(Value.type "list_reverseiterator"==Value.type "list")=false:=by decide
 have h3:(Value.type "list_reverseiterator"==Value.type "tuple")=false:=by decide
 simp only[h1,h2,h3,ad6,abj,if_false];refine wpAny_bind (wpAny_pyIter_revIter hI ?_);refine wpAny_bind (wpAny_holding (Dh hT ?_));refine wpAny_ite_split (λhab=>absurd hab (by decide)) (λ_=>wpAny_pure ⟨plainId_quiet PySem.F.plain_extend_loop _,key _ c₀ _ ⟨aaa _,by rw[show (items.size:Int) - 1 - ((0:Nat):Int)=(items.size:Int) - 1 by omega];exact hI,hl⟩ (λb o _ e=>e) hS⟩)
theorem Bo {Q:Value→Shared→Prop} {I l:Addr} {items:Array Value} (hh:A.handled=none) (hI:s.heap.IsRevIter I l ((items.size:Int) - 1)) (hl:s.heap.IsList l items) (hne:l≠I) (hlI:I < s.heap.objs.size) (hll:l < s.heap.objs.size) (hn:items.size≤sizeLine)
  (hQ:∀h' tk acc c,(∀b o,b≠I→s.heap.get? b=some o→h'.get? b=some o)→h'.get? s.heap.objs.size=some { cls:=.type "list",dict:=none,data:=.seq acc c,slots:=#[] }→ItemsOf (λi v=>items[items.size - 1 - i]?=some v) acc items.size→Q (.ref s.heap.objs.size) { s with heap:=h',toks:=tk }):
  wpAny (model prog w) A (call (.type "list") [.ref I]) Q E s:=by
 refine callType_codes (Q₁:=λobj s₁=>obj=.ref s.heap.objs.size∧s₁={ s with heap:=s.heap.push { cls:=.type "list",data:=.seq #[] } }) PySem.F.called_list (PySem.F.typeCall_list_1 _) PySem.F.entry_list_init
  (code_list_new _ ⟨rfl,rfl⟩) λobj s₁ h₁=>?_
 obtain ⟨rfl,rfl⟩:=h₁;have hS:(s.heap.push { cls:=.type "list",data:=.seq #[] }).get? s.heap.objs.size=some { cls:=.type "list",data:=.seq #[] }:=Heap.get?_push_size _ rfl;refine ⟨⟨_,hS,rfl⟩,PySem.F.args_list_init_2 _ _,?_⟩;show wpAny _ _ (do let old ←Builtin.List.listItems (.ref s.heap.objs.size);Builtin.List.listUpdate (.ref s.heap.objs.size) (λ_=>#[]);letGo old.toList.reverse;Builtin.List.listExtendWith (.ref s.heap.objs.size) (.ref I) .none) _ _ _
 refine wpAny_bind ?_;unfold Builtin.List.listItems;refine wpAny_bind (wpAny_seqItems hS rfl (wpAny_pure ?_));show wpAny _ _ (updateSeq s.heap.objs.size (λ_=>#[]) >>=λ_=>letGo (#[]:Array Value).toList.reverse >>=λ_=>Builtin.List.listExtendWith (.ref s.heap.objs.size) (.ref I) .none) _ _ _
 refine wpAny_bind (wpAny_updateSeq hS rfl ?_);have hS₂:=Heap.get?_update_self (Obj.mapSeq (λ_=>(#[]:Array Value))) hS rfl;have oth:∀b o,b≠s.heap.objs.size→(s.heap.push { cls:=.type "list",data:=.seq #[] }).get? b=some o→((s.heap.push { cls:=.type "list",data:=.seq #[] }).update s.heap.objs.size (Obj.mapSeq (λ_=>(#[]:Array Value)))).get? b=some o:=λb o hb e=>(Heap.get?_update_other _ _ (Ne.symm hb)).trans e;refine wpAny_bind (wpAny_letGo ?_);have up:∀b o,b < s.heap.objs.size→s.heap.get? b=some o→((s.heap.push { cls:=.type "list",data:=.seq #[] }).update s.heap.objs.size (Obj.mapSeq (λ_=>(#[]:Array Value)))).get? b=some o:=λb o hb e=>oth b o (aap hb) (Heap.get?_push_of_some _ e);refine xb (A:=A.in1) hh (hI.at λo e=>up I o hlI e) (hl.at λo e=>up l o hll e) hne hn s.heap.objs.size (ab2 hlI) (ab2 hll) .none _ hS₂ λh' tk acc c hk hS' hacc=>?_;exact ⟨rfl,hQ h' tk acc c (λb o hbI e=>hk b o (aap (Heap.lt_size e)) hbI (up b o (Heap.lt_size e) e)) hS' hacc⟩
end
end L2.Lrv
namespace L2
open PySem PySem.Spec PyProof.Rows
def tLR (K:PySem.W.Frag) (ta:TA):TE:=λσ H Q=>ta σ H λvs H1=>∃(l:Addr) (xs:List V),vs=[.ref l]∧SqL K H1 l xs∧∀p,H1 p=none→Q (.ref p) (upd H1 p (.lst xs.reverse))
section
variable {X:Cx}
theorem yd {a:Expr} {ta:TA} {p p2 pos pos2:Pos} (hc:X.calm=true) (hg:Gl X "list") (hm:X.mg "list"=none) (hg2:Gl X "reversed") (hm2:X.mg "reversed"=none) (ha:PA X [a] ta)
  (hs:starEach [.Call (.Name "reversed" p2) [a] [] pos2] X.env=[(false,eval (.Call (.Name "reversed" p2) [a] [] pos2) X.env)]:=by rfl) (hs2:starEach [a] X.env=[(false,eval a X.env)]:=by rfl):
  PE X (.Call (.Name "list" p) [.Call (.Name "reversed" p2) [a] [] pos2] [] pos) (tLR X.K ta):=by
 intro pins s σ H Q I h;refine wpAny_Call_Name_kw (ic I hg hm Cj ?_);refine PyProof.Rows.callWith_type1 ?_ hs rfl;rw[hs];show wpAny _ _ (spliced ((false,eval _ X.env)::backTo pos [])) _ _ s
 refine Calls.spliced_cons ?_;refine wpAny_Call_Name_kw (ic I hg2 hm2 xv ?_);refine PyProof.Rows.callWith_type1 (thn (ha pos2 pins s σ H _ I h) λus s1 ⟨vs,H1,I1,r1,q1⟩=>?_) hs2 rfl;obtain ⟨l,xs,e,hq,q⟩:=q1;subst e;obtain ⟨u1,rfl,ru1⟩:=vals1 r1;cases ru1
 obtain ⟨its,rv,pl,hz⟩:=I1.list hq;have hlen:=rv.length;refine call_reversed_list pl.isList (Calls.spliced_nil ?_);have lt:l < s1.heap.objs.size:=by
  obtain ⟨o,ho,_⟩:=pl.isList;exact Heap.lt_size ho
 have hsz:(s1.heap.push (revObj l ((its.toArray.size:Int) - 1))).objs.size=s1.heap.objs.size+1:=Heap.size_push _ _;refine Lrv.Bo (s:={ s1 with heap:=s1.heap.push (revObj l ((its.toArray.size:Int) - 1)) }) (I:=s1.heap.objs.size) (l:=l) (items:=its.toArray) (I1.ok.hd hc) ⟨_,Heap.get?_push_size _ rfl,rfl,rfl⟩ (pl.isList.at λo e=>Heap.get?_push_of_some _ e) (aap lt) (by rw[hsz];exact adf _) (by rw[hsz];exact ac3 lt) (by rw[aa3,←hlen];exact hz) λh' tk acc c kp hL hacc=>?_;have k2:∀b o,s1.heap.get? b=some o→h'.get? b=some o:=λb o e=>kp b o (aap (Heap.lt_size e)) (Heap.get?_push_of_some _ e);have ea:acc.toList=its.reverse:=by
  apply List.ext_getElem?
  intro j;have h1:acc.size=its.length:=by
   have h1:acc.size=its.toArray.size:=hacc.1;rw[h1,aa3]
  by_cases hj:j < its.length
  ·have hj2:j < acc.size:=by omega
   have g:its.toArray[its.toArray.size - 1 - j]?=some acc[j]:=hacc.2 j _ (abd hj2);rw[ads,aa3] at g;rw[abr hj,g,ado,abd hj2]
  ·rw[abi (by rw[abx];omega),abi (by rw[aae];omega)]
 refine ⟨.ref _,_,I1.laid (t':=tk) k2 (show s1.heap.objs.size≤(s1.heap.push (revObj l ((its.toArray.size:Int) - 1))).objs.size by rw[hsz];exact adm _) (show bz X.prog X.w _ h' _ (.lst xs.reverse) from ⟨by rw[aae];exact hz,its.reverse,c,rv.reverse,by rw[←ea,adw];exact hL⟩),rfl,q _ (I1.hok.fresh (by rw[hsz];exact adm _))⟩
end
end L2
namespace L2
open PySem PySem.Spec PyProof.Rows
section
open Builtin Builtin.Str
end
section
variable {X:Cx} {v o a:Expr} {tv to ta:TE} {p1 p2 pos apos cpos:Pos} {c y z:Str} {j j1 j2:Nat}
def Ct (tv:TE):TE:=λσ H Q=>tv σ H λx H1=>∃z,x=.str z∧(∀c∈z.cps.toList,c < 128)∧z.length≤1000000∧∀m,Q (.str m) H1
theorem G5 (hv:PE X v tv) (hc:c.length≤100:=by decide+kernel):PE X (.JoinedStr [.FormattedValue v 114 none p1,.Constant (.str c) j p2] pos) (Ct tv):=by
 intro pins s σ H Q I h;refine wpAny_JoinedStr ?_;refine wpAny_FormattedValue_repr (thn (hv pins s σ H _ I h) λu s1 ⟨x,H1,I1,r1,z,e,ha,hz,q⟩=>?_);subst e;obtain ⟨t,rfl⟩:=r1;have hl:=StrLaws.reprText_len z λc hc=>ady (ha c hc) (by decide);have sz:=sizeLine_eq;refine pyReprObj_str ?_ (by omega);have e0:∀w:Str,(Str.empty++w).length=w.length:=λw=>by rw[strLen_append];exact acx _
 refine formatField_str (λt' tk=>⟨_,t',rfl,by rw[e0];omega,?_⟩) (by omega);refine Calls.Constant_str ⟨c,_,rfl,by rw[strLen_append,e0];omega,by rw[strLen_append,e0];omega,?_⟩;exact ⟨.str _,H1,I1.tok _,⟨_,rfl⟩,q _⟩
end
end L2
namespace L2
open PySem PySem.Spec PyProof.Rows
abbrev TF:=St→Hp→(Hp→Prop)→Prop
def PF (X:Cx) (es:List Expr) (n:Nat) (t:TF):Prop:=
 ∀(pins:List (Addr×Obj)) (s:Shared) (σ:St) (H:Hp) (Q:Hp→Prop) (acc:Str),Inv X pins σ H s→acc.length+n≤sizeLine→t σ H Q→
  Joins (model X.prog X.w) X.A X.xe (evalEach es X.env) acc (λout s1=>out.length≤sizeLine∧∃H1,Inv X pins σ H1 s1∧Q H1) s
noncomputable def tF0:TF:=λ_ H Q=>Q H
noncomputable def tFR (tv:TE) (t:TF):TF:=λσ H Q=>tv σ H λx H1=>∃z,x=.str z∧(∀c∈z.cps.toList,c < 128)∧z.length≤1000∧t σ H1 Q
noncomputable def tFI (tv:TE) (t:TF):TF:=λσ H Q=>tv σ H λx H1=>∃a,x=.int a∧a.natAbs.log2 < 1920∧t σ H1 Q
def tFmts (t:TF):TE:=λσ H Q=>t σ H λH1=>∀m,Q (.str m) H1
section
variable {X:Cx} {v e1 e2:Expr} {es:List Expr} {tv:TE} {t:TF} {p pos:Pos} {c:Str} {j n:Nat}
theorem pf_nil:PF X [] 0 tF0:=λpins s σ H Q acc I ha h=>⟨ha,H,I,h⟩
theorem pf_c (r:PF X es n t) (hc:c.length≤100:=by decide+kernel):PF X (.Constant (.str c) j p::es) (100+n) t:=λpins s σ H Q acc I ha h=>
 Calls.Constant_str ⟨c,_,rfl,by rw[strLen_append];omega,r pins _ σ H Q _ (I.tok _) (by rw[strLen_append];omega) h⟩
theorem pf_r (hv:PE X v tv) (r:PF X es n t):PF X (.FormattedValue v 114 none p::es) (20000+n) (tFR tv t):=λpins s σ H Q acc I ha h=>by
 refine wpAny_FormattedValue_repr (thn (hv pins s σ H _ I h) λu s1 ⟨x,H1,I1,r1,z,e,hz,hl,q⟩=>?_);subst e;obtain ⟨t,rfl⟩:=r1;have hl:=StrLaws.reprText_len z λc hc=>ady (hz c hc) (by decide);have sz:=sizeLine_eq;refine pyReprObj_str ?_ (by omega);exact formatField_str (λt' tk=>⟨_,t',rfl,by rw[strLen_append];omega,r pins _ σ H1 Q _ (I1.tok _) (by rw[strLen_append];omega) q⟩) (by omega)
theorem pf_i (hv:PE X v tv) (r:PF X es n t):PF X (.FormattedValue v (-1) none p::es) (2000+n) (tFI tv t):=λpins s σ H Q acc I ha h=>by
 refine wpAny_FormattedValue_plain (thn (hv pins s σ H _ I h) λu s1 ⟨x,H1,I1,r1,a,e,hl,q⟩=>?_);subst e;obtain ⟨t,rfl⟩:=r1;have hx:(Str.ofString (toString a)).length≤1921:=by rw[PySem.ofString_length];exact int_text_length_le (by decide) hl
 have sz:=sizeLine_eq;refine formatField_int_small hl ?_;exact ⟨_,_,rfl,by rw[strLen_append];show _+(Str.ofString (toString a)).length≤_;omega,r pins _ σ H1 Q _ (I1.tok _) (by rw[strLen_append];show _+(Str.ofString (toString a)).length+_≤_;omega) q⟩
theorem Io (h:PF X (e1::e2::es) n t) (hn:n≤1000000:=by decide):PE X (.JoinedStr (e1::e2::es) pos) (tFmts t):=by
 intro pins s σ H Q I hq;have sz:=sizeLine_eq;refine wpAny_JoinedStr ?_;have:=h pins s σ H _ Str.empty I (by show 0+n≤_;omega) hq;have mono:∀(xs:List (Sem Value)) (acc:Str) (Q Q':Str→Shared→Prop) (s:Shared),(∀o s,Q o s→Q' o s)→Joins (model X.prog X.w) X.A X.xe xs acc Q s→Joins (model X.prog X.w) X.A X.xe xs acc Q' s:=by
  intro xs;induction xs with
  | nil=>intro acc Q Q' s hQ h;exact hQ _ _ h
  | cons x r ih=>intro acc Q Q' s hQ h;exact thn h λu s1 ⟨y,t,e,hl,hj⟩=>⟨y,t,e,hl,ih _ _ _ _ hQ hj⟩
 exact mono _ _ _ _ _ (λo s1 ⟨hl,H1,I1,q⟩=>⟨hl,.str o,H1,I1.tok _,⟨_,rfl⟩,q o⟩) this
end
end L2
namespace L2
open PySem PySem.Spec PyProof.Rows
section
variable {X:Cx}
def kh (K:PySem.W.Frag) (neg:Bool):R2:=λx y H Q=>∃a b xs,x=.ref a∧y=.ref b∧SqL K H a xs∧SqL K H b []∧Q (.bl (if neg then !xs.isEmpty else xs.isEmpty)) H
theorem nh (hu:X.A.units < cLine):OpR X (compareOp .Eq) (kh X.K false):=by
 intro pins s σ H x y v u Q I rx ry h;obtain ⟨a,b,xs,rfl,rfl,ha,hb,q⟩:=h;cases rx
 cases ry
 obtain ⟨its,r1,p1,_⟩:=I.list ha;obtain ⟨its2,r2,p2,_⟩:=I.list hb;have l1:=r1.length;have l2:0=its2.length:=r2.length;by_cases hl:xs.length=0
 ·have e1:its.toArray.size=0:=by rw[aa3,←l1,hl]
  refine SeqAt.eq_listAt (e:=λ_=>true) p1.isList p2.isList (by rw[aa3,aa3,←l1,←l2,hl]) hu (λj h1 h2=>absurd h1 (by rw[e1];exact ad0 _)) ?_;refine bg I q ?_;rw[e1,List.length_eq_zero_iff.mp hl];rfl
 ·refine SeqAt.eq_list_lengthsAt p1.isList p2.isList (by rw[aa3,aa3,←l1,←l2];simpa using hl) hu ?_;refine bg I q ?_;cases xs with
  | nil=>exact absurd rfl hl
  | cons _ _=>rfl
theorem vo (hu:X.A.units < cLine):OpR X (compareOp .NotEq) (kh X.K true):=by
 intro pins s σ H x y v u Q I rx ry h;obtain ⟨a,b,xs,rfl,rfl,ha,hb,q⟩:=h;cases rx
 cases ry
 obtain ⟨its,r1,p1,_⟩:=I.list ha;obtain ⟨its2,r2,p2,_⟩:=I.list hb;have l1:=r1.length;have l2:0=its2.length:=r2.length;by_cases hl:xs.length=0
 ·have e1:its.toArray.size=0:=by rw[aa3,←l1,hl]
  refine SeqAt.RcNeAt.lists (e:=λ_=>true) p1.isList p2.isList (by rw[aa3,aa3,←l1,←l2,hl]) hu (λj h1 h2=>absurd h1 (by rw[e1];exact ad0 _)) _ _ _ _ ?_;refine bg I q ?_;rw[e1,List.length_eq_zero_iff.mp hl];rfl
 ·refine SeqAt.RcNeAt.lists_lengths p1.isList p2.isList (by rw[aa3,aa3,←l1,←l2];simpa using hl) hu _ _ _ _ ?_;refine bg I q ?_;cases xs with
  | nil=>exact absurd rfl hl
  | cons _ _=>rfl
end
end L2
theorem L2.us6 {α:Type} {P:List α→Prop} {us:List α} (hl:us.length=6) (h:∀a b c d e f,P [a,b,c,d,e,f]):P us:=
 match us,hl with
 | [_,_,_,_,_,_],_=>h _ _ _ _ _ _
namespace Pc
open PySem PySem.Spec L2 PyProof.Rows
theorem sy {kinds:List Str} {ws:List V} (hk:Kinds kinds) (hw:∀v∈ws,isW v):∀(sh:List V) (p:Nat) (u u':Und) (d m:Nat),(∀v∈sh,isW v)→pend d (sh.map arV)=some 0→eat d ((ws.drop p).map arV)=some m→(∀h∈u.hs,h < ws.length)→cj kinds ws sh p u=some u'→∀h∈u'.hs,h < ws.length
 | [],p,u,u',d,m,_,_,_,hu,h=>by
  have h:some u=some u':=h;cases h
  exact hu
 | v::r,p,u,u',0,m,_,hp,_,_,_=>nomatch hp
 | v::r,p,u,u',d+1,m,hs,hp,he,hu,h=>by
  have hpl:p < ws.length:=by
   rcases ae1 p ws.length with g | g
   ·exact g
   ·rw[abz g] at he;cases he
  have hx:ws[p]?=some ws[p]:=aa2 hpl;rw[gk] at h;have eg:ws.getD p .non=ws[p]:=by rw[aan,hx];rfl
  rw[eg] at h;by_cases c:lies (b7 kinds v) v ws[p]=true
  ·rw[if_pos c] at h;obtain ⟨d',m',h1,h2⟩:=dy hk (hs v aal) hx (hw _ (ab1 hpl)) hp he c;refine sy hk hw r _ _ u' d' m' (λx hx=>hs x (aak _ hx)) h1 h2 (λy hy=>?_) h;unfold Und.put at hy;split at hy
   ·rcases List.mem_append.mp hy with z | z
    ·exact hu y z
    ·rw[List.mem_singleton.mp z];exact hpl
   ·split at hy
    ·exact hu y hy
    ·split at hy
     ·exact hu y hy
     ·exact hu y hy
  ·rw[if_neg c] at h;cases h
theorem As (kinds:List Str) (sh:List V):∀z∈aw kinds sh,z∈kinds:=λz hz=>by
 unfold aw at hz;obtain ⟨v,_,hv⟩:=List.mem_filterMap.mp hz;cases v with
 | str y=>
  dsimp only at hv;split at hv
  ·cases hv
   assumption
  ·cases hv
 | _=>cases hv
theorem qj (kinds:List Str) (sh:List V):(aw kinds sh).length≤sh.length:=List.length_filterMap_le _ _
noncomputable def cn (kinds:List Str) (rs:List Rl) (ws:List V) (nm kd:Str) (p:Nat):Option (Rl×Und):=
 match rs.find? (λr=>decide (r.name=nm)) with
 | some r=>if r.kind=kd then (cj kinds ws r.shape p ⟨[],[],[]⟩).map (λu=>(r,u)) else none
 | none=>none
theorem Ie {kinds:List Str} {rs:List Rl} {ws:List V} {p i:Nat} {r:Rl} (bk:Bk kinds rs) (h:rs[i]?=some r) (kd:Str):cn kinds rs ws r.name kd p=if r.kind=kd then (cj kinds ws r.shape p ⟨[],[],[]⟩).map (λu=>(r,u)) else none:=by
 unfold cn;rw[find_name bk.nd h]
theorem ig {K:PySem.W.Frag} {H:Hp} {a b:Addr} {xs:List V} {neg:Bool} {Q:VK} (h1:H a=some (.lst xs)) (h2:H b=some (.lst [])) (q:Q (.bl (if neg then !xs.isEmpty else xs.isEmpty)) H):kh K neg (.ref a) (.ref b) H Q:=⟨a,b,xs,rfl,rfl,SqL.of h1,SqL.of h2,q⟩
theorem Dd {kinds:List Str} {rs:List Rl} {ws:List V} {p i:Nat} {r:Rl} (bk:Bk kinds rs) (h:rs[i]?=some r):cn kinds rs ws r.name r.kind p=(cj kinds ws r.shape p ⟨[],[],[]⟩).map (λu=>(r,u)):=by
 unfold cn;rw[find_name bk.nd h];dsimp only;rw[if_pos rfl]
theorem qg {kinds:List Str} {rs:List Rl} {ws:List V} {p:Nat} {nm kd:Str} (h:∀(i:Nat) (x:Rl),rs[i]?=some x→x.name=nm→x.kind=kd→cj kinds ws x.shape p ⟨[],[],[]⟩=none):cn kinds rs ws nm kd p=none:=by
 unfold cn;cases e:rs.find? (λr=>decide (r.name=nm)) with
 | none=>rfl
 | some r=>
  dsimp only;by_cases c:r.kind=kd
  ·obtain ⟨i,hi⟩:=List.mem_iff_getElem?.mp (ad9 e);rw[if_pos c,h i r hi (by simpa using aef e) c];rfl
  ·rw[if_neg c]
theorem sk {kinds:List Str} {rs:List Rl} {ws:List V} {p:Nat} {nm kd:Str} {r:Rl} {u:Und} (h:cn kinds rs ws nm kd p=some (r,u)):r∈rs∧r.name=nm∧r.kind=kd∧cj kinds ws r.shape p ⟨[],[],[]⟩=some u:=by
 unfold cn at h;cases e:rs.find? (λr=>decide (r.name=nm)) with
 | none=>rw[e] at h;cases h
 | some x=>
  rw[e] at h;dsimp only at h;by_cases c:x.kind=kd
  ·rw[if_pos c] at h;obtain ⟨u',h1,h2⟩:=Option.map_eq_some_iff.mp h;cases h2
   exact ⟨ad9 e,by simpa using aef e,c,h1⟩
  ·rw[if_neg c] at h;cases h
noncomputable def xc (kinds:List Str) (d:Rl×Und):List Ky:=d.2.hs.zip (aw kinds d.1.shape)
noncomputable def br (kinds:List Str) (rs:List Rl) (ws:List V):List Str→List Ky→Option (List (Rl×Und))
 | [],[]=>some []
 | [],_::_=>none
 | _::_,[]=>none
 | nm::r,k::st=>match cn kinds rs ws nm k.2 k.1 with
  | some d=>(br kinds rs ws r (xc kinds d++st)).map (d::·)
  | none=>none
theorem jc {kinds:List Str} {rs:List Rl} {ws:List V} {nm:Str} {r:List Str} {k:Ky} {st:List Ky} {d:Rl×Und} (h:cn kinds rs ws nm k.2 k.1=some d):br kinds rs ws (nm::r) (k::st)=(br kinds rs ws r (xc kinds d++st)).map (d::·):=by
 simp only[br,h]
theorem dq {kinds:List Str} {rs:List Rl} {ws:List V} {nm:Str} {r:List Str} {k:Ky} {st:List Ky} (h:cn kinds rs ws nm k.2 k.1=none):br kinds rs ws (nm::r) (k::st)=none:=by
 simp only[br,h]
theorem fo {kinds:List Str} {rs:List Rl} {ws:List V}:∀{ns:List Str} {st:List Ky} {ds:List (Rl×Und)},br kinds rs ws ns st=some ds→ds.length=ns.length∧∀d∈ds,d.1∈rs
 | [],[],ds,h=>by cases h;exact ⟨rfl,λd hd=>nomatch hd⟩
 | [],_::_,ds,h=>nomatch h
 | _::_,[],ds,h=>nomatch h
 | nm::r,k::st,ds,h=>by
  cases e:cn kinds rs ws nm k.2 k.1 with
  | none=>rw[dq e] at h;cases h
  | some d=>
   rw[jc e] at h;obtain ⟨ds',h1,rfl⟩:=Option.map_eq_some_iff.mp h;obtain ⟨g1,g2⟩:=fo h1;refine ⟨by rw[aaq,aaq,g1],λx hx=>?_⟩;rcases List.mem_cons.mp hx with rfl | hx
   ·exact (sk (r:=x.1) (u:=x.2) e).1
   ·exact g2 x hx
noncomputable def cpr (ds:List (Rl×Und)):Int:=(ds.map (·.1.price)).sum
theorem Ci (ds:List (Rl×Und)) (d:Rl×Und):cpr (ds++[d])=cpr ds+d.1.price:=by
 unfold cpr;rw[aa8,List.sum_append];simp
theorem ym {kinds:List Str} {rs:List Rl} (bk:Bk kinds rs):∀{ds:List (Rl×Und)},(∀d∈ds,d.1∈rs)→(ds.length:Int)≤cpr ds
 | [],_=>by decide
 | d::ds,h=>by
  have ih:=ym bk (ds:=ds) λx hx=>h x (aak _ hx);have:=bk.pr _ (h d aal);have e:cpr (d::ds)=d.1.price+cpr ds:=by unfold cpr;rw[ab0,List.sum_cons]
  rw[e,aaq];omega
def KyOk (ws:List V) (st:List Ky):Prop:=∀k∈st,k.1 < ws.length∧bu k.2
theorem KyOk.step {kinds:List Str} {rs:List Rl} {ws:List V} (bk:Bk kinds rs) (tw:Tw ws) (kt:∀z∈kinds,bu z) {k:Ky} {st:List Ky} (h:KyOk ws (k::st)) {nm:Str} {d:Rl×Und} (hr:cn kinds rs ws nm k.2 k.1=some d):KyOk ws (xc kinds d++st)∧(xc kinds d).length≤100∧d.2.hs.length=(aw kinds d.1.shape).length:=by
 obtain ⟨h1,h2,h3,h4⟩:=sk (r:=d.1) (u:=d.2) hr;obtain ⟨w1,w2,w3⟩:=bk.sh _ h1;obtain ⟨n,hn⟩:=tw.eat (h k aal).1;have li:=sy bk.kd (λv hv=>(tw.w v hv).1) _ _ _ _ 1 n w1 w2 hn (λ_ z=>(aa4 z).elim) h4;have hl:d.2.hs.length=(aw kinds d.1.shape).length:=by
  have:=(rj bk.kd _ _ _ _ w1 h4).1;simpa using this
 refine ⟨λx hx=>?_,?_,hl⟩
 ·rcases List.mem_append.mp hx with hx | hx
  ·have:=ace (show (x.1,x.2)∈_ from hx);exact ⟨li _ this.1,kt _ (As _ _ _ this.2)⟩
  ·exact h x (aak _ hx)
 ·unfold xc;have:=qj kinds d.1.shape;rw[acf];omega
theorem gu.tk {H H':Hp} {t:Addr} {r:Rl} {u:Und} (h:gu H t r u) (s:TK H H'):gu H' t r u:=by
 obtain ⟨ra,ut,h1,⟨sa,da,ds,g1,g2,g3⟩,t1,t2,t3,u1,u2,u3,u4⟩:=h;exact ⟨ra,ut,s _ _ h1,⟨sa,da,ds,s _ _ g1,s _ _ g2,s _ _ g3⟩,t1,t2,t3,s _ _ u1,s _ _ u2,s _ _ u3,s _ _ u4⟩
def du (H:Hp) (as:List Addr) (ds:List (Rl×Und)):Prop:=as.length=ds.length∧∀(j:Nat) (d:Rl×Und),ds[j]?=some d→∃a,as[j]?=some a∧gu H a d.1 d.2
theorem du.nil (H:Hp):du H [] []:=⟨rfl,λj d h=>by simp at h⟩
theorem du.tk {H H':Hp} {as:List Addr} {ds:List (Rl×Und)} (h:du H as ds) (s:TK H H'):du H' as ds:=⟨h.1,λj d e=>by obtain ⟨a,a1,a2⟩:=h.2 j d e;exact ⟨a,a1,a2.tk s⟩⟩
theorem du.snoc {H:Hp} {as:List Addr} {ds:List (Rl×Und)} (h:du H as ds) {a:Addr} {d:Rl×Und} (g:gu H a d.1 d.2):du H (as++[a]) (ds++[d]):=by
 refine ⟨by rw[aa1,aa1,h.1];rfl,λj x hj=>?_⟩;by_cases c:j < ds.length
 ·rw[aao c] at hj;obtain ⟨a',h1,h2⟩:=h.2 j x hj;exact ⟨a',by rw[aao (by rw[h.1];exact c)];exact h1,h2⟩
 ·have hl:=(List.getElem?_eq_some_iff.mp hj).1;rw[aa1,aa9] at hl;obtain rfl:j=ds.length:=by omega
  rw[aam (aa5 _),acj] at hj;cases hj
  exact ⟨a,by rw[←h.1,aam (aa5 _),acj];rfl,g⟩
def KsL (H:Hp) (as:List Addr) (ks:List Ky):Prop:=as.length=ks.length∧∀(j:Nat) (k:Ky),ks[j]?=some k→∃a,as[j]?=some a∧H a=some (kyT k)
theorem KsL.tk {H H':Hp} {as:List Addr} {ks:List Ky} (h:KsL H as ks) (s:TK H H'):KsL H' as ks:=⟨h.1,λj d e=>by obtain ⟨a,a1,a2⟩:=h.2 j d e;exact ⟨a,a1,s _ _ a2⟩⟩
theorem KsL.app {H:Hp} {as bs:List Addr} {ks js:List Ky} (h:KsL H as ks) (g:KsL H bs js):KsL H (as++bs) (ks++js):=by
 refine ⟨by rw[aa1,aa1,h.1,g.1],λj x hj=>?_⟩;by_cases c:j < ks.length
 ·rw[aao c] at hj;obtain ⟨a',h1,h2⟩:=h.2 j x hj;exact ⟨a',by rw[aao (by rw[h.1];exact c)];exact h1,h2⟩
 ·rw[aam (by omega)] at hj;obtain ⟨a',h1,h2⟩:=g.2 _ x hj;exact ⟨a',by rw[aam (by rw[h.1];omega),h.1];exact h1,h2⟩
theorem KsL.one {H:Hp} {a:Addr} {k:Ky} (h:H a=some (kyT k)):KsL H [a] [k]:=⟨rfl,λj x hj=>by
 cases j with
 | zero=>cases hj;exact ⟨a,rfl,h⟩
 | succ j=>simp at hj⟩
theorem KsL.rev {H:Hp} {as:List Addr} {ks:List Ky} (h:KsL H as ks):KsL H as.reverse ks.reverse:=by
 refine ⟨by rw[aae,aae,h.1],λj k hj=>?_⟩;have hjl:=(List.getElem?_eq_some_iff.mp hj).1;rw[aae] at hjl;rw[abr hjl] at hj;obtain ⟨a,a1,a2⟩:=h.2 _ k hj;refine ⟨a,?_,a2⟩;rw[abr (by rw[h.1];exact hjl),h.1];exact a1
theorem KsL.zip {H:Hp} {as:List Addr} {hs:List Nat} {zs:List Str} (hl:hs.length=zs.length) (ha:as.length=(hs.map plV).length) (h:∀(j:Nat) (x y:V),(hs.map plV)[j]?=some x→(zs.map V.str)[j]?=some y→∃a,as[j]?=some a∧H a=some (.tup [x,y])):KsL H as (hs.zip zs):=by
 refine ⟨by rw[ha,aa0,acf];omega,λj k hj=>?_⟩;obtain ⟨k1,k2⟩:=List.getElem?_zip_eq_some.mp (show (hs.zip zs)[j]?=some (k.1,k.2) from hj);exact h j _ _ (by rw[aa7,k1];rfl) (by rw[aa7,k2];rfl)
theorem KsL.pop {H:Hp} {as:List Addr} {k:Ky} {st:List Ky} (h:KsL H as (k::st).reverse):∃(bs:List Addr) (a:Addr),as=bs++[a]∧KsL H bs st.reverse∧H a=some (kyT k):=by
 obtain ⟨h1,h2⟩:=h;rw[ac1] at h1 h2;rw[aa1,aa9] at h1;have hne:as≠[]:=λe=>by rw[e] at h1;simp at h1
 obtain ⟨a,ha,hk⟩:=h2 st.reverse.length k (by rw[aam (aa5 _),acj];rfl);have el:as.length - 1=st.reverse.length:=by omega
 have ea:as.getLast hne=a:=by
  rw[List.getLast_eq_getElem];have:=(List.getElem?_eq_some_iff.mp ha).2;rw[←this];congr 1
 refine ⟨as.dropLast,a,by rw[←ea,ad3],⟨by rw[acu];omega,λj x hj=>?_⟩,hk⟩;have hjl:=(List.getElem?_eq_some_iff.mp hj).1;obtain ⟨a',h3,h4⟩:=h2 j x (by rw[aao hjl];exact hj);refine ⟨a',?_,h4⟩;rw[List.getElem?_dropLast,if_pos (by omega)];exact h3
theorem KsAt.l {H:Hp} {l:Addr} {ks:List Ky} (h:KsAt H l ks):∃as:List Addr,H l=some (.lst (as.map V.ref))∧KsL H as ks:=by
 obtain ⟨as,h1,h2,h3⟩:=h;exact ⟨as,h1,h2,h3⟩
theorem Cv {K:PySem.W.Frag} {c:Nat} {a:Addr} {as:List Addr} {fr:L2.St} {tc:TT} {te:TE} {D:Addr} {H1:Hp} {Q:Hp→Prop} (P:Nat→List V→Prop) (hc:c=2) (hS:SqL K H1 a (as.map V.ref)) (hq:∀(i:Nat) (t:Addr),as[i]?=some t→∃x y,H1 t=some (.tup [x,y])) (hn:as.length < sizeLine) (hD:H1 D=none) (h0:P 0 [])
  (step:∀i t x y ys H (G:Hp→Prop) (K':V→Hp→Prop),as[i]?=some t→H1 t=some (.tup [x,y])→P i ys→ak H1 H→(∀H3,ak H H3→P (i+1) ys→G H3)→(∀y H4,ak H H4→P (i+1) (ys++[y])→K' y H4)→tc ([some x,some y]++fr) H λb H3=>if b=true then te ([some x,some y]++fr) H3 K' else G H3)
  (done:∀ys H,P as.length ys→ak H1 H→H D=some (.lst ys)→Q H):LC 2 fr (gTup K c (mx (gc 0) (mx (gc 1) gNil))) tc te (Itl K a) D H1 Q:=by
 refine Dt as.length (λi x y _=>∃t,as[i]?=some t∧H1 t=some (.tup [x,y])) (λi ys _=>P i ys) (λ_ _ _ _ _ h=>h) hc hn hD (λi H hi hs=>?_) (λi H v H' hi hs hy=>?_) (λH hs=>⟨_,hs.seq hS,by rw[aa0];exact aa5 _⟩) h0 (λi x y ys H G K' hi hR hP hl hs hG hK=>?_) λys H hP hl hs hd=>done ys H hP hs hd
 ·exact ⟨_,.ref as[i],hs.seq hS,by rw[aa7,aa2 hi];rfl⟩
 ·obtain ⟨rfl,hy⟩:=hy;have ht:as[i]?=some as[i]:=aa2 hi;obtain ⟨x,y,hx⟩:=hq i _ ht;have hv:v=.ref as[i]:=aa6 ((hy _ (hs.seq hS)).symm.trans (by rw[aa7,ht];rfl));exact ⟨ak.refl _,as[i],x,y,hv,SqT.of (hs _ _ hx),as[i],ht,hx⟩
 ·obtain ⟨t,h1,h2⟩:=hR;exact step i t x y ys H G K' h1 h2 hP hs hG hK
theorem Ii (ns:List Str) (lo hi:Option Int):∃ms:List Str,fu (ns.map V.str) lo hi=ms.map V.str∧ms.length≤ns.length∧∀z∈ms,z∈ns:=by
 refine ⟨_,by unfold fu;rw[←abt,←ad7],?_,λz hz=>acy (abe hz)⟩;rw[aay,aah];omega
theorem Ee {H:Hp} {a:Addr} {ns:List Str} {lo hi:Option Int} {Q:VK} (h:H a=some (.tup (ns.map V.str))) (q:∀(p:Addr) (H':Hp) (ms:List Str),ak H H'→H' p=some (.tup (ms.map V.str))→ms.length≤ns.length→(∀z∈ms,z∈ns)→Q (.ref p) H'):wg (.ref a) lo hi H Q:=by
 obtain ⟨ms,e,h1,h2⟩:=Ii ns lo hi;exact yh h λp H' s hp=>q p H' ms s (by rw[←e];exact hp) h1 h2
theorem t8 {H:Hp} {a b:Addr} {xs ys:List Str} {Q:VK} (ha:H a=some (.tup (xs.map V.str))) (hb:H b=some (.tup (ys.map V.str))) (hz:xs.length+ys.length≤1000) (q:∀(p:Addr) (H':Hp),ak H H'→H' p=some (.tup ((xs++ys).map V.str))→Q (.ref p) H'):nr (.ref a) (.ref b) H Q:=by
 have sz:=sizeLine_eq;exact va ha hb (by rw[aa0,aa0];omega) λp H' s hp=>q p H' s (by rw[aa8];exact hp)
theorem mw {P:Str→Prop} {xs ys:List Str} (h:∀z∈xs,P z) (g:∀z∈ys,P z):∀z∈xs++ys,P z:=λz hz=>(List.mem_append.mp hz).elim (h z) (g z)
theorem El {K:PySem.W.Frag} {i:Nat} {σ:L2.St} {H:Hp} {Q Q':Bool→Hp→Prop} (h:∀b H1,Q b H1→Q' b H1) (c:tBD (tOp (kh K true) (jy i) (tLst tNil)) σ H Q):tBD (tOp (kh K true) (jy i) (tLst tNil)) σ H Q':=by
 simp only[je,tB,tOp,iy,tLst,tNil,kh] at c ⊢;obtain ⟨v,hv,hz,c⟩:=c;refine ⟨v,hv,hz,λp hp=>?_⟩;obtain ⟨a,b,xs,e1,e2,h1,h2,cc,e,hq⟩:=c p hp;exact ⟨a,b,xs,e1,e2,h1,h2,cc,e,h _ _ hq⟩
def qo (H:Hp) (kinds:List Str) (rs:List Rl) (ws:List V) (a:Addr):Prop:=∃(ra ua:Addr) (r:Rl) (hs:List Nat),H a=some (.tup [.ref ra,.ref ua])∧r∈rs∧fw H ra r∧H ua=some (.tup (hs.map plV))∧hs.length=(aw kinds r.shape).length∧∀h∈hs,h < ws.length
theorem qo.tk {H H':Hp} {kinds:List Str} {rs:List Rl} {ws:List V} {a:Addr} (h:qo H kinds rs ws a) (s:TK H H'):qo H' kinds rs ws a:=by
 obtain ⟨ra,ua,r,hs,h1,h2,⟨sa,da,ds,g1,g2,g3⟩,h4,h5⟩:=h;exact ⟨ra,ua,r,hs,s _ _ h1,h2,⟨sa,da,ds,s _ _ g1,s _ _ g2,s _ _ g3⟩,s _ _ h4,h5⟩
theorem zo {H H':Hp} {d b:Addr} {ns:List Int} {n:Nat} (D:cq H d b ns n) (s:au d H H'):TK H H':=λ_ _ h=>az D s h
theorem modN (x:Int) {n:Nat} (h:0 < n):∃i:Nat,i < n∧x % (n:Int)=(i:Int):=by
 have h1:=aai x (show (n:Int)≠0 by omega);have h2:=aba x (show (0:Int) < (n:Int) by omega);exact ⟨(x % (n:Int)).toNat,by omega,by omega⟩
def jm (κ:Cl):Sp:=λvs H Q E=>∃(b wt:Addr) (kinds:List Str) (rs:List Rl) (ws:List V) (p:Nat) (nm kd:Str),vs=[.ref b,.str nm,.ref wt,.int (p:Int),.str kd]∧bo H b kinds rs∧H wt=some (.tup ws)∧Bk kinds rs∧Tw ws∧p < ws.length∧bu nm∧bu kd∧(∀d,cn kinds rs ws nm kd p=some d→∀(t:Addr) (H':Hp),ak H H'→gu H' t d.1 d.2→Q (.ref t) H')∧(cn kinds rs ws nm kd p=none→∀H',ak H H'→E (.ref κ.badCover) none H')
theorem Cw {κ:Cl} {b wt:Addr} {kinds:List Str} {rs:List Rl} {ws:List V} {p:Nat} {nm kd:Str} {H:Hp} {Q:VK} {E:XK} (p0:bo H b kinds rs) (p1:H wt=some (.tup ws)) (p2:Bk kinds rs) (p3:Tw ws) (p4:p < ws.length) (p5:bu nm) (p6:bu kd) (p7:∀d,cn kinds rs ws nm kd p=some d→∀(t:Addr) (H':Hp),ak H H'→gu H' t d.1 d.2→Q (.ref t) H') (p8:cn kinds rs ws nm kd p=none→∀H',ak H H'→E (.ref κ.badCover) none H'):jm κ [.ref b,.str nm,.ref wt,.int (p:Int),.str kd] H Q E:=⟨b,wt,kinds,rs,ws,p,nm,kd,rfl,p0,p1,p2,p3,p4,p5,p6,p7,p8⟩
def kb (κ:Cl):Sp:=λvs H Q E=>∃(b wt ct:Addr) (kinds:List Str) (rs:List Rl) (ws:List V) (p:Nat) (kd:Str) (ns:List Str),vs=[.ref b,.ref wt,.int (p:Int),.str kd,.ref ct]∧bo H b kinds rs∧H wt=some (.tup ws)∧H ct=some (.tup (ns.map V.str))∧Bk kinds rs∧Tw ws∧p < ws.length∧bu kd∧(∀z∈kinds,bu z)∧(∀z∈ns,bu z)∧ns.length≤1000∧(∀ds,br kinds rs ws ns [(p,kd)]=some ds→∀(l:Addr) (as:List Addr) (H':Hp),ak H H'→H' l=some (.lst (as.map V.ref))→du H' as ds→Q (.ref l) H')∧(br kinds rs ws ns [(p,kd)]=none→∀H',ak H H'→E (.ref κ.badCover) none H')
theorem Fb {κ:Cl} {b wt ct:Addr} {kinds:List Str} {rs:List Rl} {ws:List V} {p:Nat} {kd:Str} {ns:List Str} {H:Hp} {Q:VK} {E:XK} (p0:bo H b kinds rs) (p1:H wt=some (.tup ws)) (p2:H ct=some (.tup (ns.map V.str))) (p3:Bk kinds rs) (p4:Tw ws) (p5:p < ws.length) (p6:bu kd) (p7:∀z∈kinds,bu z) (p8:∀z∈ns,bu z) (p9:ns.length≤1000) (pa:∀ds,br kinds rs ws ns [(p,kd)]=some ds→∀(l:Addr) (as:List Addr) (H':Hp),ak H H'→H' l=some (.lst (as.map V.ref))→du H' as ds→Q (.ref l) H') (pb:br kinds rs ws ns [(p,kd)]=none→∀H',ak H H'→E (.ref κ.badCover) none H'):kb κ [.ref b,.ref wt,.int (p:Int),.str kd,.ref ct] H Q E:=⟨b,wt,ct,kinds,rs,ws,p,kd,ns,rfl,p0,p1,p2,p3,p4,p5,p6,p7,p8,p9,pa,pb⟩
def j4 (κ:Cl):Sp:=λvs H Q E=>∃(b wt ct:Addr) (kinds:List Str) (rs:List Rl) (ws:List V) (p:Nat) (kd:Str) (ns:List Str),vs=[.ref b,.ref wt,.int (p:Int),.str kd,.ref ct]∧bo H b kinds rs∧H wt=some (.tup ws)∧H ct=some (.tup (ns.map V.str))∧Bk kinds rs∧Tw ws∧p < ws.length∧bu kd∧(∀z∈kinds,bu z)∧(∀z∈ns,bu z)∧ns.length≤1000∧(∀ds,br kinds rs ws ns [(p,kd)]=some ds→∀(H':Hp),ak H H'→Q (.int (cpr ds)) H')∧(br kinds rs ws ns [(p,kd)]=none→∀H',ak H H'→E (.ref κ.badCover) none H')
theorem Cp {κ:Cl} {b wt ct:Addr} {kinds:List Str} {rs:List Rl} {ws:List V} {p:Nat} {kd:Str} {ns:List Str} {H:Hp} {Q:VK} {E:XK} (p0:bo H b kinds rs) (p1:H wt=some (.tup ws)) (p2:H ct=some (.tup (ns.map V.str))) (p3:Bk kinds rs) (p4:Tw ws) (p5:p < ws.length) (p6:bu kd) (p7:∀z∈kinds,bu z) (p8:∀z∈ns,bu z) (p9:ns.length≤1000) (pa:∀ds,br kinds rs ws ns [(p,kd)]=some ds→∀(H':Hp),ak H H'→Q (.int (cpr ds)) H') (pb:br kinds rs ws ns [(p,kd)]=none→∀H',ak H H'→E (.ref κ.badCover) none H'):j4 κ [.ref b,.ref wt,.int (p:Int),.str kd,.ref ct] H Q E:=⟨b,wt,ct,kinds,rs,ws,p,kd,ns,rfl,p0,p1,p2,p3,p4,p5,p6,p7,p8,p9,pa,pb⟩
noncomputable def yj (o:Option (List (Rl×Und))):Int:=match o with
 | some ds=>cpr ds
 | none=>0
def mr:Sp:=λvs H Q _=>∃(b wt ct:Addr) (kinds:List Str) (rs:List Rl) (ws:List V) (p:Nat) (kd:Str) (ns:List Str),vs=[.ref b,.ref wt,.int (p:Int),.str kd,.ref ct]∧bo H b kinds rs∧H wt=some (.tup ws)∧H ct=some (.tup (ns.map V.str))∧Bk kinds rs∧Tw ws∧p < ws.length∧bu kd∧(∀z∈kinds,bu z)∧ns.length≤1000∧∀(H':Hp),ak H H'→Q (.int (yj (br kinds rs ws ns [(p,kd)]))) H'
theorem Hk {b wt ct:Addr} {kinds:List Str} {rs:List Rl} {ws:List V} {p:Nat} {kd:Str} {ns:List Str} {H:Hp} {Q:VK} {E:XK} (p0:bo H b kinds rs) (p1:H wt=some (.tup ws)) (p2:H ct=some (.tup (ns.map V.str))) (p3:Bk kinds rs) (p4:Tw ws) (p5:p < ws.length) (p6:bu kd) (p7:∀z∈kinds,bu z) (p9:ns.length≤1000) (pa:∀(H':Hp),ak H H'→Q (.int (yj (br kinds rs ws ns [(p,kd)]))) H'):mr [.ref b,.ref wt,.int (p:Int),.str kd,.ref ct] H Q E:=⟨b,wt,ct,kinds,rs,ws,p,kd,ns,rfl,p0,p1,p2,p3,p4,p5,p6,p7,p9,pa⟩
def mv:Sp:=λvs H Q _=>∃(d b wt dk:Addr) (ms:List Int) (kinds:List Str) (rs:List Rl) (ws:List V) (p n:Nat) (kd:Str),vs=[.ref d,.ref b,.ref wt,.int (p:Int),.str kd,.int 30]∧cq H d dk ms n∧n≤90000∧bo H b kinds rs∧H wt=some (.tup ws)∧Bk kinds rs∧Tw ws∧p < ws.length∧(∀(n':Nat) (H':Hp),au d H H'→H' d=some (.lst [.ref dk,.int (n':Int)])→n'≤n+70→Q .non H')∧∀(n':Nat) (t:Addr) (ns:List Str) (H':Hp),au d H H'→H' d=some (.lst [.ref dk,.int (n':Int)])→n'≤n+70→H' t=some (.tup (ns.map V.str))→1≤ns.length→ns.length≤70→(∀z∈ns,∃r∈rs,r.name=z)→Q (.ref t) H'
theorem Gf {d b wt dk:Addr} {ms:List Int} {kinds:List Str} {rs:List Rl} {ws:List V} {p n:Nat} {kd:Str} {H:Hp} {Q:VK} {E:XK} (p0:cq H d dk ms n) (p1:n≤90000) (p2:bo H b kinds rs) (p3:H wt=some (.tup ws)) (p4:Bk kinds rs) (p5:Tw ws) (p6:p < ws.length) (p7:∀(n':Nat) (H':Hp),au d H H'→H' d=some (.lst [.ref dk,.int (n':Int)])→n'≤n+70→Q .non H') (p8:∀(n':Nat) (t:Addr) (ns:List Str) (H':Hp),au d H H'→H' d=some (.lst [.ref dk,.int (n':Int)])→n'≤n+70→H' t=some (.tup (ns.map V.str))→1≤ns.length→ns.length≤70→(∀z∈ns,∃r∈rs,r.name=z)→Q (.ref t) H'):mv [.ref d,.ref b,.ref wt,.int (p:Int),.str kd,.int 30] H Q E:=⟨d,b,wt,dk,ms,kinds,rs,ws,p,n,kd,rfl,p0,p1,p2,p3,p4,p5,p6,p7,p8⟩
def ue:Sp:=λvs H Q _=>∃(d ct b nl dk:Addr) (ms:List Int) (kinds:List Str) (rs:List Rl) (zs ns:List Str) (n:Nat),vs=[.ref d,.ref ct,.ref b,.ref nl]∧cq H d dk ms n∧n≤90000∧H ct=some (.tup (ns.map V.str))∧bo H b kinds rs∧bw H nl zs∧1≤ns.length∧ns.length≤70∧1≤kinds.length∧rs.length≤100∧(∀z∈zs,bu z)∧(∀z∈ns,bu z)∧(∀z∈kinds,bu z)∧(∀r∈rs,bu r.name)∧∀(n':Nat) (t:Addr) (ns':List Str) (H':Hp),au d H H'→H' d=some (.lst [.ref dk,.int (n':Int)])→n'≤n+1→H' t=some (.tup (ns'.map V.str))→ns'.length≤1000→(∀z∈ns',bu z)→Q (.ref t) H'
theorem mkBent {d ct b nl dk:Addr} {ms:List Int} {kinds:List Str} {rs:List Rl} {zs ns:List Str} {n:Nat} {H:Hp} {Q:VK} {E:XK} (p0:cq H d dk ms n) (p1:n≤90000) (p2:H ct=some (.tup (ns.map V.str))) (p3:bo H b kinds rs) (p4:bw H nl zs) (p5:1≤ns.length) (p6:ns.length≤70) (p7:1≤kinds.length) (p8:rs.length≤100) (p9:∀z∈zs,bu z) (pa:∀z∈ns,bu z) (pb:∀z∈kinds,bu z) (pc:∀r∈rs,bu r.name) (pd:∀(n':Nat) (t:Addr) (ns':List Str) (H':Hp),au d H H'→H' d=some (.lst [.ref dk,.int (n':Int)])→n'≤n+1→H' t=some (.tup (ns'.map V.str))→ns'.length≤1000→(∀z∈ns',bu z)→Q (.ref t) H'):ue [.ref d,.ref ct,.ref b,.ref nl] H Q E:=⟨d,ct,b,nl,dk,ms,kinds,rs,zs,ns,n,rfl,p0,p1,p2,p3,p4,p5,p6,p7,p8,p9,pa,pb,pc,pd⟩
def mj:Sp:=λvs H Q _=>∃(b wt ct:Addr) (kinds:List Str) (rs:List Rl) (ws:List V) (p:Nat) (kd:Str) (ns:List Str),vs=[.ref b,.ref wt,.int (p:Int),.str kd,.ref ct]∧bo H b kinds rs∧H wt=some (.tup ws)∧H ct=some (.tup (ns.map V.str))∧Bk kinds rs∧Tw ws∧p < ws.length∧bu kd∧(∀z∈kinds,bu z)∧(∀z∈ns,bu z)∧ns.length≤1000∧∀(H':Hp),ak H H'→Q (.bl true) H'
theorem ir {b wt ct:Addr} {kinds:List Str} {rs:List Rl} {ws:List V} {p:Nat} {kd:Str} {ns:List Str} {H:Hp} {Q:VK} {E:XK} (p0:bo H b kinds rs) (p1:H wt=some (.tup ws)) (p2:H ct=some (.tup (ns.map V.str))) (p3:Bk kinds rs) (p4:Tw ws) (p5:p < ws.length) (p6:bu kd) (p7:∀z∈kinds,bu z) (p8:∀z∈ns,bu z) (p9:ns.length≤1000) (pa:∀(H':Hp),ak H H'→Q (.bl true) H'):mj [.ref b,.ref wt,.int (p:Int),.str kd,.ref ct] H Q E:=⟨b,wt,ct,kinds,rs,ws,p,kd,ns,rfl,p0,p1,p2,p3,p4,p5,p6,p7,p8,p9,pa⟩
end Pc
namespace K51
open PySem PySem.Spec L2 PyProof.Rows Pc
set_option hygiene false
set_option compiler.extract_closed false
local macro_rules | `(tactic| push_cast [$xs,*])=>`(tactic| simp only [↓Bb,↓Gm,↓G2,↓Fz,↓exists_eq_left,↓exists_eq_left',↓int_ex,↓ref_ex,↓bl_ex,↓Gz,jy,x4,rID,rUD,tBD,ya,E6,Ff,Dl,tSeq,tIfS,tRet,tRetN,tNext,tVar,tC,vg,tB,tOp,tUn,rI,rI0,rU,rEq,rNe,zk,tCB,tCons,tNil,tAnd,tOr,tNot,tAndV,tOrV,tNotV,tIf,gc,tAsg,tBM,tBM0,tSl,zq,Bu,rSlS,rSlL,tLst,tTup,tDrop,tNoIf,iStr,iList,iTup,iRng1,iRng2,tLC,Bt,qc,List.set_cons_zero,List.set_cons_succ,List.getElem?_cons_zero,List.getElem?_cons_succ,Option.some.injEq,V.int.injEq,V.str.injEq,V.bl.injEq,V.ref.injEq,List.cons.injEq,exists_eq_left,exists_eq_left',exists_eq_right,exists_eq_right',exists_and_left,exists_and_right,and_true,true_and,List.cons_append,List.nil_append,List.append_nil,reduceCtorEq,false_and,exists_false,false_or,or_false,decide_eq_true_eq,eq_self,if_true,if_false,Bool.false_eq_true,Bool.true_eq_false,cxOf_K,cxOf_P,cxOf_w,Gr,cxOf_b,List.map_cons,List.map_nil,Option.getD_some,Option.getD_none,exists_const,nox_K,and_assoc,exists_eq,exists_eq',V.ty.injEq,tVals,Int.reduceLT,Int.reduceLE,Int.reduceNeg,Int.reducePow,Nat.reduceLT,Nat.reduceLeDiff,Hc,Gw,ke,tCallV,tDIn,Gn,tDGet,iRev,tDNewK,sDPut,and_self,exists_prop,$xs,*])
set_option hygiene true
set_option compiler.extract_closed true
noncomputable def top (i:Nat):Stmt:=PySem.Challenge.pw_pricecover_k51_cover_price.main.body.getD i (.Pass ⟨0,0,0,0⟩)
structure Gs (w:World) (K:PySem.W.Frag) (mg:Str→Option Value) (κ:Cl):Prop where
 er:Errs K mg κ
 i_BadCover:PySem.W.findIn K (.ref κ.badCover) "__init__"=some (some (.builtin "ValueError.__init__"))
 m_ValueError:mg "ValueError"=none
 m_bool:mg "bool"=none
 m_int:mg "int"=none
 m_isinstance:mg "isinstance"=none
 m_len:mg "len"=none
 m_list:mg "list"=none
 m_min:mg "min"=none
 m_range:mg "range"=none
 m_reversed:mg "reversed"=none
 m_str:mg "str"=none
 m_sum:mg "sum"=none
 m_tuple:mg "tuple"=none
 m_zip:mg "zip"=none
 m_PARTS_BELOW:∃a,mg "PARTS_BELOW"=some (.ref a)∧ModD w K a [(Sum.inr "add",.int 2),(Sum.inr "sub",.int 2),(Sum.inr "mul",.int 2),(Sum.inr "neg",.int 1)]
def zt (K:PySem.W.Frag):Sp:=λvs H Q _=>∃(a:Addr) (ns:List Int),vs=[.ref a]∧SqL K H a (ns.map V.int)∧ns.length≤63∧∀H',Q (.bl true) H'
def spT:Sp:=λvs H Q _=>False
set_option hygiene false
local macro_rules
 | `(A0 $a)=>`(@pl _ $a _ _ rfl rfl (by decide))
 | `(A1 $a $b)=>`(@uf _ _ _ _ _ $a $b rfl)
 | `(A2 $_)=>`(@Cb _ _ _ _)
 | `(A3 $_)=>`(@Dj _)
 | `(A4 $a $b $c)=>`(@pe_op _ _ _ _ _ _ _ _ $a $b $c)
 | `(A5 $a $b)=>`(@Fh _ _ _ _ _ $a $b)
 | `(A6 $a $b $c)=>`(@Cg _ _ $a _ _ _ _ $b rfl (ab8 rfl) $c rfl (.inl rfl))
 | `(A7 $a)=>`(@G4 _ _ _ $a)
 | `(A8 $a $b $c)=>`(@pe_ix _ _ _ _ _ _ _ $a $b $c (λ_ _=>rfl))
 | `(A9 $_)=>`(@nomark _ _ (by decide) (by decide))
 | `(AA $a $b $c $d)=>`(@uy _ _ _ _ _ _ _ _ $a $b $c $d)
 | `(AB $a $b $c)=>`(@ps_if _ _ _ _ _ _ _ _ $a $b $c)
 | `(AC $_)=>`(@Ga _)
 | `(AD $a)=>`(@ps_ret _ _ _ _ $a)
 | `(AE $a)=>`(@pe_lst _ _ _ _ $a)
 | `(AF $_)=>`(@Ex _)
 | `(AG $_)=>`(@Gq _)
 | `(AH $a)=>`(@tq.str _ _ _ _ _ $a)
 | `(AI $_)=>`(@Ea _ _ _ _)
 | `(AJ $a $b $c)=>`(@pe_has _ _ _ _ _ _ _ _ _ _ $a $b $c rfl (by decide+kernel) rfl rfl)
 | `(AK $a $b $c $d)=>`(@De _ _ _ _ _ _ _ _ _ $a rfl $b $c $d (by decide) (by decide) rfl rfl)
 | `(AL $_)=>`(@Ir _)
 | `(AM $_)=>`(@op_eq _)
 | `(AN $_)=>`(@yl _)
 | `(AO $a)=>`(@pe_tup _ _ _ _ _ $a)
 | `(AQ $_)=>`(@Bz _)
 | `(AR $a)=>`(@Fo _ _ _ _ $a rfl)
 | `(AS $a)=>`(@pk _ $a _ _ rfl rfl (by decide))
 | `(AT $a $b $c $d $e $f)=>`(@pe_bm _ _ _ _ _ _ _ _ _ _ _ _ $a $b $c $d $e $f rfl rfl rfl rfl rfl)
 | `(AU $_)=>`(@qf _)
 | `(AV $_)=>`(@qu _)
 | `(AW $a $b $c)=>`(@yn _ _ $a _ $b rfl $c (.inl rfl))
 | `(AX $a $b $c $d)=>`(@Af _ _ _ _ _ _ _ _ _ $a rfl $b $c $d (by decide) (by decide) rfl rfl)
 | `(AY $_)=>`(@Hh _)
 | `(AZ $a $b $c $d)=>`(@Fe _ _ _ _ _ _ _ _ _ _ $a $b $c $d)
 | `(B0 $_)=>`(@Hv _)
 | `(B7 $a)=>`(@Cq _ _ _ $a)
 | `(BB $a)=>`(@PW.pt _ _ _ $a)
 | `(BD $_)=>`(@op_gtD _)
 | `(BE $_)=>`(@oz _)
 | `(BF $a)=>`(@Bp _ _ _ $a)
 | `(BG $_)=>`(@tq.nil)
 | `(BH $a)=>`(@Gx _ _ _ _ $a rfl (by decide+kernel))
 | `(BI $a $b $c)=>`(@xk _ _ _ _ _ _ _ _ PassesOwn.never rfl $a $b $c (by intro _;rfl))
 | `(BJ $a)=>`(@pi_tup _ _ _ _ $a)
 | `(BK $a $b)=>`(@Hy _ _ _ _ _ $a $b)
 | `(BL $a $b $c)=>`(@uy _ _ _ _ _ _ _ _ $a $b $c (by with_unfolding_all rfl))
 | `(BM $a)=>`(@G7 _ _ _ $a (by intro _;rfl))
 | `(BN $a $b)=>`(@pw_and _ _ _ _ _ _ _ $a $b)
 | `(BO $_)=>`(@Gk _)
 | `(BP $a $b)=>`(@yn _ _ $a _ $b rfl (ab8 rfl) (.inr rfl))
 | `(BQ $a)=>`(@He _ _ _ _ $a)
 | `(BR $a $b)=>`(@Fc _ _ _ _ _ $a $b rfl)
 | `(BS $_)=>`(@pe_bl _ _ _ _)
 | `(BT $a $b $c $d $e)=>`(@g8.mk _ _ $a $b $c _ rfl rfl rfl rfl $d rfl $e)
 | `(BU $_)=>`(@xn _)
 | `(BV $_)=>`(@Fj _)
 | `(BW $_)=>`(@qr _)
 | `(BX $a $b)=>`(@pe_gty _ _ _ _ $a $b rfl (by decide+kernel) (by decide+kernel))
 | `(BY $a)=>`(@tq.int _ _ _ _ _ $a)
 | `(BZ $_)=>`(@vh _)
 | `(C0 $a)=>`(@pt_not _ _ _ _ $a)
 | `(C2 $a)=>`(@pif1 _ _ _ $a)
 | `(C3 $a $b $c $d $e)=>`(@pe_bm0 _ _ _ _ _ _ _ _ _ $a $b $c $d $e rfl rfl)
 | `(C5 $a)=>`(@G8 _ $a rfl)
 | `(C6 $a $b)=>`(@Ac _ _ _ _ _ _ rfl $a $b rfl)
 | `(C7 $a $b $c $d $e)=>`(@pe_lc _ _ _ _ _ _ _ _ _ _ _ _ _ _ _ $a rfl $b $c $d $e (by intro _;rfl))
 | `(C8 $a $b)=>`(@pe_and _ _ _ _ _ _ _ $a $b)
 | `(C9 $a $b $c $d)=>`(@t5 _ _ _ _ _ _ _ _ $a $b $c $d)
 | `(CA $a $b)=>`(@ps_asg _ _ _ _ _ _ $a $b rfl rfl rfl)
 | `(CB $a $b)=>`(@Bl _ _ _ _ _ _ PassesOwn.never $a $b)
 | `(CC $a $b $c)=>`(@Ft _ _ _ _ _ _ $a $b $c (λ_ _=>rfl))
 | `(CD $a $b)=>`(@Hu _ _ _ _ _ _ $a $b)
 | `(CF $a $b $c)=>`(@Cg _ _ $a _ _ _ _ $b rfl (abc rfl) $c rfl (.inl rfl))
 | `(CG $a $b)=>`(@pw_or _ _ _ _ _ _ _ $a $b)
 | `(CH $a $b)=>`(@Ec _ _ _ _ _ $a rfl $b rfl rfl)
 | `(CI $a $b $c)=>`(@Du _ _ _ _ _ _ _ _ $a $b $c)
 | `(CJ $a $b $c)=>`(@E5 _ _ _ _ _ _ _ _ _ $a $b $c)
 | `(CK $a $b $c $d $e $f $g)=>`(@Cr _ _ _ _ _ _ _ _ _ _ _ _ _ _ _ $a _ _ _ $b rfl (ab8 rfl) $c rfl $d $e $f $g rfl (by intro _;rfl) (.inl rfl))
 | `(CL $a $b $c)=>`(@xh _ _ _ _ _ _ _ _ rfl rfl $a rfl $b $c rfl rfl rfl)
 | `(CM $a $b $c $d $e)=>`(@Ar _ _ _ _ _ _ _ _ _ _ _ _ $a $b $c $d $e rfl (by decide+kernel) rfl rfl)
 | `(CN $a $b $c)=>`(@yd _ _ _ _ _ _ _ rfl rfl $a rfl $b $c rfl rfl)
set_option hygiene true
section
variable {P:Program} {w:World} {K:PySem.W.Frag} {mg:Str→Option Value} {base:Heap} {k:Nat} {κ:Cl}
noncomputable abbrev xg:Stmt:=top 15
theorem scHow:ba ["word"] ["word"] (ah xg):=⟨rfl,rfl,rfl,by decide+kernel,rfl,by decide+kernel,by decide+kernel⟩
theorem hasHow (G:Gs w K mg κ) (D:Def K mg "how_many_below" xg ["word"]):Has P w K mg base (k+1) "how_many_below" ["word"] my:=by
 refine D.has scHow (λvs H Q E h=>?_) (λf cdv A outer s H vs Q E hr h=>?_)
 ·obtain ⟨_,rfl,_,_⟩:=h;rfl
 have nd:=scHow.nd;have hu:=cv hr;have hu0:=aaj hu;obtain ⟨v,rfl,hw,q⟩:=h;obtain ⟨a_PARTS_BELOW,m_PARTS_BELOW,s_PARTS_BELOW⟩:=G.m_PARTS_BELOW;refine ⟨_,(A7 (AD (@Ey _ _ _ _ _ _ _ _ _ _ (BH m_PARTS_BELOW) s_PARTS_BELOW (A0 0) (A2 0) (@M2.mk _ _ _ _ _ _ _ rfl rfl rfl rfl)))),?_⟩;rw[show start ["word"] [v]=[some (v)] from rfl];clear hu hu0 nd hr;push_cast [Eh];obtain ⟨k,rfl⟩:=hw;refine ⟨k,rfl,?_⟩;show Q ((ky parts k).getD (V.int 0)) H
 rw[zy];exact q
noncomputable abbrev gv:Stmt:=top 16
theorem vq:ba ["words","place","lacking","at"] ["words","place"] (ah gv):=⟨rfl,rfl,rfl,by decide+kernel,rfl,by decide+kernel,by decide+kernel⟩
theorem Aq (G:Gs w K mg κ) (h_how_many_below:Has P w K mg base k "how_many_below" ["word"] my) (D:Def K mg "place_behind" gv ["words","place"]):Has P w K mg base (k+1) "place_behind" ["words","place"] (pe K):=by
 refine D.has vq (λvs H Q E h=>?_) (λf cdv A outer s H vs Q E hr h=>?_)
 ·obtain ⟨_,_,_,_,rfl,_,_,_,_,_⟩:=h;rfl
 have nd:=vq.nd;have hu:=cv hr;have hu0:=aaj hu;obtain ⟨t,ws,p,n,rfl,hT,hw,hl,he,q⟩:=h;refine ⟨_,(A5 (A6 2 nd (A2 0)) (A5 (A6 3 nd (A0 1)) (A5 (CB (AA (BD 0) (A0 2) (A2 0) (A9 0)) (A5 (A6 2 nd (A4 (AL 0) (A4 (AY 0) (A0 2) (A2 0)) (AJ h_how_many_below hr (A1 (A8 (AF 0) (A0 0) (A0 3)) (A3 0))))) (A7 (A6 3 nd (A4 (AL 0) (A0 3) (A2 0)))))) (A7 (AD (A0 3)))))),?_⟩;rw[show start ["words","place","lacking","at"] [.ref t,.int (p:Int)]=[some (.ref t),some (.int (p:Int)),none,none] from rfl];clear hu hu0 nd hr;push_cast [my];have hn:=og _ _ _ he;rw[aa0,aah] at hn;refine jq (λσ H'=>∃(d j:Nat),σ=[some (.ref t),some (.int (p:Int)),some (.int (d:Int)),some (.int ((p+j:Nat):Int))]∧H'=H∧j≤n∧eat d ((ws.drop (p+j)).map arV)=some (n - j))
  (λσ _=>p+n - intAt σ 3) ⟨1,0,rfl,rfl,aaa _,he⟩ ?_ ?_
 ·rintro σ H' ⟨d,j,rfl,rfl,hj,hd⟩;push_cast [my];refine bp (λc=>?_) λc=>?_
  ·obtain ⟨d',rfl⟩:∃d',d=d'+1:=⟨d - 1,by omega⟩;have hpos:=rh _ _ _ hd;have hlt:p+j < ws.length:=by omega
   have ed:ws.drop (p+j)=ws[p+j]::ws.drop (p+j+1):=aat hlt;rw[ed,ab0,de] at hd;obtain ⟨m,hm,em⟩:=Option.map_eq_some_iff.mp hd;refine ⟨t,ws,((p+j:Nat):Int),ws[p+j],rfl,rfl,hT,ay (aa2 hlt),hw _ (ab1 hlt),⟨d'+arV ws[p+j],by omega,j+1,by omega,rfl,by omega,?_⟩,?_⟩
   ·rw[show n - (j+1)=m by omega];exact hm
   ·show p+n - (((p+j:Nat):Int)+1).toNat < p+n - (((p+j:Nat):Int)).toNat
    omega
  ·have d0:d=0:=by omega
   subst d0;rw[il] at hd;have:n - j=0:=(aa6 hd).symm;have e:((p+j:Nat):Int)=(p:Int)+(n:Int):=by omega
   rw[e];exact q H' (ak.refl _)
 ·intro σ H' Q1 Q2 hq h;simp only[vg,tOp,rI0,iy,tC,je,gn,tB] at h ⊢;obtain ⟨v,hv,i,j,e1,e2,k,e3,h⟩:=h;exact ⟨v,hv,i,j,e1,e2,k,e3,hq _ _ h⟩
noncomputable abbrev m7:Stmt:=top 18
theorem Bm:ba ["word","kinds"] ["word","kinds"] (ah m7):=⟨rfl,rfl,rfl,by decide+kernel,rfl,by decide+kernel,by decide+kernel⟩
theorem Fw (G:Gs w K mg κ) (D:Def K mg "leaf_letter" m7 ["word","kinds"]):Has P w K mg base (k+1) "leaf_letter" ["word","kinds"] (gm K):=by
 refine D.has Bm (λvs H Q E h=>?_) (λf cdv A outer s H vs Q E hr h=>?_)
 ·obtain ⟨_,_,_,rfl,_,_,_⟩:=h;rfl
 have nd:=Bm.nd;have hu:=cv hr;have hu0:=aaj hu;obtain ⟨v,kt,kinds,rfl,hv,hK,q⟩:=h;refine ⟨_,(A5 (AB (AA (AM 0) (A0 0) (AI 0) (A9 0)) (A7 (AD (AI 0))) (AG 0)) (A5 (AB (AA (AM 0) (A0 0) (AI 0) (A9 0)) (A7 (AD (AI 0))) (AG 0)) (A7 (AD (CI (BL (BW 0) (A0 0) (A0 1)) (AI 0) (AI 0)))))),?_⟩;rw[show start ["word","kinds"] [v,.ref kt]=[some (v),some (.ref kt)] from rfl];clear hu hu0 nd hr;push_cast [rIn];have fl:(kinds.map V.str).all eu=true:=List.all_eq_true.mpr λx hx=>by obtain ⟨z,_,rfl⟩:=List.mem_map.mp hx;rfl
 unfold b7 fk dw lN lV lH lO at q;refine ⟨hv.sc _,bp (λe=>?_) λn1=>⟨hv.sc _,bp (λe=>?_) λn2=>⟨_,.inr hK,hv.flat,fl,bp (λe=>?_) λe=>?_⟩⟩⟩
 ·rw[if_pos e] at q;exact q
 ·rw[if_neg n1,if_pos e] at q;exact q
 ·rw[if_neg n1,if_neg n2,if_pos e] at q;exact q
 ·rw[if_neg n1,if_neg n2,if_neg e] at q;exact q
noncomputable abbrev n6:Stmt:=top 20
theorem Cn:ba ["letter","shape_word","word"] ["letter","shape_word","word"] (ah n6):=⟨rfl,rfl,rfl,by decide+kernel,rfl,by decide+kernel,by decide+kernel⟩
theorem Ho (G:Gs w K mg κ) (h_how_many_below:Has P w K mg base k "how_many_below" ["word"] my) (D:Def K mg "lies_upon" n6 ["letter","shape_word","word"]):Has P w K mg base (k+1) "lies_upon" ["letter","shape_word","word"] tj:=by
 refine D.has Cn (λvs H Q E h=>?_) (λf cdv A outer s H vs Q E hr h=>?_)
 ·obtain ⟨_,_,_,rfl,_,_,_⟩:=h;rfl
 have nd:=Cn.nd;have hu:=cv hr;have hu0:=aaj hu;obtain ⟨l,v,x,rfl,hv,hx,q⟩:=h;have m_isinstance:=G.m_isinstance;have m_str:=G.m_str;refine ⟨_,(A5 (AB (AA (AM 0) (A0 0) (AI 0) (A9 0)) (A7 (AD (BS 0))) (AG 0)) (A5 (AB (AA (AM 0) (A0 0) (AI 0) (A9 0)) (A7 (AD (@Es _ _ _ _ (AK (BZ 0) m_isinstance bj (A1 (A0 2) (A1 (BX m_str y9) (A3 0))))))) (AG 0)) (A5 (AB (AA (AM 0) (A0 0) (AI 0) (A9 0)) (A7 (AD (C8 (AK (BZ 0) m_isinstance bj (A1 (A0 2) (A1 (BX m_str y9) (A3 0)))) (@xo _ _ _ _ _ (C9 (AM 0) (AJ h_how_many_below hr (A1 (A0 2) (A3 0))) (A2 0) (A9 0)))))) (AG 0)) (A7 (AD (C9 (AM 0) (A0 1) (A0 2) (A9 0))))))),?_⟩;rw[show start ["letter","shape_word","word"] [.str l,v,x]=[some (.str l),some (v),some (x)] from rfl];clear hu hu0 nd hr;push_cast [my];unfold lies lH lN lV at q;refine ⟨rfl,bp (λe=>?_) λn1=>⟨rfl,bp (λe=>?_) λn2=>⟨rfl,bp (λe=>?_) λn3=>⟨hv.sc2 hx,?_⟩⟩⟩⟩
 ·rw[if_pos e] at q;exact q
 ·rw[if_neg n1,if_pos e] at q;obtain ⟨k',rfl⟩:=hx;cases k' with
  | inl i=>exact ⟨_,.int i,false,rfl,q⟩
  | inr z=>exact ⟨_,.str z,true,rfl,q⟩
 ·rw[if_neg n1,if_neg n2,if_pos e] at q;have hx':=hx;obtain ⟨k',rfl⟩:=hx;cases k' with
  | inl i=>exact ⟨_,.int i,false,rfl,uj q⟩
  | inr z=>
   refine ⟨_,.str z,true,rfl,o8 ⟨hx',rfl,?_⟩⟩;rw[show decide (((arV (kV (Sum.inr z)):Nat):Int)=0)=decide (arV (kV (Sum.inr z))=0) from decide_eq_decide.mpr (by omega)];exact q
 ·rw[if_neg n1,if_neg n2,if_neg n3] at q;exact q
noncomputable abbrev oq:Stmt:=top 21
theorem Ca:ba ["shape","kinds","words","place","under","at","shape_word","letter"] ["shape","kinds","words","place"] (ah oq):=⟨rfl,rfl,rfl,by decide+kernel,rfl,by decide+kernel,by decide+kernel⟩
theorem Gv (G:Gs w K mg κ) (h_leaf_letter:Has P w K mg base k "leaf_letter" ["word","kinds"] (gm K)) (h_lies_upon:Has P w K mg base k "lies_upon" ["letter","shape_word","word"] tj) (h_place_behind:Has P w K mg base k "place_behind" ["words","place"] (pe K)) (D:Def K mg "laid" oq ["shape","kinds","words","place"]):Has P w K mg base (k+1) "laid" ["shape","kinds","words","place"] (ur K):=by
 refine D.has Ca (λvs H Q E h=>?_) (λf cdv A outer s H vs Q E hr h=>?_)
 ·obtain ⟨_,_,_,_,_,_,_,_,rfl,_,_,_,_,_,_,_,_,_,_,_⟩:=h;rfl
 have nd:=Ca.nd;have hu:=cv hr;have hu0:=aaj hu;obtain ⟨st,kt,wt,sh,kinds,ws,p,n,rfl,hS,hK,hW,hk,hs,hw,hTm,he,hl1,hl2,q⟩:=h;have m_tuple:=G.m_tuple;refine ⟨_,(A5 (A6 4 nd (@Fn _ _ _ _ _ (CJ (AI 0) (AE (A3 0)) (CJ (AI 0) (AE (A3 0)) (CJ (AI 0) (AE (A3 0)) (@Gu _ _)))) rfl rfl (λe=>nomatch e) (by decide))) (A5 (A6 5 nd (A0 3)) (A5 (BI (BJ (A0 0)) (AW 6 nd (by first | exact ab8 rfl | exact abc rfl)) (A5 (A6 7 nd (AJ h_leaf_letter hr (A1 (A0 6) (A1 (A0 1) (A3 0))))) (A5 (AB (C0 (BM (AJ h_lies_upon hr (A1 (A0 7) (A1 (A0 6) (A1 (A8 (AF 0) (A0 2) (A0 5)) (A3 0))))))) (A7 (AD (@om _ _ _))) (AG 0)) (BK (AB (AA (@Co _) (A0 7) (AI 0) (A9 0)) (A7 (AR (AT PySem.F.plainAttrs_list PySem.F.slot_list_append PySem.F.type_list_append (AV 0) (CC hu (A0 4) (A0 7)) (A1 (CI (AA (AM 0) (A0 7) (AI 0) (A9 0)) (A0 5) (A8 (AF 0) (A0 2) (A0 5))) (A3 0))))) (AG 0)) (A7 (A6 5 nd (CI (AA (AM 0) (A0 7) (AI 0) (A9 0)) (AJ h_place_behind hr (A1 (A0 2) (A1 (A0 5) (A3 0)))) (A4 (AL 0) (A0 5) (A2 0))))))))) (A7 (AD (AO (A1 (AX (BE 0) m_tuple cz (A1 (CC hu (A0 4) (AI 0)) (A3 0))) (A1 (AX (BE 0) m_tuple cz (A1 (CC hu (A0 4) (AI 0)) (A3 0))) (A1 (AX (BE 0) m_tuple cz (A1 (CC hu (A0 4) (AI 0)) (A3 0))) (A3 0)))))))))),?_⟩;rw[show start ["shape","kinds","words","place","under","at","shape_word","letter"] [.ref st,.ref kt,.ref wt,.int (p:Int)]=[some (.ref st),some (.ref kt),some (.ref wt),some (.int (p:Int)),none,none,none,none] from rfl];clear hu hu0 nd hr;push_cast [tDisp,sr];have sz:=sizeLine_eq;refine λu0 h0=>⟨aaa _,λl1 h1=>⟨aaa _,λl2 h2=>⟨aaa _,λl3 h3=>⟨aa h3 _ _ _ (aa h2 _ _ _ (aa h1 _ _ _ ae)),[(Sum.inr lH,.ref l1),(Sum.inr lN,.ref l2),(Sum.inr lV,.ref l3)],rfl,by show (3:Nat)≤15;decide,?_⟩⟩⟩⟩;rw[show lg [] [(Sum.inr lH,V.ref l1),(Sum.inr lN,V.ref l2),(Sum.inr lV,V.ref l3)]=[(Sum.inr lH,V.ref l1),(Sum.inr lN,V.ref l2),(Sum.inr lV,V.ref l3)] from rfl];have n10:l1≠u0:=(ag ae h1).symm;have n20:l2≠u0:=(ag (aa h1 _ _ _ ae) h2).symm;have n30:l3≠u0:=(ag (aa h2 _ _ _ (aa h1 _ _ _ ae)) h3).symm;have n21:l2≠l1:=(ag ae h2).symm;have n31:l3≠l1:=(ag (aa h2 _ _ _ ae) h3).symm;have n32:l3≠l2:=(ag ae h3).symm;have S1:=aa h0 (.dK []);have f1:=S1.free h1;have S2:=S1.trans (aa h1 (.lst []));have f2:=S2.free h2;have S3:=S2.trans (aa h2 (.lst []));have f3:=S3.free h3;have S4:=(S3.trans (aa h3 (.lst []))).upd h0 (.dK [(Sum.inr lH,V.ref l1),(Sum.inr lN,V.ref l2),(Sum.inr lV,V.ref l3)]);have U4:UAt (upd (upd (upd (upd (upd H u0 (.dK [])) l1 (.lst [])) l2 (.lst [])) l3 (.lst [])) u0 (.dK [(Sum.inr lH,V.ref l1),(Sum.inr lN,V.ref l2),(Sum.inr lV,V.ref l3)])) u0 l1 l2 l3 ⟨[],[],[]⟩:=
  ⟨ae,by rw[af n10,af n31.symm,af n21.symm,ae];rfl,by rw[af n20,af n32.symm,ae],by rw[af n30,ae]⟩
 generalize upd (upd (upd (upd (upd H u0 (.dK [])) l1 (.lst [])) l2 (.lst [])) l3 (.lst [])) u0 (.dK [(Sum.inr lH,V.ref l1),(Sum.inr lN,V.ref l2),(Sum.inr lV,V.ref l3)])=H4 at S4 U4 ⊢;obtain ⟨P1,eP1⟩:∃P1:Nat→L2.St→Hp→Prop,∀i σ H',P1 i σ H'↔∃(q':Nat) (u:Und) (v6 v7:Option V),σ=[some (.ref st),some (.ref kt),some (.ref wt),some (.int (p:Int)),some (.ref u0),some (.int (q':Int)),v6,v7]∧ak H H'∧UAt H' u0 l1 l2 l3 u∧cj kinds ws (sh.drop i) q' u=cj kinds ws sh p ⟨[],[],[]⟩∧(u.hs.length≤i∧u.ns.length≤i∧u.vs.length≤i)∧wz u∧∃d m,pend d ((sh.drop i).map arV)=some 0∧eat d ((ws.drop q').map arV)=some m:=⟨_,λ_ _ _=>abm⟩;refine ⟨⟨sh,S4.tup hS⟩,ee (xs:=sh) P1 ((eP1 _ _ _).mpr ⟨p,⟨[],[],[]⟩,none,none,rfl,S4,U4,rfl,⟨aaa _,aaa _,aaa _⟩,⟨(λ_ h=>nomatch h),(λ_ h=>nomatch h)⟩,1,n,hTm,he⟩) (λi σ H' _ h=>by obtain ⟨_,_,_,_,_,s,_⟩:=(eP1 _ _ _).mp h;exact s.tup hS) ?_ ?_⟩
 ·intro i v σ H5 hvi hh;refine ob4 ((eP1 _ _ _).mp hh) λq' u v6 v7 hh=>?_;have s5:=hh.2.1;have U5:=hh.2.2.1;have e5:=hh.2.2.2.1;have hul:=hh.2.2.2.2.1;have huw:=hh.2.2.2.2.2.1;have hdm:=hh.2.2.2.2.2.2;obtain rfl:=hh.1;clear hh;obtain ⟨d,m,hp5,he5⟩:=hdm;have fin:∀(q2:Nat) (z:Int) (u2:Und) (w6 w7:Option V) (H':Hp),z=(q2:Int)→ak H H'→UAt H' u0 l1 l2 l3 u2→cj kinds ws (sh.drop (i+1)) q2 u2=cj kinds ws sh p ⟨[],[],[]⟩→(u2.hs.length≤i+1∧u2.ns.length≤i+1∧u2.vs.length≤i+1)→wz u2→(∃d m,pend d ((sh.drop (i+1)).map arV)=some 0∧eat d ((ws.drop q2).map arV)=some m)→P1 (i+1) [some (.ref st),some (.ref kt),some (.ref wt),some (.int (p:Int)),some (.ref u0),some (.int z),w6,w7] H':=λq2 z u2 w6 w7 H' ez a1 a2 a3 a4 a5 a6=>(eP1 _ _ _).mpr ⟨q2,u2,w6,w7,by rw[ez],a1,a2,a3,a4,a5,a6⟩;have hil:i < sh.length:=(List.getElem?_eq_some_iff.mp hvi).1;have ed:sh.drop i=v::sh.drop (i+1):=by
   rw[aat hil];congr 1
   rw[aa2 hil] at hvi;exact aa6 hvi
  rw[ed] at e5 hp5;obtain ⟨d',rfl⟩:∃d',d=d'+1:=by
   cases d with
   | zero=>cases hp5
   | succ d'=>exact ⟨d',rfl⟩
  have hq:q' < ws.length:=by
   have a1:=rh _ _ _ he5;have a2:=og _ _ _ he5;rw[aa0,aah] at a2;omega
  have hx:ws[q']?=some ws[q']:=aa2 hq;have hxw:=hw _ (ab1 hq);have hat:atI ws (q':Int)=some ws[q']:=ay hx;have hvw:=hs v (aad hvi);have hgd:ws.getD q' .non=ws[q']:=by rw[aan,hx];rfl
  rw[gk,hgd] at e5;generalize ws[q']=x at hx hxw hat hgd e5;push_cast [and_true];refine Hq hvw (s5.tup hK) ?_;push_cast [and_true];refine ⟨wt,ws,(q':Int),x,rfl,rfl,s5.tup hW,hat,mkLies hvw hxw ?_⟩;push_cast [and_true];cases hli:lies (b7 kinds v) v x with
  | false=>
   rw[hli,if_neg (by decide)] at e5;rw[if_pos (show (!false)=true from rfl)];have z:=q H5 s5;rw[←e5] at z;exact z
  | true=>
   rw[hli,if_pos rfl] at e5;rw[if_neg (show ¬(!true)=true by decide)];obtain ⟨d2,m2,hp6,he6⟩:=dy hk hvw hx hxw hp5 he5 hli;have hul':=u.zu (b7 kinds v) q' x hul;have huw':=huw.put hxw (b7 kinds v) q';obtain ⟨b1,b2,b3,b4,b5,b6⟩:=lets;refine df (λσ' H6=>σ'=[some (.ref st),some (.ref kt),some (.ref wt),some (.int (p:Int)),some (.ref u0),some (.int (q':Int)),some v,some (.str (b7 kinds v))]∧ak H H6∧UAt H6 u0 l1 l2 l3 (u.put (b7 kinds v) q' x)) ?_ ?_
   ·push_cast [and_true];refine ⟨rfl,?_⟩;rcases dj (kinds:=kinds) hvw with ⟨_,h⟩ | ⟨_,h⟩ | ⟨_,h⟩ | ⟨h,_⟩
    ·rw[h,if_pos (by decide+kernel)];refine ⟨_,U5.get2,av U5.2.2.1,rfl,?_⟩;rw[if_neg (show ¬lN=Str.ofString "h" from b1)];exact ⟨wt,ws,_,x,rfl,rfl,s5.tup hW,hat,(bh (K:=K) U5.2.2.1 (by omega) ⟨s5.upd f2 _,U5.put2 n20 n21 n32 q' x⟩).2⟩
    ·rw[h,if_pos (by decide+kernel)];refine ⟨_,U5.get3,av U5.2.2.2,rfl,?_⟩;rw[if_neg (show ¬lV=Str.ofString "h" from b2)];exact ⟨wt,ws,_,x,rfl,rfl,s5.tup hW,hat,(bh (K:=K) U5.2.2.2 (by omega) ⟨s5.upd f3 _,U5.put3 n30 n31 n32 q' x⟩).2⟩
    ·rw[h,if_pos (by decide+kernel)];refine ⟨_,U5.get1,av U5.2.1,rfl,?_⟩;rw[if_pos (show lH=Str.ofString "h" from rfl)];exact (bh (K:=K) U5.2.1 (by rw[aa0];omega) ⟨s5.upd f1 _,U5.put1 n10 n21 n31 q' x⟩).2
    ·rw[h,if_neg (by decide+kernel),u.put0];exact ⟨s5,U5⟩
   ·rintro _ H6 ⟨rfl,s6,U6⟩;push_cast [and_true];refine ⟨rfl,bp (λhH=>?_) λhH=>?_⟩
    ·have hH:b7 kinds v=lH:=hH;rw[if_pos hH] at e5 he6;obtain ⟨n1,hn1⟩:=y4 he5;have en:endAt ws q'=q'+n1:=by unfold endAt;rw[hn1];rfl
     rw[en] at e5 he6;exact ⟨wt,ws,q',n1,rfl,s6.tup hW,hw,by omega,hn1,λH7 s7=>fin (q'+n1) _ _ _ _ _ (by omega) (s6.trans s7) (U6.same s7) e5 hul' huw' ⟨d2,m2,hp6,he6⟩⟩
    ·have hH:¬b7 kinds v=lH:=hH;rw[if_neg hH] at e5 he6;exact fin (q'+1) _ _ _ _ _ (by omega) s6 U6 e5 hul' huw' ⟨d2,m2,hp6,he6⟩
 ·intro σ H5 hh;refine ob4 ((eP1 _ _ _).mp hh) λq' u v6 v7 hh=>?_;have s5:=hh.2.1;have U5:=hh.2.2.1;have e5:=hh.2.2.2.1;have hul:=hh.2.2.2.2.1;have huw:=hh.2.2.2.2.2.1;have hdm:=hh.2.2.2.2.2.2;obtain rfl:=hh.1;clear hh;obtain ⟨d,m,hp5,he5⟩:=hdm;rw[abw] at e5;have z:=q H5 s5;rw[←e5] at z;push_cast [and_true];refine ⟨_,U5.get1,_,.inl ⟨SqL.of U5.2.1,λt1 ht1=>?_⟩⟩;have U6:=U5.same (aa ht1 (.tup (u.hs.map plV)));refine ⟨_,U6.get2,_,.inl ⟨SqL.of U6.2.2.1,λt2 ht2=>?_⟩⟩;have U7:=U6.same (aa ht2 (.tup u.ns));refine ⟨_,U7.get3,_,.inl ⟨SqL.of U7.2.2.2,λt3 ht3=>⟨by show (3:Nat)≤sizeLine;decide,λt ht=>?_⟩⟩⟩;exact z t _ ((aa ht1 _).trans ((aa ht2 _).trans ((aa ht3 _).trans (aa ht _)))) ⟨t1,t2,t3,ae,aa ht _ _ _ (aa ht3 _ _ _ (aa ht2 _ _ _ ae)),aa ht _ _ _ (aa ht3 _ _ _ ae),aa ht _ _ _ ae⟩ ⟨⟨huw.1,by omega⟩,⟨huw.2,by omega⟩,by omega⟩
noncomputable abbrev gr:Stmt:=top 22
theorem uz:ba ["shape","kinds","under","hole_kinds"] ["shape","kinds","under"] (ah gr):=⟨rfl,rfl,rfl,by decide+kernel,rfl,by decide+kernel,by decide+kernel⟩
theorem Am (G:Gs w K mg κ) (h_leaf_letter:Has P w K mg base k "leaf_letter" ["word","kinds"] (gm K)) (D:Def K mg "holes_under" gr ["shape","kinds","under"]):Has P w K mg base (k+1) "holes_under" ["shape","kinds","under"] (j3 K):=by
 refine D.has uz (λvs H Q E h=>?_) (λf cdv A outer s H vs Q E hr h=>?_)
 ·obtain ⟨_,_,_,_,_,_,rfl,_,_,_,_,_,_,_,_⟩:=h;rfl
 have nd:=uz.nd;have hu:=cv hr;have hu0:=aaj hu;obtain ⟨st,kt,ut,sh,kinds,u,rfl,hS,hK,hU,hk,hw,hl,hn,q⟩:=h;have m_list:=G.m_list;have m_zip:=G.m_zip;refine ⟨_,(A5 (CK 3 nd (BT ["word"] ["kinds"] [1] (aas rfl trivial) (aas (aas rfl (aas rfl rfl)) trivial)) (BJ (A0 0)) (λ_ _ _=>(BP 0 (show abp (["word","kinds"]:List Str) by decide+kernel))) (λ_ _ _=>(C2 (AA (AM 0) (AJ h_leaf_letter hr (A1 (A0 0) (A1 (AS 1) (A3 0)))) (AI 0) (A9 0)))) (λ_ _ _=>(A0 0))) (A7 (AD (CL m_list m_zip (A1 (A8 (AF 0) (A0 2) (A2 0)) (A1 (A0 3) (A3 0))))))),?_⟩;rw[show start ["shape","kinds","under","hole_kinds"] [.ref st,.ref kt,.ref ut]=[some (.ref st),some (.ref kt),some (.ref ut),none] from rfl];clear hu hu0 nd hr;push_cast [gm];have sz:=sizeLine_eq;refine ⟨⟨sh,hS⟩,λl hl'=>?_⟩;refine ph (xs:=sh) (λi ys=>ys=(sh.take i).filter (isH kinds)) hS (by omega) hl' rfl (λi x ys H3 G' K' hx hP hl2 hS' hG hK'=>?_) λys H3 hP hl2 hS' hD2=>?_
 ·have hxw:=hw x (aad hx);have et:sh.take (i+1)=sh.take i++[x]:=by rw[abf,hx];rfl
  push_cast [gm];refine ⟨hxw,kinds,hS'.tup hK,rfl,bp (λe=>?_) λe=>?_⟩
  ·refine hK' _ _ (ak.refl _) ?_;rw[et,ab9,←hP,aav,if_pos ((j6 hk hxw).mp e)];rfl
  ·refine hG _ (ak.refl _) ?_;rw[et,ab9,←hP,aav,if_neg λz=>e ((j6 hk hxw).mpr z)];exact (abk _).symm
 ·rw[abn,←gf] at hP;subst hP;obtain ⟨t1,t2,t3,h1,h2,_⟩:=hU;push_cast [tLZ];refine ao (hS' _ _ h1) rfl ⟨t1,rfl,u.hs.map plV,SqT.of (hS' _ _ h2),(aw kinds sh).map V.str,SqL.of hD2,by rw[aa0,aa0,hn],λl2 as H2 s2 hl2 hal hL hA=>q l2 H2 (hS'.trans s2) (hS'.free hl2) ⟨as,hL,?_,λj k hj=>?_⟩⟩
  ·rw[hal,aa0,acf,hn,Nat.min_self]
  ·obtain ⟨g1,g2⟩:=List.getElem?_zip_eq_some.mp (show (u.hs.zip (aw kinds sh))[j]?=some (k.1,k.2) from hj);exact hA j _ _ (by rw[aa7,g1];rfl) (by rw[aa7,g2];rfl)
noncomputable abbrev ji:Stmt:=top 24
theorem yx:ba ["book","name","words","place","kind","rule","under"] ["book","name","words","place","kind"] (ah ji):=⟨rfl,rfl,rfl,by decide+kernel,rfl,by decide+kernel,by decide+kernel⟩
theorem Fd (G:Gs w K mg κ) (h_laid:Has P w K mg base k "laid" ["shape","kinds","words","place"] (ur K)) (D:Def K mg "laid_rule" ji ["book","name","words","place","kind"]):i4 P w K mg base (k+1) "laid_rule" ["book","name","words","place","kind"] (jm κ):=by
 refine D.hasX yx (λvs H Q E h=>?_) (λf cdv A outer s H vs Q E hr h=>?_)
 ·obtain ⟨_,_,_,_,_,_,_,_,rfl,_,_,_,_,_,_,_,_,_⟩:=h;rfl
 have nd:=yx.nd;have hu:=cv hr;have hu0:=aaj hu;obtain ⟨b,wt,kinds,rs,ws,p,nm,kd,rfl,hB,hW,bk,tw,hp,hnm,hkd,q,e⟩:=h;have m_BadCover:=G.er.m_badCover;refine ⟨_,(A5 (@xk _ _ _ _ _ _ _ _ (@vi _ _ wu) rfl (BJ (A8 (AF 0) (A0 0) (A2 0))) (AW 5 nd (by first | exact ab8 rfl | exact abc rfl)) (A7 (AB (BB (BN (AA (AM 0) (A8 (AF 0) (A0 5) (A2 0)) (A0 1) (A9 0)) (BQ (AA (AM 0) (A8 (AF 0) (A0 5) (A2 0)) (A0 4) (A9 0))))) (A5 (A6 6 nd (AJ h_laid hr (A1 (A8 (AF 0) (A0 5) (A2 0)) (A1 (A8 (AF 0) (A0 0) (A2 0)) (A1 (A0 2) (A1 (A0 3) (A3 0))))))) (A7 (AB (CD (@su _ _ _ _ _ (A0 6)) (by first | exact fb _ (by decide) (by decide) | rfl)) (A7 (AD (AO (A1 (A0 5) (A1 (A0 6) (A3 0)))))) (AG 0)))) (AG 0))) (by intro _;rfl)) (A7 (CM G.er.x_badCover G.i_BadCover hr m_BadCover (A1 (Io (pf_r (A0 1) (pf_c (pf_r (A0 4) (pf_c (pf_i (A0 3) pf_nil)))))) (A3 0))))),?_⟩;rw[show start ["book","name","words","place","kind","rule","under"] [.ref b,.str nm,.ref wt,.int (p:Int),.str kd]=[some (.ref b),some (.str nm),some (.ref wt),some (.int (p:Int)),some (.str kd),none,none] from rfl];clear hu hu0 nd hr;push_cast [and_true];have sz:=sizeLine_eq;have rl:=bk.len;have twl:=tw.len;obtain ⟨kt,rt,ra,hb,hkt,hrt,hRA⟩:=id hB;refine ao hb rfl ⟨rt,rfl,⟨_,SqT.of hrt⟩,?_⟩;obtain ⟨P1,eP1⟩:∃P1:Nat→L2.St→Hp→Prop,∀j σ H',P1 j σ H'↔∃(v5 v6:Option V),σ=[some (.ref b),some (.str nm),some (.ref wt),some (.int (p:Int)),some (.str kd),v5,v6]∧ak H H'∧∀(i:Nat) (x:Rl),i < j→rs[i]?=some x→x.name=nm→x.kind=kd→cj kinds ws x.shape p ⟨[],[],[]⟩=none:=⟨_,λ_ _ _=>abm⟩;refine ee (xs:=ra.map V.ref) P1 ((eP1 _ _ _).mpr ⟨none,none,rfl,ak.refl _,λi x h=>absurd h (ad0 _)⟩) (λj σ H' _ h=>by obtain ⟨_,_,_,s,_⟩:=(eP1 _ _ _).mp h;exact SqT.of (s _ _ hrt)) ?_ ?_
 ·intro j y σ H5 hy hh;obtain ⟨v5,v6,rfl,s5,hno⟩:=(eP1 _ _ _).mp hh;rw[aa7] at hy;obtain ⟨aj,haj,rfl⟩:=Option.map_eq_some_iff.mp hy;have hjl:j < rs.length:=by rw[←hRA.1];exact (List.getElem?_eq_some_iff.mp haj).1
  have hrj:rs[j]?=some rs[j]:=aa2 hjl;obtain ⟨a',ha',hR⟩:=hRA.2 j _ hrj;obtain rfl:a'=aj:=aa6 (ha'.symm.trans haj);generalize rs[j]=x at hrj hR;have more:(x.name=nm→x.kind=kd→cj kinds ws x.shape p ⟨[],[],[]⟩=none)→∀(i:Nat) (y:Rl),i < j+1→rs[i]?=some y→y.name=nm→y.kind=kd→cj kinds ws y.shape p ⟨[],[],[]⟩=none:=λhx i y hi hyi=>by
   rcases ae1 i j with z | z
   ·exact hno i y z hyi
   ·obtain rfl:i=j:=by omega
    obtain rfl:x=y:=aa6 (hrj.symm.trans hyi);exact hx
  obtain ⟨sa,da,ds,g1,g2,g3⟩:=id hR;push_cast [and_true];refine ao (s5 _ _ g1) rfl ⟨rfl,?_⟩;by_cases c:x.name=nm
  ·refine ifY (by rw[c]) (ao (s5 _ _ g1) rfl ⟨rfl,?_⟩);by_cases c2:x.kind=kd
   ·obtain ⟨n,hn⟩:=tw.eat hp;obtain ⟨w1,w2,w3⟩:=bk.sh x (aad hrj);refine ifY (by rw[c2]) (ao (s5 _ _ g1) rfl (ao (s5 _ _ hb) rfl (mkLaid (n:=n) (SqT.of (s5 _ _ g2)) (SqT.of (s5 _ _ hkt)) (SqT.of (s5 _ _ hW)) bk.kd w1 (λv hv=>(tw.w v hv).1) w2 hn (by omega) twl λH6 s6=>?_)));cases hu:cj kinds ws x.shape p ⟨[],[],[]⟩ with
    | none=>
     refine kj ?_;push_cast [j0];rw[if_neg (by simp)];exact (eP1 _ _ _).mpr ⟨_,_,rfl,s5.trans s6,more λ_ _=>hu⟩
    | some u=>
     intro t H7 s7 hu7 ok7;push_cast [j0];rw[if_pos (by simp)];refine ⟨by show (2:Nat)≤sizeLine;decide,λpr hpr=>?_⟩;have S7:=(s5.trans s6).trans s7;have s8:=aa hpr (.tup [V.ref a',V.ref t]);refine q (x,u) ?_ pr _ (S7.trans s8) ⟨a',t,ae,hR.same (S7.trans s8),hu7.same s8⟩;rw[←c,←c2,Dd bk hrj,hu];rfl
   ·exact ifN (by simpa using c2) ((eP1 _ _ _).mpr ⟨_,_,rfl,s5,more λ_ z=>absurd z c2⟩)
  ·exact ifN (by simpa using c) ((eP1 _ _ _).mpr ⟨_,_,rfl,s5,more λz=>absurd z c⟩)
 ·intro σ H5 hh;obtain ⟨v5,v6,rfl,s5,hno⟩:=(eP1 _ _ _).mp hh;push_cast [me,tFmts,tFR,tFI,tF0];refine ⟨hnm.1,hnm.2,hkd.1,hkd.2,?_,λm=>⟨by show (1:Nat)≤100;decide,e (qg λi x hi=>hno i x ?_ hi) H5 s5⟩⟩
  ·show p.log2 < 1920
   exact ach (Nat.log2_le_self p) (by omega)
  ·rw[aa0,hRA.1];exact (List.getElem?_eq_some_iff.mp hi).1
noncomputable abbrev oh:Stmt:=top 25
theorem Dr:ba ["book","step","rule"] ["book","step"] (ah oh):=⟨rfl,rfl,rfl,by decide+kernel,rfl,by decide+kernel,by decide+kernel⟩
theorem Iq (G:Gs w K mg κ) (h_holes_under:Has P w K mg base k "holes_under" ["shape","kinds","under"] (j3 K)) (D:Def K mg "last_hole_first" oh ["book","step"]):Has P w K mg base (k+1) "last_hole_first" ["book","step"] sd:=by
 refine D.has Dr (λvs H Q E h=>?_) (λf cdv A outer s H vs Q E hr h=>?_)
 ·obtain ⟨_,_,_,_,_,_,rfl,_,_,_,_,_,_⟩:=h;rfl
 have nd:=Dr.nd;have hu:=cv hr;have hu0:=aaj hu;obtain ⟨b,t,kinds,rs,r,u,rfl,hB,bk,hr0,hS,hn,q⟩:=h;have m_list:=G.m_list;have m_reversed:=G.m_reversed;refine ⟨_,(A5 (A6 2 nd (A8 (AF 0) (A0 1) (A2 0))) (A7 (AD (CN m_list m_reversed (A1 (AJ h_holes_under hr (A1 (A8 (AF 0) (A0 2) (A2 0)) (A1 (A8 (AF 0) (A0 0) (A2 0)) (A1 (A8 (AF 0) (A0 1) (A2 0)) (A3 0))))) (A3 0)))))),?_⟩;rw[show start ["book","step","rule"] [.ref b,.ref t]=[some (.ref b),some (.ref t),none] from rfl];clear hu hu0 nd hr;push_cast [and_true];have sz:=sizeLine_eq;obtain ⟨kt,rt,ra,hb,hkt,hrt,hRA⟩:=id hB;obtain ⟨ro,ut,t1,hR,hU⟩:=hS;obtain ⟨sa,da,ds,g1,g2,g3⟩:=id hR;obtain ⟨w1,w2,w3⟩:=bk.sh r hr0;refine ao t1 rfl ?_;push_cast [tLR];refine ao g1 rfl (ao hb rfl (ao t1 rfl (Eb (SqT.of g2) (SqT.of hkt) hU bk.kd w1 (by omega) hn λl H1 s1 hl h1=>?_)));obtain ⟨as,e1,e2,e3⟩:=h1;refine ⟨l,rfl,_,SqL.of e1,λp hp=>?_⟩;have s2:=aa hp (.lst (as.map V.ref).reverse);refine q p _ (s1.trans s2) (s1.free hp) ⟨as.reverse,by rw[ae,adg],by rw[aae,aae,e2],λj k hj=>?_⟩;have hjl:=(List.getElem?_eq_some_iff.mp hj).1;rw[aae] at hjl;rw[abr hjl] at hj;obtain ⟨a,a1,a2⟩:=e3 _ k hj;refine ⟨a,?_,s2 _ _ a2⟩;rw[abr (by rw[e2];exact hjl),e2];exact a1
noncomputable abbrev gz:Stmt:=top 26
theorem wm:ba ["book","words","place","kind","cover","steps","waiting","name","hole","step"] ["book","words","place","kind","cover"] (ah gz):=⟨rfl,rfl,rfl,by decide+kernel,rfl,by decide+kernel,by decide+kernel⟩
theorem Aw (G:Gs w K mg κ) (h_laid_rule:i4 P w K mg base k "laid_rule" ["book","name","words","place","kind"] (jm κ)) (h_last_hole_first:Has P w K mg base k "last_hole_first" ["book","step"] sd) (D:Def K mg "laid_cover" gz ["book","words","place","kind","cover"]):i4 P w K mg base (k+1) "laid_cover" ["book","words","place","kind","cover"] (kb κ):=by
 refine D.hasX wm (λvs H Q E h=>?_) (λf cdv A outer s H vs Q E hr h=>?_)
 ·obtain ⟨_,_,_,_,_,_,_,_,_,rfl,_,_,_,_,_,_,_,_,_,_,_,_⟩:=h;rfl
 have nd:=wm.nd;have hu:=cv hr;have hu0:=aaj hu;obtain ⟨b,wt,ct,kinds,rs,ws,p,kd,ns,rfl,hB,hW,hC,bk,tw,hp,hkd,hkz,hnz,hnl,q,e⟩:=h;have m_BadCover:=G.er.m_badCover;have m_len:=G.m_len;refine ⟨_,(A5 (A6 5 nd (AE (A3 0))) (A5 (A6 6 nd (AE (A1 (AO (A1 (A0 2) (A1 (A0 3) (A3 0)))) (A3 0)))) (A5 (@xk _ _ _ _ _ _ _ _ (@vi _ _ wu) rfl (BJ (A0 4)) (AW 7 nd (by first | exact ab8 rfl | exact abc rfl)) (A5 (AB (AA (AM 0) (AK (AU 0) m_len ck (A1 (A0 6) (A3 0))) (A2 0) (A9 0)) (A7 (CM G.er.x_badCover G.i_BadCover hr m_BadCover (A1 (@G5 _ _ _ _ _ _ _ _ (A0 7) (by decide+kernel)) (A3 0)))) (AG 0)) (A5 (A6 8 nd (C3 PySem.F.plainAttrs_list PySem.F.slot_list_pop PySem.F.type_list_pop (@jj _) (A0 6))) (A5 (A6 9 nd (@y3 _ _ _ _ _ _ _ _ _ _ _ h_laid_rule hr (A1 (A0 0) (A1 (A0 7) (A1 (A0 1) (A1 (A8 (AF 0) (A0 8) (A2 0)) (A1 (A8 (AF 0) (A0 8) (A2 0)) (A3 0)))))) rfl (by decide+kernel) rfl rfl)) (A5 (AR (AT PySem.F.plainAttrs_list PySem.F.slot_list_append PySem.F.type_list_append (AV 0) (A0 5) (A1 (A0 9) (A3 0)))) (A7 (AR (AT PySem.F.plainAttrs_list PySem.F.slot_list_extend PySem.F.type_list_extend (@iq _) (A0 6) (A1 (AJ h_last_hole_first hr (A1 (A0 0) (A1 (A0 9) (A3 0)))) (A3 0))))))))) (by intro _;rfl)) (A5 (AB (AA (BD 0) (AK (AU 0) m_len ck (A1 (A0 6) (A3 0))) (A2 0) (A9 0)) (A7 (CM G.er.x_badCover G.i_BadCover hr m_BadCover (A1 (AI 0) (A3 0)))) (AG 0)) (A7 (AD (A0 5))))))),?_⟩;rw[show start ["book","words","place","kind","cover","steps","waiting","name","hole","step"] [.ref b,.ref wt,.int (p:Int),.str kd,.ref ct]=[some (.ref b),some (.ref wt),some (.int (p:Int)),some (.str kd),some (.ref ct),none,none,none,none,none] from rfl];clear hu hu0 nd hr;push_cast [and_true];have sz:=sizeLine_eq;refine ⟨aaa _,λsl hsl=>⟨by show (2:Nat)≤sizeLine;decide,λp2 hp2=>⟨by show (1:Nat)≤sizeLine;decide,λwl hwl=>?_⟩⟩⟩;have s3:=aa hsl (.lst []);have s4:=aa hp2 (.tup [V.int (p:Int),V.str kd]);have s5:=aa hwl (.lst [V.ref p2]);have S5:=s3.trans (s4.trans s5);have fwl:=(s3.trans s4).free hwl;have nsw:sl≠wl:=ag (s4 _ _ (ae (H:=H) (a:=sl) (o:=.lst []))) hwl;have c5:=(s4.trans s5) _ _ (ae (H:=H) (a:=sl) (o:=.lst []));have p5:=s5 _ _ (ae (H:=upd H sl (.lst [])) (a:=p2) (o:=.tup [V.int (p:Int),V.str kd]));have w5:upd (upd (upd H sl (.lst [])) p2 (.tup [V.int (p:Int),V.str kd])) wl (.lst [V.ref p2]) wl=some (.lst [V.ref p2]):=ae;generalize upd (upd (upd H sl (.lst [])) p2 (.tup [V.int (p:Int),V.str kd])) wl (.lst [V.ref p2])=H5 at s5 S5 c5 p5 w5 ⊢;obtain ⟨P1,eP1⟩:∃P1:Nat→L2.St→Hp→Prop,∀j σ H',P1 j σ H'↔∃(as bs:List Addr) (ds:List (Rl×Und)) (st:List Ky) (v7 v8 v9:Option V),σ=[some (.ref b),some (.ref wt),some (.int (p:Int)),some (.str kd),some (.ref ct),some (.ref sl),some (.ref wl),v7,v8,v9]∧ak H H'∧H' sl=some (.lst (as.map V.ref))∧du H' as ds∧H' wl=some (.lst (bs.map V.ref))∧KsL H' bs st.reverse∧KyOk ws st∧st.length≤1+100*j∧ds.length≤j∧br kinds rs ws ns [(p,kd)]=(br kinds rs ws (ns.drop j) st).map (ds++·):=⟨_,λ_ _ _=>abm⟩;refine ⟨⟨_,SqT.of (S5 _ _ hC)⟩,ee (xs:=ns.map V.str) P1 ((eP1 _ _ _).mpr ⟨[],[p2],[],[(p,kd)],none,none,none,rfl,S5,c5,du.nil _,w5,KsL.one p5,λk hk=>by rw[List.mem_singleton.mp hk];exact ⟨hp,hkd⟩,by show (1:Nat)≤_;omega,aa5 _,by rw[adp];simp⟩) (λj σ H' _ h=>by obtain ⟨_,_,_,_,_,_,_,_,s,_⟩:=(eP1 _ _ _).mp h;exact SqT.of (s _ _ hC)) ?_ ?_⟩
 ·intro j y σ H6 hy hh;obtain ⟨as,bs,ds,st,v7,v8,v9,rfl,s6,c6,D6,w6,K6,k6,sl6,dl6,cw⟩:=(eP1 _ _ _).mp hh;rw[aa7] at hy;obtain ⟨nm,hnm,rfl⟩:=Option.map_eq_some_iff.mp hy;have hjl:j < ns.length:=(List.getElem?_eq_some_iff.mp hnm).1;have ed:ns.drop j=nm::ns.drop (j+1):=by
   rw[aat hjl];congr 1
   exact (List.getElem?_eq_some_iff.mp hnm).2
  rw[ed] at cw;have nmt:=hnz nm (aad hnm);push_cast [me,Ct];have bl:=K6.1;rw[aae] at bl;refine ⟨_,.inl (SqL.of w6),rfl,?_⟩;rw[aa0,bl];cases st with
  | nil=>
   refine ifY rfl ⟨nmt.1,by have:=nmt.2;omega,λm=>⟨by show (1:Nat)≤100;decide,e ?_ H6 s6⟩⟩;rw[cw];rfl
  | cons k st=>
   obtain ⟨bs',a,rfl,K6',hk⟩:=K6.pop;refine ifN (by rw[aaq];omega) ?_;rw[aa8] at w6;refine jb (xs:=bs'.map V.ref) (y:=.ref a) w6 ?_;have sA:=s6.upd fwl (.lst (bs'.map V.ref));have tkA:TK H6 (upd H6 wl (.lst (bs'.map V.ref))):=TK.put w6 (λ_ z=>nomatch z);have wA:upd H6 wl (.lst (bs'.map V.ref)) wl=some (.lst (bs'.map V.ref)):=ae;have cA:upd H6 wl (.lst (bs'.map V.ref)) sl=some (.lst (as.map V.ref)):=by rw[af nsw];exact c6
   have hkA:=tkA _ _ hk;have DA:=D6.tk tkA;have KA:=K6'.tk tkA;generalize upd H6 wl (.lst (bs'.map V.ref))=HA at sA tkA wA cA hkA DA KA ⊢;have kk:=k6 k aal;refine ao hkA rfl (ao hkA rfl (Cw (hB.same sA) (sA _ _ hW) bk tw kk.1 nmt kk.2 (λd hd t HB sB hst=>?_) λhd HB sB=>?_))
   ·obtain ⟨kO,ul,hl⟩:=k6.step bk tw hkz hd;have cB:=sB _ _ cA;have wB:=sB _ _ wA;have al:=D6.1;have sC:=(sA.trans sB).upd hsl (.lst (as.map V.ref++[V.ref t]));have tkC:TK HB (upd HB sl (.lst (as.map V.ref++[V.ref t]))):=TK.put cB (λ_ z=>nomatch z);have wC:upd HB sl (.lst (as.map V.ref++[V.ref t])) wl=some (.lst (bs'.map V.ref)):=by rw[af nsw.symm];exact wB
    have cC:upd HB sl (.lst (as.map V.ref++[V.ref t])) sl=some (.lst (as.map V.ref++[V.ref t])):=ae;have stC:=hst.tk tkC;have DC:=((DA.tk (TK.of sB)).tk tkC).snoc stC;have KC:=(KA.tk (TK.of sB)).tk tkC;refine bh cB (by rw[aa0];omega) ?_;generalize upd HB sl (.lst (as.map V.ref++[V.ref t]))=HC at sC tkC wC cC stC DC KC ⊢;refine ⟨av wC,mkLast (hB.same sC) bk (sk (r:=d.1) (u:=d.2) hd).1 stC hl λl2 HD sD hl2 hKs=>?_⟩;obtain ⟨cs,e1,KL⟩:=hKs.l;have csl:=KL.1;have bl':=KA.1;rw[aae] at csl bl';have ul':(d.2.hs.zip (aw kinds d.1.shape)).length≤100:=ul;rw[aaq] at sl6;have wD:=sD _ _ wC;refine ⟨wl,l2,bs'.map V.ref,cs.map V.ref,rfl,rfl,wD,e1,by rw[aa0,aa0];omega,(eP1 _ _ _).mpr ⟨as++[t],bs'++cs,ds++[d],xc kinds d++st,_,_,_,rfl,(sC.trans sD).upd fwl _,?_,(DC.tk (TK.of sD)).tk (TK.put wD (λ_ z=>nomatch z)),by rw[ae,aa8],?_,kO,by rw[aa1];omega,by rw[aa1,aa9];omega,?_⟩⟩
    ·rw[af nsw,aa8];exact sD _ _ cC
    ·rw[ad1];exact ((KC.tk (TK.of sD)).app KL).tk (TK.put wD (λ_ z=>nomatch z))
    ·rw[cw,jc hd,Option.map_map];congr 1
     funext x
     simp
   ·refine e ?_ HB (sA.trans sB);rw[cw,dq hd];rfl
 ·intro σ H6 hh;obtain ⟨as,bs,ds,st,v7,v8,v9,rfl,s6,c6,D6,w6,K6,k6,sl6,dl6,cw⟩:=(eP1 _ _ _).mp hh;push_cast [me,Ct];have bl:=K6.1;rw[aae] at bl;refine ⟨_,.inl (SqL.of w6),?_⟩;rw[aa0,bl];rw[aa0,abw] at cw;cases st with
  | nil=>exact ifN (by decide) (q ds (by rw[cw];simp[br]) sl as H6 s6 c6 D6)
  | cons k st=>exact ifY (by rw[aaq];omega) ⟨by show (1:Nat)≤100;decide,e (by rw[cw];rfl) H6 s6⟩
noncomputable abbrev gy:Stmt:=top 27
theorem vn:ba ["book","words","place","kind","cover"] ["book","words","place","kind","cover"] (ah gy):=⟨rfl,rfl,rfl,by decide+kernel,rfl,by decide+kernel,by decide+kernel⟩
theorem Bf (G:Gs w K mg κ) (h_laid_cover:i4 P w K mg base k "laid_cover" ["book","words","place","kind","cover"] (kb κ)) (D:Def K mg "cover_price" gy ["book","words","place","kind","cover"]):i4 P w K mg base (k+1) "cover_price" ["book","words","place","kind","cover"] (j4 κ):=by
 refine D.hasX vn (λvs H Q E h=>?_) (λf cdv A outer s H vs Q E hr h=>?_)
 ·obtain ⟨_,_,_,_,_,_,_,_,_,rfl,_,_,_,_,_,_,_,_,_,_,_,_⟩:=h;rfl
 have nd:=vn.nd;have hu:=cv hr;have hu0:=aaj hu;obtain ⟨b,wt,ct,kinds,rs,ws,p,kd,ns,rfl,hB,hW,hC,bk,tw,hp,hkd,hkz,hnz,hnl,q,e⟩:=h;have m_sum:=G.m_sum;refine ⟨_,(A7 (AD (AK (@qe _ rfl) m_sum b_sum (A1 (C7 (BT ["rule","under"] [] [] trivial trivial) (@ma _ _ _ _ (@y3 _ _ _ _ _ _ _ _ _ _ _ h_laid_cover hr (A1 (A0 0) (A1 (A0 1) (A1 (A0 2) (A1 (A0 3) (A1 (A0 4) (A3 0)))))) rfl (by decide+kernel) rfl rfl)) (λ_ _ _=>(@Bn _ _ K rfl _ _ _ _ rfl (BR (BP 0 (show abp (["rule","under"]:List Str) by decide+kernel)) (BR (BP 1 (show abp (["rule","under"]:List Str) by decide+kernel)) (@kc _))) rfl rfl)) (λ_ _ _=>(@pif0 _)) (λ_ _ _=>(A8 (C5 K) (A0 0) (A2 0)))) (A3 0))))),?_⟩;rw[show start ["book","words","place","kind","cover"] [.ref b,.ref wt,.int (p:Int),.str kd,.ref ct]=[some (.ref b),some (.ref wt),some (.int (p:Int)),some (.str kd),some (.ref ct)] from rfl];clear hu hu0 nd hr;push_cast [and_true];have sz:=sizeLine_eq;refine Fb hB hW hC bk tw hp hkd hkz hnz hnl (λds hds l as H1 s1 hl D1=>⟨l,rfl,⟨_,SqL.of hl⟩,λD hD=>?_⟩) e;have al:=D1.1;have dl:=(fo hds).1;refine Cv (as:=as) (λi ys=>ys=(ds.take i).map λd=>V.int d.1.price) rfl (SqL.of hl) (λi t ht=>?_) (by omega) hD rfl (λi t x y ys H2 G' K' ht hx hP hS hG hK=>?_) λys H2 hP hS hd=>?_
 ·have hi:=(List.getElem?_eq_some_iff.mp ht).1;obtain ⟨a,a1,ra,ut,a2,_⟩:=D1.2 i _ (aa2 (show i < ds.length by omega));obtain rfl:a=t:=aa6 (a1.symm.trans ht);exact ⟨_,_,a2⟩
 ·have hi:=(List.getElem?_eq_some_iff.mp ht).1;have hdi:ds[i]?=some ds[i]:=aa2 (show i < ds.length by omega);obtain ⟨a,a1,ra,ut,a2,⟨sa,da,dd,g1,g2,g3⟩,_⟩:=D1.2 i _ hdi;obtain rfl:a=t:=aa6 (a1.symm.trans ht);rw[hx] at a2;obtain ⟨rfl,rfl⟩:x=.ref ra∧y=.ref ut:=by simpa using a2
  push_cast [and_true];refine ao (hS _ _ g1) rfl (hK _ _ (ak.refl _) ?_);rw[abf,hdi,aa8,←hP];rfl
 ·rw[acm (by omega)] at hP;refine ⟨ds.map λd:Rl×Und=>d.1.price,SqL.of (by rw[hd,hP,acw];rfl),q ds hds H2 (s1.trans hS)⟩
noncomputable abbrev oj:Stmt:=top 29
theorem Eu:ba ["deck","cells","at"] ["deck"] (ah oj):=⟨rfl,rfl,rfl,by decide+kernel,rfl,by decide+kernel,by decide+kernel⟩
theorem hasNext (G:Gs w K mg κ) (D:Def K mg "_law_next" oj ["deck"]):Has P w K mg base (k+1) "_law_next" ["deck"] fi:=by
 refine D.has Eu (λvs H Q E h=>?_) (λf cdv A outer s H vs Q E hr h=>?_)
 ·obtain ⟨_,_,_,_,rfl,_,_,_⟩:=h;rfl
 have nd:=Eu.nd;have hu:=cv hr;have hu0:=aaj hu;obtain ⟨d,b,ns,n,rfl,hD,hn,q⟩:=h;have m_len:=G.m_len;refine ⟨_,(A5 (A6 1 nd (A8 (AN 0) (A0 0) (A2 0))) (A5 (A6 2 nd (A8 (AN 0) (A0 0) (A2 0))) (A5 (CA (A4 (AL 0) (A0 2) (A2 0)) (@Em _ _ _ _ _ _ _ (A0 0) (A2 0) (@set_list _) (by intro _;rfl))) (A5 (AB (AA (@sq _) (A0 2) (AK (AU 0) m_len ck (A1 (A0 1) (A3 0))) (A9 0)) (A7 (AD (A8 (AN 0) (A0 1) (A0 2)))) (AG 0)) (A5 (AB (AA (AM 0) (AK (AU 0) m_len ck (A1 (A0 1) (A3 0))) (A2 0) (A9 0)) (A7 (AD (A4 (AL 0) (A4 (@jv _) (A4 (@jv _) (A0 2) (A0 2)) (A2 0)) (A0 2)))) (AG 0)) (A7 (AD (A4 (AL 0) (A4 (AQ 0) (A8 (AN 0) (A0 1) (A4 (AC 0) (A0 2) (AK (AU 0) m_len ck (A1 (A0 1) (A3 0))))) (A2 0)) (A4 (@jv _) (A0 2) (A0 2)))))))))),?_⟩;rw[show start ["deck","cells","at"] [.ref d]=[some (.ref d),none,none] from rfl];clear hu hu0 nd hr;push_cast [rIxL,gSub,Bv,ke,vz];have nb:=hD.ne;obtain ⟨h1,h2⟩:=hD;refine ⟨_,SqL.of h1,.ref b,rfl,_,SqL.of h1,.int (n:Int),rfl,?_⟩;push_cast [and_true];have h3:upd H d (.lst [.ref b,.int ((n:Int)+1)]) b=some (.lst (ns.map V.int)):=by rw[af nb];exact h2
 have hS:au d H (upd H d (.lst [.ref b,.int ((n:Int)+1)])):=λc o hc ho=>by rw[af hc];exact ho
 have hD':upd H d (.lst [.ref b,.int ((n:Int)+1)]) d=some (.lst [.ref b,.int ((n+1:Nat):Int)]):=ae;refine ⟨_,h1,1,rfl,ns.map V.int,.inl (SqL.of h3),bp (λc=>?_) λc=>⟨ns.map V.int,.inl (SqL.of h3),rfl,bp (λc2=>?_) λc2=>?_⟩⟩
 ·rw[aa0] at c;have hlt:n < ns.length:=by omega
  exact ⟨_,SqL.of h3,.int ns[n],ay (by rw[aa7,aa2 hlt];rfl),q _ _ hS hD'⟩
 ·exact ⟨.inl ⟨by omega,by omega⟩,.inr trivial,q _ _ hS hD'⟩
 ·rw[aa0] at c2;have hpos:0 < ns.length:=by omega
  have hlt:n % ns.length < ns.length:=Nat.mod_lt _ hpos;refine ⟨ns.map V.int,.inl (SqL.of h3),by rw[aa0];omega,_,SqL.of h3,.int ns[n % ns.length],?_,by decide,by decide,.inl ⟨by omega,by omega⟩,q _ _ hS hD'⟩;rw[aa0,show (n:Int) % (ns.length:Int)=((n % ns.length:Nat):Int) from (Int.natCast_emod _ _).symm];exact ay (by rw[aa7,aa2 hlt];rfl)
noncomputable abbrev nj:Stmt:=top 35
theorem E8:ba ["words","ends","stack","back","at","end"] ["words"] (ah nj):=⟨rfl,rfl,rfl,by decide+kernel,rfl,by decide+kernel,by decide+kernel⟩
theorem Gi (G:Gs w K mg κ) (D:Def K mg "_law_ends" nj ["words"]):Has P w K mg base (k+1) "_law_ends" ["words"] (pf K):=by
 refine D.has E8 (λvs H Q E h=>?_) (λf cdv A outer s H vs Q E hr h=>?_)
 ·obtain ⟨_,_,rfl,_,_,_,_,_⟩:=h;rfl
 have nd:=E8.nd;have hu:=cv hr;have hu0:=aaj hu;obtain ⟨t,ws,rfl,hT,hw,hTm,hl,q⟩:=h;have m_len:=G.m_len;have m_range:=G.m_range;refine ⟨_,(A5 (A6 1 nd (A4 (@op_rep _) (AE (A1 (A2 0) (A3 0))) (AK (AU 0) m_len ck (A1 (A0 0) (A3 0))))) (A5 (A6 2 nd (AE (A3 0))) (A5 (BI (C6 m_range (A1 (AK (AU 0) m_len ck (A1 (A0 0) (A3 0))) (A3 0))) (AW 3 nd (by first | exact ab8 rfl | exact abc rfl)) (A5 (A6 4 nd (A4 (AY 0) (A4 (AY 0) (AK (AU 0) m_len ck (A1 (A0 0) (A3 0))) (A2 0)) (A0 3))) (A5 (A6 5 nd (A4 (AL 0) (A0 4) (A2 0))) (BK (AB (BL (BW 0) (A8 (AF 0) (A0 0) (A0 4)) (AE (BF (AH (AH (AH (BG 0))))))) (A7 (AR (C3 PySem.F.plainAttrs_list PySem.F.slot_list_pop PySem.F.type_list_pop (@jj _) (A0 2)))) (AG 0)) (BK (AB (BL (BW 0) (A8 (AF 0) (A0 0) (A0 4)) (AE (BF (AH (AH (AH (AH (BG 0)))))))) (A7 (A6 5 nd (C3 PySem.F.plainAttrs_list PySem.F.slot_list_pop PySem.F.type_list_pop (@jj _) (A0 2)))) (AG 0)) (A5 (AR (AT PySem.F.plainAttrs_list PySem.F.slot_list_append PySem.F.type_list_append (AV 0) (A0 2) (A1 (A0 5) (A3 0)))) (A7 (CA (A0 5) (@Em _ _ _ _ _ _ _ (A0 1) (A0 4) (@set_list _) (by intro _;rfl)))))))))) (A7 (AD (A0 1)))))),?_⟩;rw[show start ["words","ends","stack","back","at","end"] [.ref t]=[some (.ref t),none,none,none,none,none] from rfl];clear hu hu0 nd hr;push_cast [and_true];have sz:=sizeLine_eq;refine ⟨by show (1:Nat)≤sizeLine;decide,λp0 hp0=>⟨ws,.inr ((aa hp0 _).tup hT),Hm ae (by omega) (by omega) λel hel=>⟨aaa _,λsp hsp=>⟨ws,.inr ((((aa hp0 _).trans (aa hel _)).trans (aa hsp _)).tup hT),by omega,by omega,?_⟩⟩⟩⟩;rw[show ((ws.length:Nat):Int).toNat=ws.length by omega] at hsp ⊢;have S1:=aa hp0 (.lst [V.int 0]);have fe:=S1.free hel;have S2:=S1.trans (aa hel (.lst (aac ws.length (V.int 0))));have fs:=S2.free hsp;have S3:=S2.trans (aa hsp (.lst []));have nes:el≠sp:=ag ae hsp;have e3:=aa hsp (.lst []) _ _ (ae (H:=upd H p0 (.lst [V.int 0])) (a:=el) (o:=.lst (aac ws.length (V.int 0))));have p3:upd (upd (upd H p0 (.lst [V.int 0])) el (.lst (aac ws.length (V.int 0)))) sp (.lst []) sp=some (.lst []):=ae;generalize upd (upd (upd H p0 (.lst [V.int 0])) el (.lst (aac ws.length (V.int 0)))) sp (.lst [])=H3 at S3 e3 p3 ⊢;obtain ⟨P1,eP1⟩:∃P1:Nat→L2.St→Hp→Prop,∀j σ H',P1 j σ H'↔∃v3 v4 v5:Option V,σ=[some (.ref t),some (.ref el),some (.ref sp),v3,v4,v5]∧ak H H'∧H' sp=some (.lst (((ny ws (ws.length - j)).drop 1).reverse.map plV))∧H' el=some (.lst (aac (ws.length - j) (V.int 0)++(ab3 j).map λi=>plV (endAt ws (ws.length - j+i)))):=⟨_,λ_ _ _=>abm⟩;refine dm (lo:=0) P1 ?_ ?_ ?_
 ·refine (eP1 _ _ _).mpr ⟨none,none,none,rfl,S3,?_,?_⟩
  ·rw[aci,Ed];exact p3
  ·rw[e3];simp
 ·intro j σ H5 hj hh;refine ob3 ((eP1 _ _ _).mp hh) λv3 v4 v5 hh=>?_;have s5:=hh.2.1;have p5:=hh.2.2.1;have e5:=hh.2.2.2;obtain rfl:=hh.1;clear hh;obtain ⟨p,hp⟩:∃p,p+j+1=ws.length:=⟨ws.length - 1 - j,by omega⟩;rw[show ws.length - j=p+1 by omega] at p5 e5;have ej:(λ_:Unit=>ws.length - (j+1))=λ_=>p:=by funext _;omega
  have hpl:p < ws.length:=by omega
  have hx:ws[p]?=some ws[p]:=aa2 hpl;have hxw:=hw _ (ab1 hpl);have hat:atI ws (p:Int)=some ws[p]:=ay hx;generalize ws[p]=x at hx hxw hat;obtain ⟨tp,u,tu⟩:=Gd hTm hx;push_cast [and_true];refine ⟨ws,.inr (s5.tup hT),?_⟩;rw[show ((ws.length:Int) - 1 - (0+(j:Int)))=(p:Int) by omega];obtain ⟨E',hT'⟩:=Ag ws (p:=p+1) (by omega);rw[hT'] at p5 tp tu;have p5:H5 sp=some (.lst (E'.reverse.map plV)):=p5;have three:=vx hxw;have four:=t7 hxw;have ar2:=ng x;have rp:∀(y:Nat) (L:List Nat),((y::L).reverse.map plV)=L.reverse.map plV++[plV y]:=λy L=>by rw[ac1,aa8];rfl
  refine df (λσ' H6=>σ'=[some (.ref t),some (.ref el),some (.ref sp),some (.int (0+(j:Int))),some (.int (p:Int)),some (.int ((p:Int)+1))]∧ak H H6∧H6 el=H5 el∧H6 sp=some (.lst ((if arV x=2 then E'.drop 1 else E').reverse.map plV))) ?_ ?_
  ·push_cast [rIn];refine ⟨t,ws,_,x,rfl,rfl,s5.tup hT,hat,by show (3:Nat)≤sizeLine;decide,λa ha=>⟨_,.inl (SqL.of ae),hxw.flat,rfl,bp (λc2=>?_) λc2=>?_⟩⟩
   ·have a2:=three.mp c2;rw[a2] at tu;rw[if_pos a2];cases E' with
    | nil=>cases tu
    | cons e1 E2=>
     rw[rp] at p5;exact jb (aa ha _ _ _ p5) ⟨(s5.trans (aa ha _)).upd fs _,by rw[af nes,aa ha _ _ _ e5,e5],by rw[ae];rfl⟩
   ·rw[if_neg λe=>c2 (three.mpr e)];exact ⟨s5.trans (aa ha _),by rw[aa ha _ _ _ e5,e5],aa ha _ _ _ p5⟩
  rintro _ H6 ⟨rfl,s6,e6,p6⟩;refine df (λσ' H7=>σ'=[some (.ref t),some (.ref el),some (.ref sp),some (.int (0+(j:Int))),some (.int (p:Int)),some (plV (endAt ws p))]∧ak H H7∧H7 el=H5 el∧H7 sp=some (.lst (u.reverse.map plV))) ?_ ?_
  ·push_cast [rIn];refine ⟨t,ws,_,x,rfl,rfl,s6.tup hT,hat,by show (4:Nat)≤sizeLine;decide,λa ha=>⟨_,.inl (SqL.of ae),hxw.flat,rfl,bp (λc2=>?_) λc2=>?_⟩⟩
   ·have a1:=four.mp c2;have hE:(if arV x=2 then E'.drop 1 else E')=endAt ws p::u:=by
     by_cases a2:arV x=2
     ·rw[if_pos a2];rw[a2] at tu;exact tu
     ·rw[if_neg a2];rw[show arV x=1 by omega] at tu;exact tu
    rw[hE,rp] at p6;exact jb (aa ha _ _ _ p6) ⟨rfl,(s6.trans (aa ha _)).upd fs _,by rw[af nes,aa ha _ _ _ (e6.trans e5),e5],ae⟩
   ·have a0:arV x=0:=by
     rcases aby (arV x) with h | h
     ·exact h
     ·exact absurd (four.mpr h) c2
    rw[a0] at tu p6;have tu:(p+1)::E'=endAt ws p::u:=tu;obtain ⟨y1,y2⟩:=abb tu;rw[if_neg (by decide),y2] at p6;exact ⟨by omega,s6.trans (aa ha _),by rw[aa ha _ _ _ (e6.trans e5),e5],aa ha _ _ _ p6⟩
  rintro _ H7 ⟨rfl,s7,e7,p7⟩;push_cast [gSub,Bv];have tl:=Dk ws p;rw[tp,tu,aaq,aaq] at tl;refine bh p7 (by rw[aa0,aae];omega) ⟨_,by rw[af nes];exact e7.trans e5,p,Fm (by rw[aa1,ab4];omega),(eP1 _ _ _).mpr ⟨_,_,_,rfl,(s7.upd fs _).upd fe _,?_,?_⟩⟩
  ·rw[show ws.length - (j+1)=p from congrFun ej (),af nes.symm,ae,tp,tu];show _=some (HO.lst ((endAt ws p::u).reverse.map plV))
   rw[rp]
  ·rw[show ws.length - (j+1)=p from congrFun ej (),ae,Ck,List.range_succ_eq_map,ab0,acw];show some (HO.lst (_++plV (endAt ws p)::adt (λi=>plV (endAt ws (p+1+i))) (ab3 j)))=some (HO.lst (_++plV (endAt ws (p+0))::adt ((λi=>plV (endAt ws (p+i))) ∘ Nat.succ) (ab3 j)))
   have ef:((λi=>plV (endAt ws (p+i))) ∘ Nat.succ)=λi=>plV (endAt ws (p+1+i)):=by
    funext i
    show plV (endAt ws (p+(i+1)))=_
    rw[show p+(i+1)=p+1+i by omega]
   rw[ef];rfl
 ·intro σ H5 hh;refine ob3 ((eP1 _ _ _).mp hh) λv3 v4 v5 hh=>?_;have s5:=hh.2.1;have p5:=hh.2.2.1;have e5:=hh.2.2.2;obtain rfl:=hh.1;clear hh;push_cast [and_true];refine q el H5 s5 fe ?_;rw[e5,acj];simp
noncomputable abbrev i7:Stmt:=top 36
theorem zm:ba ["kinds","shape","words","ends","place","under","word","there"] ["kinds","shape","words","ends","place"] (ah i7):=⟨rfl,rfl,rfl,by decide+kernel,rfl,by decide+kernel,by decide+kernel⟩
theorem Cd (G:Gs w K mg κ) (D:Def K mg "_law_laid" i7 ["kinds","shape","words","ends","place"]):Has P w K mg base (k+1) "_law_laid" ["kinds","shape","words","ends","place"] (j8 K):=by
 refine D.has zm (λvs H Q E h=>?_) (λf cdv A outer s H vs Q E hr h=>?_)
 ·obtain ⟨_,_,_,_,_,_,_,_,rfl,_,_,_,_,_,_,_,_,_,_,_⟩:=h;rfl
 have nd:=zm.nd;have hu:=cv hr;have hu0:=aaj hu;obtain ⟨st,kt,wt,et,sh,kinds,ws,p,rfl,hS,hK,hW,hE,hk,hs,hTm,hl1,tw,hp,q⟩:=h;have m_int:=G.m_int;have m_isinstance:=G.m_isinstance;have m_str:=G.m_str;have m_tuple:=G.m_tuple;refine ⟨_,(A5 (A6 5 nd (AE (A1 (AE (A3 0)) (A1 (AE (A3 0)) (A1 (AE (A3 0)) (A3 0)))))) (A5 (BI (BJ (A0 1)) (AW 6 nd (by first | exact ab8 rfl | exact abc rfl)) (A5 (A6 7 nd (A8 (AF 0) (A0 2) (A0 4))) (A7 (AB (BL (BW 0) (A0 6) (A0 0)) (A5 (AR (AT PySem.F.plainAttrs_list PySem.F.slot_list_append PySem.F.type_list_append (AV 0) (A8 (AN 0) (A0 5) (A2 0)) (A1 (A0 4) (A3 0)))) (A7 (A6 4 nd (A8 (AN 0) (A0 3) (A0 4))))) (A7 (AB (BB (BN (AA (AM 0) (A0 6) (AI 0) (A9 0)) (BQ (BM (AK (BZ 0) m_isinstance bj (A1 (A0 7) (A1 (BX m_int lq) (A3 0)))))))) (A5 (AR (AT PySem.F.plainAttrs_list PySem.F.slot_list_append PySem.F.type_list_append (AV 0) (A8 (AN 0) (A0 5) (A2 0)) (A1 (A0 7) (A3 0)))) (A7 (A6 4 nd (A4 (AL 0) (A0 4) (A2 0))))) (A7 (AB (BB (BN (AA (AM 0) (A0 6) (AI 0) (A9 0)) (BN (BM (AK (BZ 0) m_isinstance bj (A1 (A0 7) (A1 (BX m_str y9) (A3 0))))) (BQ (BL (@j9 _) (A0 7) (AE (BF (AH (AH (AH (AH (BG 0)))))))))))) (A5 (AR (AT PySem.F.plainAttrs_list PySem.F.slot_list_append PySem.F.type_list_append (AV 0) (A8 (AN 0) (A0 5) (A2 0)) (A1 (A0 7) (A3 0)))) (A7 (A6 4 nd (A4 (AL 0) (A0 4) (A2 0))))) (A7 (AB (AA (AM 0) (A0 6) (A0 7) (A9 0)) (A7 (A6 4 nd (A4 (AL 0) (A0 4) (A2 0)))) (A7 (AD (@om _ _ _))))))))))))) (A7 (AD (AO (A1 (AX (BE 0) m_tuple cz (A1 (A8 (AN 0) (A0 5) (A2 0)) (A3 0))) (A1 (AX (BE 0) m_tuple cz (A1 (A8 (AN 0) (A0 5) (A2 0)) (A3 0))) (A1 (AX (BE 0) m_tuple cz (A1 (A8 (AN 0) (A0 5) (A2 0)) (A3 0))) (A3 0))))))))),?_⟩;rw[show start ["kinds","shape","words","ends","place","under","word","there"] [.ref kt,.ref st,.ref wt,.ref et,.int (p:Int)]=[some (.ref kt),some (.ref st),some (.ref wt),some (.ref et),some (.int (p:Int)),none,none,none] from rfl];clear hu hu0 nd hr;push_cast [and_true];have sz:=sizeLine_eq;have hw:=λv hv=>(tw.w v hv).1;obtain ⟨n,he⟩:=tw.eat hp;refine ⟨aaa _,λl1 h1=>⟨aaa _,λl2 h2=>⟨aaa _,λl3 h3=>⟨by show (3:Nat)≤sizeLine;decide,λu0 h0=>?_⟩⟩⟩⟩;have n21:l2≠l1:=(ag ae h2).symm;have n31:l3≠l1:=(ag (aa h2 _ _ _ ae) h3).symm;have n32:l3≠l2:=(ag ae h3).symm;have n10:u0≠l1:=(ag (aa h3 _ _ _ (aa h2 _ _ _ ae)) h0).symm;have n20:u0≠l2:=(ag (aa h3 _ _ _ ae) h0).symm;have n30:u0≠l3:=(ag ae h0).symm;have S1:=aa h1 (.lst []);have f2:=S1.free h2;have S2:=S1.trans (aa h2 (.lst []));have f3:=S2.free h3;have S3:=S2.trans (aa h3 (.lst []));have S4:=S3.trans (aa h0 (.lst [.ref l1,.ref l2,.ref l3]));have U4:jf (upd (upd (upd (upd H l1 (.lst [])) l2 (.lst [])) l3 (.lst [])) u0 (.lst [.ref l1,.ref l2,.ref l3])) u0 l1 l2 l3 ⟨[],[],[]⟩:=
  ⟨ae,by rw[af n10.symm,af n31.symm,af n21.symm,ae];rfl,by rw[af n20.symm,af n32.symm,ae],by rw[af n30.symm,ae]⟩
 generalize upd (upd (upd (upd H l1 (.lst [])) l2 (.lst [])) l3 (.lst [])) u0 (.lst [.ref l1,.ref l2,.ref l3])=H4 at S4 U4 ⊢;obtain ⟨P1,eP1⟩:∃P1:Nat→L2.St→Hp→Prop,∀i σ H',P1 i σ H'↔∃(q':Nat) (u:Und) (v6 v7:Option V),σ=[some (.ref kt),some (.ref st),some (.ref wt),some (.ref et),some (.int (q':Int)),some (.ref u0),v6,v7]∧ak H H'∧jf H' u0 l1 l2 l3 u∧cj kinds ws (sh.drop i) q' u=cj kinds ws sh p ⟨[],[],[]⟩∧(u.hs.length≤i∧u.ns.length≤i∧u.vs.length≤i)∧wz u∧∃d m,pend d ((sh.drop i).map arV)=some 0∧eat d ((ws.drop q').map arV)=some m:=⟨_,λ_ _ _=>abm⟩;refine ⟨⟨sh,S4.tup hS⟩,ee (xs:=sh) P1 ((eP1 _ _ _).mpr ⟨p,⟨[],[],[]⟩,none,none,rfl,S4,U4,rfl,⟨aaa _,aaa _,aaa _⟩,⟨(λ_ h=>nomatch h),(λ_ h=>nomatch h)⟩,1,n,hTm,he⟩) (λi σ H' _ h=>by obtain ⟨_,_,_,_,_,s,_⟩:=(eP1 _ _ _).mp h;exact s.tup hS) ?_ ?_⟩
 ·intro i v σ H5 hvi hh;refine ob4 ((eP1 _ _ _).mp hh) λq' u v6 v7 hh=>?_;have s5:=hh.2.1;have U5:=hh.2.2.1;have e5:=hh.2.2.2.1;have hul:=hh.2.2.2.2.1;have huw:=hh.2.2.2.2.2.1;have hdm:=hh.2.2.2.2.2.2;obtain rfl:=hh.1;clear hh;obtain ⟨d,m,hp5,he5⟩:=hdm;have fin:∀(q2:Nat) (z:Int) (u2:Und) (w6 w7:Option V) (H':Hp),z=(q2:Int)→ak H H'→jf H' u0 l1 l2 l3 u2→cj kinds ws (sh.drop (i+1)) q2 u2=cj kinds ws sh p ⟨[],[],[]⟩→(u2.hs.length≤i+1∧u2.ns.length≤i+1∧u2.vs.length≤i+1)→wz u2→(∃d m,pend d ((sh.drop (i+1)).map arV)=some 0∧eat d ((ws.drop q2).map arV)=some m)→P1 (i+1) [some (.ref kt),some (.ref st),some (.ref wt),some (.ref et),some (.int z),some (.ref u0),w6,w7] H':=λq2 z u2 w6 w7 H' ez a1 a2 a3 a4 a5 a6=>(eP1 _ _ _).mpr ⟨q2,u2,w6,w7,by rw[ez],a1,a2,a3,a4,a5,a6⟩;have hil:i < sh.length:=(List.getElem?_eq_some_iff.mp hvi).1;have ed:sh.drop i=v::sh.drop (i+1):=by
   rw[aat hil];congr 1
   rw[aa2 hil] at hvi;exact aa6 hvi
  rw[ed] at e5 hp5;obtain ⟨d',rfl⟩:∃d',d=d'+1:=by
   cases d with
   | zero=>cases hp5
   | succ d'=>exact ⟨d',rfl⟩
  have hq:q' < ws.length:=by
   have a1:=rh _ _ _ he5;have a2:=og _ _ _ he5;rw[aa0,aah] at a2;omega
  have hx:ws[q']?=some ws[q']:=aa2 hq;obtain ⟨hxw,hxa,hxv⟩:=tw.w _ (ab1 hq);have hat:atI ws (q':Int)=some ws[q']:=ay hx;have hvw:=hs v (aad hvi);have hgd:ws.getD q' .non=ws[q']:=by rw[aan,hx];rfl
  rw[gk,hgd] at e5;generalize ws[q']=x at hx hxw hxa hxv hat hgd e5;have hul':=u.zu (b7 kinds v) q' x hul;have huw':=huw.put hxw (b7 kinds v) q';obtain ⟨b1,b2,b3,b4,b5,b6⟩:=lets;have fl:(kinds.map V.str).all eu=true:=List.all_eq_true.mpr λx hx=>by obtain ⟨z,_,rfl⟩:=List.mem_map.mp hx;rfl
  push_cast [rIn];refine ⟨wt,ws,_,x,rfl,rfl,s5.tup hW,hat,_,.inr (s5.tup hK),hvw.flat,fl,?_⟩;have nav:¬fk=V.str (Str.ofString "var"):=by decide+kernel
  have nva:¬dw=V.str (Str.ofString "any"):=by decide+kernel
  rcases dj (kinds:=kinds) hvw with ⟨rfl,h⟩ | ⟨rfl,h⟩ | ⟨⟨z,hz,rfl⟩,h⟩ | ⟨h,hno⟩
  ·rw[if_neg (by rw[show inV fk (kinds.map V.str)=false from hk.out (.inl rfl)];decide)];refine ⟨hvw.sc _,?_⟩;rw[if_pos (show fk=V.str (Str.ofString "any") from rfl)];obtain ⟨k',rfl⟩:=hxw;cases k' with
   | inl i0=>
    have hli:lies (b7 kinds fk) fk (kV (Sum.inl i0))=true:=by unfold lies;rw[h,if_neg b1,if_pos rfl];rfl
    obtain ⟨d2,m2,hp6,he6⟩:=dy hk hvw hx ⟨_,rfl⟩ hp5 he5 hli;rw[if_pos hli,h,if_neg b1] at e5;rw[h,if_neg b1] at he6;rw[h] at hul' huw';exact ⟨_,.int i0,true,rfl,o8 (aq U5.1 rfl (bh U5.2.2.1 (by omega) (fin (q'+1) _ _ _ _ _ (by omega) (s5.upd f2 _) (U5.put2 n20 n21 n32 q' _) e5 hul' huw' ⟨d2,m2,hp6,he6⟩)))⟩
   | inr y=>
    have hli:¬lies (b7 kinds fk) fk (kV (Sum.inr y))=true:=by unfold lies;rw[h,if_neg b1,if_pos rfl];exact aab
    rw[if_neg hli] at e5;have z:=q H5 s5;rw[←e5] at z;refine ⟨_,.str y,false,rfl,uj ⟨hvw.sc _,?_⟩⟩;rw[if_neg nav];refine ⟨hvw.sc2 ⟨_,rfl⟩,?_⟩;rw[if_neg λe=>hxa e.symm];exact z
  ·rw[if_neg (by rw[show inV dw (kinds.map V.str)=false from hk.out (.inr rfl)];decide)];refine ⟨hvw.sc _,?_⟩;rw[if_neg nva];refine ⟨hvw.sc _,?_⟩;rw[if_pos (show dw=V.str (Str.ofString "var") from rfl)];have hxw':=hxw;obtain ⟨k',rfl⟩:=hxw;cases k' with
   | inl i0=>
    have hli:¬lies (b7 kinds dw) dw (kV (Sum.inl i0))=true:=by unfold lies;rw[h,if_neg b2,if_neg b4,if_pos rfl];exact aab
    rw[if_neg hli] at e5;have z:=q H5 s5;rw[←e5] at z;refine ⟨_,.int i0,false,rfl,uj ⟨hvw.sc2 ⟨_,rfl⟩,?_⟩⟩;rw[if_neg λe=>hxv e.symm];exact z
   | inr y=>
    refine ⟨_,.str y,true,rfl,o8 ⟨by show (4:Nat)≤sizeLine;decide,λpl hpl=>⟨_,.inl (SqL.of ae),rfl,rfl,?_⟩⟩⟩;have four:=t7 hxw';have s6:=s5.trans (aa hpl (.lst [V.str (Str.ofString "add"),V.str (Str.ofString "sub"),V.str (Str.ofString "mul"),V.str (Str.ofString "neg")]));have U6:=U5.same (aa hpl (.lst [V.str (Str.ofString "add"),V.str (Str.ofString "sub"),V.str (Str.ofString "mul"),V.str (Str.ofString "neg")]));by_cases c:0 < arV (kV (Sum.inr y))
    ·have hli:¬lies (b7 kinds dw) dw (kV (Sum.inr y))=true:=by
      unfold lies;rw[h,if_neg b2,if_neg b4,if_pos rfl,decide_eq_false (by omega),adn];decide
     rw[if_neg hli] at e5;have z:=q _ s6;rw[←e5] at z;rw[if_neg (by rw[show inV (kV (Sum.inr y)) [V.str (Str.ofString "add"),V.str (Str.ofString "sub"),V.str (Str.ofString "mul"),V.str (Str.ofString "neg")]=true from four.mpr c];decide)];refine ⟨hvw.sc2 ⟨_,rfl⟩,?_⟩;rw[if_neg λe=>hxv e.symm];exact z
    ·have hli:lies (b7 kinds dw) dw (kV (Sum.inr y))=true:=by
      unfold lies;rw[h,if_neg b2,if_neg b4,if_pos rfl,decide_eq_true (by omega),Bool.and_true];rfl
     obtain ⟨d2,m2,hp6,he6⟩:=dy hk hvw hx ⟨_,rfl⟩ hp5 he5 hli;rw[if_pos hli,h,if_neg b2] at e5;rw[h,if_neg b2] at he6;rw[h] at hul' huw';have c':inV (kV (Sum.inr y)) [V.str (Str.ofString "add"),V.str (Str.ofString "sub"),V.str (Str.ofString "mul"),V.str (Str.ofString "neg")]=false:=Bool.eq_false_iff.mpr λe=>c (four.mp e);rw[if_pos (by rw[c'];decide)];exact aq U6.1 rfl (bh U6.2.2.2 (by omega) (fin (q'+1) _ _ _ _ _ (by omega) (s6.upd f3 _) (U6.put3 n30 n31 n32 q' _) e5 hul' huw' ⟨d2,m2,hp6,he6⟩))
  ·rw[if_pos (letH h)];have hli:lies (b7 kinds (.str z)) (.str z) x=true:=by unfold lies;rw[if_pos h]
   obtain ⟨d2,m2,hp6,he6⟩:=dy hk hvw hx hxw hp5 he5 hli;rw[if_pos hli,if_pos h,h] at e5;rw[if_pos h] at he6;rw[h] at hul' huw';have nel:et≠l1:=ag hE h1;refine aq U5.1 rfl (bh U5.2.1 (by rw[aa0];omega) (aq (by rw[af nel];exact s5 _ _ hE) (ay (by rw[aa7,List.getElem?_range hq];rfl)) (fin (endAt ws q') _ _ _ _ _ rfl (s5.upd h1 _) (U5.put1 n10 n21 n31 q' x) e5 hul' huw' ⟨d2,m2,hp6,he6⟩)))
  ·obtain ⟨na,nv⟩:=letO h;rw[if_neg (by rw[hno];decide)];refine ⟨hvw.sc _,?_⟩;rw[if_neg (show ¬v=V.str (Str.ofString "any") from na)];refine ⟨hvw.sc _,?_⟩;rw[if_neg (show ¬v=V.str (Str.ofString "var") from nv)];refine ⟨hvw.sc2 hxw,?_⟩;by_cases c:v=x
   ·have hli:lies (b7 kinds v) v x=true:=by unfold lies;rw[h,if_neg b3,if_neg b5,if_neg b6];exact decide_eq_true c
    obtain ⟨d2,m2,hp6,he6⟩:=dy hk hvw hx hxw hp5 he5 hli;rw[if_pos hli,h,if_neg b3,u.put0] at e5;rw[h,if_neg b3] at he6;rw[h,u.put0] at hul' huw';rw[if_pos c];exact fin (q'+1) _ _ _ _ _ (by omega) s5 U5 e5 hul' huw' ⟨d2,m2,hp6,he6⟩
   ·have hli:¬lies (b7 kinds v) v x=true:=by unfold lies;rw[h,if_neg b3,if_neg b5,if_neg b6];exact λe=>c (of_decide_eq_true e)
    rw[if_neg hli] at e5;have z:=q H5 s5;rw[←e5] at z;rw[if_neg c];exact z
 ·intro σ H5 hh;refine ob4 ((eP1 _ _ _).mp hh) λq' u v6 v7 hh=>?_;have s5:=hh.2.1;have U5:=hh.2.2.1;have e5:=hh.2.2.2.1;have hul:=hh.2.2.2.2.1;have huw:=hh.2.2.2.2.2.1;have hdm:=hh.2.2.2.2.2.2;obtain rfl:=hh.1;clear hh;obtain ⟨d,m,hp5,he5⟩:=hdm;rw[abw] at e5;have z:=q H5 s5;rw[←e5] at z;push_cast [and_true];refine aq U5.1 rfl ⟨_,.inl ⟨SqL.of U5.2.1,λt1 ht1=>?_⟩⟩;have U6:=U5.same (aa ht1 (.tup (u.hs.map plV)));refine aq U6.1 rfl ⟨_,.inl ⟨SqL.of U6.2.2.1,λt2 ht2=>?_⟩⟩;have U7:=U6.same (aa ht2 (.tup u.ns));refine aq U7.1 rfl ⟨_,.inl ⟨SqL.of U7.2.2.2,λt3 ht3=>⟨by show (3:Nat)≤sizeLine;decide,λt ht=>?_⟩⟩⟩;exact z t _ ((aa ht1 _).trans ((aa ht2 _).trans ((aa ht3 _).trans (aa ht _)))) ⟨t1,t2,t3,ae,aa ht _ _ _ (aa ht3 _ _ _ (aa ht2 _ _ _ ae)),aa ht _ _ _ (aa ht3 _ _ _ ae),aa ht _ _ _ ae⟩ ⟨⟨huw.1,by omega⟩,⟨huw.2,by omega⟩,by omega⟩
noncomputable abbrev nk:Stmt:=top 34
theorem Ei:ba ["deck","names","most","words","due","cell","more","room","far"] ["deck","names","most"] (ah nk):=⟨rfl,rfl,rfl,by decide+kernel,rfl,by decide+kernel,by decide+kernel⟩
theorem Im (G:Gs w K mg κ) (h_law_next:Has P w K mg base k "_law_next" ["deck"] fi) (D:Def K mg "_law_term" nk ["deck","names","most"]):Has P w K mg base (k+1) "_law_term" ["deck","names","most"] mq:=by
 refine D.has Ei (λvs H Q E h=>?_) (λf cdv A outer s H vs Q E hr h=>?_)
 ·obtain ⟨_,_,_,_,_,_,_,rfl,_,_,_,_,_,_⟩:=h;rfl
 have nd:=Ei.nd;have hu:=cv hr;have hu0:=aaj hu;obtain ⟨d,nl,b,ns,zs,m,n,rfl,hD,hN,h1,h2,hn,q⟩:=h;have m_len:=G.m_len;have m_tuple:=G.m_tuple;refine ⟨_,(A5 (A6 3 nd (AE (A3 0))) (A5 (A6 4 nd (A2 0)) (A5 (CB (AA (BD 0) (A0 4) (A2 0) (A9 0)) (A5 (A6 5 nd (AJ h_law_next hr (A1 (A0 0) (A3 0)))) (A5 (A6 6 nd (A4 (AQ 0) (A0 5) (A2 0))) (A5 (A6 7 nd (A4 (AY 0) (A4 (AY 0) (A0 2) (AK (AU 0) m_len ck (A1 (A0 3) (A3 0)))) (A0 4))) (A7 (AB (BB (BN (AA (@sq _) (A4 (AC 0) (A0 5) (A2 0)) (A2 0) (A9 0)) (BQ (AA (BD 0) (A0 7) (A2 0) (A9 0))))) (A5 (AR (AT PySem.F.plainAttrs_list PySem.F.slot_list_append PySem.F.type_list_append (AV 0) (A0 3) (A1 (A8 (AN 0) (AE (BF (AH (AH (AH (BG 0)))))) (A4 (AC 0) (A0 5) (A2 0))) (A3 0)))) (A7 (A6 4 nd (A4 (AL 0) (A0 4) (A2 0))))) (A7 (AB (BB (BN (AA (AM 0) (A4 (AC 0) (A0 5) (A2 0)) (A2 0) (A9 0)) (BQ (AA (BD 0) (A0 7) (A2 0) (A9 0))))) (A7 (AR (AT PySem.F.plainAttrs_list PySem.F.slot_list_append PySem.F.type_list_append (AV 0) (A0 3) (A1 (AI 0) (A3 0))))) (A5 (A6 4 nd (A4 (AY 0) (A0 4) (A2 0))) (A5 (A6 8 nd (A8 (AN 0) (AE (A1 (A2 0) (A1 (A2 0) (A1 (A2 0) (A1 (A4 (@gq _) (A2 0) (A2 0)) (A1 (A4 (@gq _) (A2 0) (A2 0)) (A1 (A4 (@gq _) (A2 0) (A2 0)) (A3 0)))))))) (A4 (AC 0) (A4 (AQ 0) (A0 6) (A2 0)) (A2 0)))) (A5 (A6 8 nd (A8 (AN 0) (AE (A1 (A4 (AY 0) (A4 (AC 0) (A4 (AQ 0) (A0 6) (A2 0)) (A4 (@gq _) (A2 0) (A2 0))) (A2 0)) (A1 (A0 8) (A1 (A4 (AY 0) (A2 0) (A0 8)) (A3 0))))) (A4 (AC 0) (A4 (AQ 0) (A0 6) (A2 0)) (A2 0)))) (A7 (AR (AT PySem.F.plainAttrs_list PySem.F.slot_list_append PySem.F.type_list_append (AV 0) (A0 3) (A1 (A8 (AN 0) (AE (A1 (A8 (AN 0) (A0 1) (A2 0)) (A1 (A8 (AN 0) (A0 1) (A2 0)) (A1 (A8 (AN 0) (A0 1) (A2 0)) (A1 (A2 0) (A1 (A2 0) (A1 (@pe_un _ _ _ _ _ _ (@yp _) (A2 0)) (A1 (A2 0) (A1 (A0 8) (A1 (A0 8) (A3 0))))))))))) (A4 (AC 0) (A0 6) (A2 0))) (A3 0)))))))))))))))) (A7 (AD (AX (BE 0) m_tuple cz (A1 (A0 3) (A3 0)))))))),?_⟩;rw[show start ["deck","names","most","words","due","cell","more","room","far"] [.ref d,.ref nl,.int (m:Int)]=[some (.ref d),some (.ref nl),some (.int (m:Int)),none,none,none,none,none,none] from rfl];clear hu hu0 nd hr;push_cast [and_true];have sz:=sizeLine_eq;refine ⟨aaa _,λp hp=>?_⟩;have npd:p≠d:=(ag hD.1 hp).symm;obtain ⟨P1,eP1⟩:∃P1:L2.St→Hp→Prop,∀σ H',P1 σ H'↔∃(ws:List V) (due:Nat) (v1 v2 v3 v4:Option V),σ=[some (.ref d),some (.ref nl),some (.int (m:Int)),some (.ref p),some (.int (due:Int)),v1,v2,v3,v4]∧au d H H'∧H' d=some (.lst [.ref b,.int ((n+ws.length:Nat):Int)])∧H' p=some (.lst ws)∧(∀v∈ws,twW v)∧pend 1 (ws.map arV)=some due∧ws.length+due≤m:=⟨_,λ_ _=>abm⟩;refine jq P1 (λσ H'=>m - jx H' p) ?_ ?_ ?_
 ·exact (eP1 _ _).mpr ⟨[],1,none,none,none,none,rfl,(au.refl d H).upd hp _,aa hp _ _ _ hD.1,ae,(λ_ h=>nomatch h),rfl,by show 0+1≤m;omega⟩
 ·intro σ H' hh;refine ob6 ((eP1 _ _).mp hh) λws due v1 v2 v3 v4 hh=>?_;have hS:=hh.2.1;have hD':=hh.2.2.1;have hp':=hh.2.2.2.1;have hw:=hh.2.2.2.2.1;have hpd:=hh.2.2.2.2.2.1;have hr:=hh.2.2.2.2.2.2;obtain rfl:=hh.1;clear hh;push_cast [and_true];have hDk:cq H' d b ns (n+ws.length):=hD.next hS hD'
  refine bp (λhdue=>ik hDk (by omega) λc H1 s1 d1=>?_) λhdue=>?_
  ·push_cast [ke,CPow];have hp1':H1 p=some (.lst ws):=s1 p _ npd hp';have hN1:=hN.dz hD (hS.trans s1);have at':∀i:Nat,i < 60→atI (zs.map V.str) (i:Int)=some (.str (zs.getD i "")):=λi hi=>ay (by rw[aa7,aan,aa2 (by rw[hN.2.1];exact hi)];rfl);have ok':∀i:Nat,i < 60→nmOk (zs.getD i ""):=λi hi=>by
    rw[aan,aa2 (by rw[hN.2.1];exact hi)];exact hN.2.2.2 _ (ab1 _)
   have app:∀(v:V) (H2:Hp) (dd:Int),twW v→dd=(due:Int) - 1+(arV v:Int)→ws.length+due+arV v≤m→ak H1 H2→
     ∀w1 w2 w3 w4,jo (.ref p) [v] H2 λ_ H3=>P1 [some (.ref d),some (.ref nl),some (.int (m:Int)),some (.ref p),some (.int dd),w1,w2,w3,w4] H3∧m - jx H3 p < m - jx H' p:=by
    intro v H2 dd hv hdd hroom s2 w1 w2 w3 w4;have hp2:=s2 _ _ hp1';refine ⟨p,ws,v,rfl,rfl,hp2,by omega,(eP1 _ _).mpr ⟨ws++[v],due - 1+arV v,w1,w2,w3,w4,by rw[show dd=((due - 1+arV v:Nat):Int) by omega],(hS.trans (s1.trans (au.of s2))).upd hp _,?_,ae,λx hx=>?_,?_,?_⟩,?_⟩
    ·rw[af npd.symm,aa1];exact s2 _ _ d1
    ·rcases List.mem_append.mp hx with h | h
     ·exact hw x h
     ·rw[List.mem_singleton.mp h];exact hv
    ·rw[aa8];exact ql _ _ _ _ hpd (by omega)
    ·rw[aa1,aa9];omega
    ·rw[fz ae,fz hp',aa1,aa9];omega
   refine ⟨ws,.inl (SqL.of hp1'),bp (λc3=>bp (λr1=>⟨av hp1',by show (3:Nat)≤sizeLine;decide,λp2 hp2=>?_⟩) λr1=>⟨rfl,bp (λe4=>by omega) λe4=>?_⟩) λc3=>⟨rfl,bp (λe4=>bp (λr0=>⟨av hp1',?_⟩) λr0=>?_) λe4=>?_⟩⟩
   ·obtain ⟨y,hy,hym⟩:=cg [V.str (Str.ofString "add"),V.str (Str.ofString "sub"),V.str (Str.ofString "mul")] (c % 7) (aai _ (by decide)) (by show c % 7 < 3;omega);obtain ⟨z,rfl,a2⟩:∃z,y=V.str z∧arS z=2:=by
     simp only[aag,aa4,or_false] at hym;rcases hym with rfl | rfl | rfl
     ·exact ⟨_,rfl,by decide+kernel⟩
     ·exact ⟨_,rfl,by decide+kernel⟩
     ·exact ⟨_,rfl,by decide+kernel⟩
    have a2':arV (.str z)=2:=a2;exact aq ae hy (app (.str z) _ ((due:Int)+1) (twW_op (by omega)) (by rw[a2'];omega) (by rw[a2'];omega) (aa hp2 _) _ _ _ _)
   ·refine ⟨by decide,by decide,by decide,by show (6:Nat)≤sizeLine;decide,λp1 hp1=>?_⟩;obtain ⟨f1,hf1,hm1⟩:=cg [V.int 3,V.int 7,V.int 41,V.int (10 ^ aau 3),V.int (10 ^ aau 9),V.int (10 ^ aau 29)] (c / 7 / 27 % 6) (aai _ (by decide)) (by show c / 7 / 27 % 6 < 6;omega);obtain ⟨i1,rfl⟩:∃i,f1=V.int i:=by
     simp only[aag,aa4,or_false] at hm1;rcases hm1 with rfl | rfl | rfl | rfl | rfl | rfl <;> exact ⟨_,rfl⟩
    refine aq ae hf1 ⟨by decide,by decide+kernel,by show (3:Nat)≤sizeLine;decide,λp2 hp2=>?_⟩;obtain ⟨f2,hf2,hm2⟩:=cg [V.int (c / 7 / 9 % 10 ^ aau 20 - 7),V.int i1,V.int (0 - i1)] (c / 7 / 9 % 3) (aai _ (by decide)) (by show c / 7 / 9 % 3 < 3;omega);obtain ⟨i2,rfl⟩:∃i,f2=V.int i:=by
     simp only[aag,aa4,or_false] at hm2;rcases hm2 with rfl | rfl | rfl <;> exact ⟨_,rfl⟩
    have s2:=(aa hp1 (.lst [V.int 3,V.int 7,V.int 41,V.int (10 ^ aau 3),V.int (10 ^ aau 9),V.int (10 ^ aau 29)])).trans (aa hp2 (.lst [V.int (c / 7 / 9 % 10 ^ aau 20 - 7),V.int i1,V.int (0 - i1)]));refine aq ae hf2 ⟨av (s2 _ _ hp1'),aq (s2 _ _ hN1.1) (at' 0 (by decide)) (aq (s2 _ _ hN1.1) (at' 50 (by decide)) (aq (s2 _ _ hN1.1) (at' 51 (by decide)) ⟨by show (9:Nat)≤sizeLine;decide,λp3 hp3=>?_⟩))⟩;obtain ⟨f3,hf3,hm3⟩:=cg [V.str (zs.getD 0 ""),V.str (zs.getD 50 ""),V.str (zs.getD 51 ""),V.int 0,V.int 2,V.int (-1),V.int 5,V.int i2,V.int i2] (c / 7 % 9) (aai _ (by decide)) (by show c / 7 % 9 < 9;omega);obtain ⟨t3,a3⟩:twW f3∧arV f3=0:=by
     simp only[aag,aa4,or_false] at hm3;rcases hm3 with rfl | rfl | rfl | rfl | rfl | rfl | rfl | rfl | rfl
     ·exact ⟨twW_name (ok' 0 (by decide)),(ok' 0 (by decide)).1⟩
     ·exact ⟨twW_name (ok' 50 (by decide)),(ok' 50 (by decide)).1⟩
     ·exact ⟨twW_name (ok' 51 (by decide)),(ok' 51 (by decide)).1⟩
     all_goals exact ⟨twW_int _,rfl⟩
    exact aq ae hf3 (app f3 _ ((due:Int) - 1) t3 (by rw[a3];omega) (by rw[a3];omega) (s2.trans (aa hp3 _)) _ _ _ _)
   ·have an:arV (.str (Str.ofString "neg"))=1:=ud;exact app (.str (Str.ofString "neg")) H1 (due:Int) (twW_op (by decide+kernel)) (by rw[an];omega) (by rw[an];omega) (ak.refl _) _ _ _ _
   ·refine ⟨by decide,by decide,by decide,by show (6:Nat)≤sizeLine;decide,λp1 hp1=>?_⟩;obtain ⟨f1,hf1,hm1⟩:=cg [V.int 3,V.int 7,V.int 41,V.int (10 ^ aau 3),V.int (10 ^ aau 9),V.int (10 ^ aau 29)] (c / 7 / 27 % 6) (aai _ (by decide)) (by show c / 7 / 27 % 6 < 6;omega);obtain ⟨i1,rfl⟩:∃i,f1=V.int i:=by
     simp only[aag,aa4,or_false] at hm1;rcases hm1 with rfl | rfl | rfl | rfl | rfl | rfl <;> exact ⟨_,rfl⟩
    refine aq ae hf1 ⟨by decide,by decide+kernel,by show (3:Nat)≤sizeLine;decide,λp2 hp2=>?_⟩;obtain ⟨f2,hf2,hm2⟩:=cg [V.int (c / 7 / 9 % 10 ^ aau 20 - 7),V.int i1,V.int (0 - i1)] (c / 7 / 9 % 3) (aai _ (by decide)) (by show c / 7 / 9 % 3 < 3;omega);obtain ⟨i2,rfl⟩:∃i,f2=V.int i:=by
     simp only[aag,aa4,or_false] at hm2;rcases hm2 with rfl | rfl | rfl <;> exact ⟨_,rfl⟩
    have s2:=(aa hp1 (.lst [V.int 3,V.int 7,V.int 41,V.int (10 ^ aau 3),V.int (10 ^ aau 9),V.int (10 ^ aau 29)])).trans (aa hp2 (.lst [V.int (c / 7 / 9 % 10 ^ aau 20 - 7),V.int i1,V.int (0 - i1)]));refine aq ae hf2 ⟨av (s2 _ _ hp1'),aq (s2 _ _ hN1.1) (at' 0 (by decide)) (aq (s2 _ _ hN1.1) (at' 50 (by decide)) (aq (s2 _ _ hN1.1) (at' 51 (by decide)) ⟨by show (9:Nat)≤sizeLine;decide,λp3 hp3=>?_⟩))⟩;obtain ⟨f3,hf3,hm3⟩:=cg [V.str (zs.getD 0 ""),V.str (zs.getD 50 ""),V.str (zs.getD 51 ""),V.int 0,V.int 2,V.int (-1),V.int 5,V.int i2,V.int i2] (c / 7 % 9) (aai _ (by decide)) (by show c / 7 % 9 < 9;omega);obtain ⟨t3,a3⟩:twW f3∧arV f3=0:=by
     simp only[aag,aa4,or_false] at hm3;rcases hm3 with rfl | rfl | rfl | rfl | rfl | rfl | rfl | rfl | rfl
     ·exact ⟨twW_name (ok' 0 (by decide)),(ok' 0 (by decide)).1⟩
     ·exact ⟨twW_name (ok' 50 (by decide)),(ok' 50 (by decide)).1⟩
     ·exact ⟨twW_name (ok' 51 (by decide)),(ok' 51 (by decide)).1⟩
     all_goals exact ⟨twW_int _,rfl⟩
    exact aq ae hf3 (app f3 _ ((due:Int) - 1) t3 (by rw[a3];omega) (by rw[a3];omega) (s2.trans (aa hp3 _)) _ _ _ _)
   ·refine ⟨by decide,by decide,by decide,by show (6:Nat)≤sizeLine;decide,λp1 hp1=>?_⟩;obtain ⟨f1,hf1,hm1⟩:=cg [V.int 3,V.int 7,V.int 41,V.int (10 ^ aau 3),V.int (10 ^ aau 9),V.int (10 ^ aau 29)] (c / 7 / 27 % 6) (aai _ (by decide)) (by show c / 7 / 27 % 6 < 6;omega);obtain ⟨i1,rfl⟩:∃i,f1=V.int i:=by
     simp only[aag,aa4,or_false] at hm1;rcases hm1 with rfl | rfl | rfl | rfl | rfl | rfl <;> exact ⟨_,rfl⟩
    refine aq ae hf1 ⟨by decide,by decide+kernel,by show (3:Nat)≤sizeLine;decide,λp2 hp2=>?_⟩;obtain ⟨f2,hf2,hm2⟩:=cg [V.int (c / 7 / 9 % 10 ^ aau 20 - 7),V.int i1,V.int (0 - i1)] (c / 7 / 9 % 3) (aai _ (by decide)) (by show c / 7 / 9 % 3 < 3;omega);obtain ⟨i2,rfl⟩:∃i,f2=V.int i:=by
     simp only[aag,aa4,or_false] at hm2;rcases hm2 with rfl | rfl | rfl <;> exact ⟨_,rfl⟩
    have s2:=(aa hp1 (.lst [V.int 3,V.int 7,V.int 41,V.int (10 ^ aau 3),V.int (10 ^ aau 9),V.int (10 ^ aau 29)])).trans (aa hp2 (.lst [V.int (c / 7 / 9 % 10 ^ aau 20 - 7),V.int i1,V.int (0 - i1)]));refine aq ae hf2 ⟨av (s2 _ _ hp1'),aq (s2 _ _ hN1.1) (at' 0 (by decide)) (aq (s2 _ _ hN1.1) (at' 50 (by decide)) (aq (s2 _ _ hN1.1) (at' 51 (by decide)) ⟨by show (9:Nat)≤sizeLine;decide,λp3 hp3=>?_⟩))⟩;obtain ⟨f3,hf3,hm3⟩:=cg [V.str (zs.getD 0 ""),V.str (zs.getD 50 ""),V.str (zs.getD 51 ""),V.int 0,V.int 2,V.int (-1),V.int 5,V.int i2,V.int i2] (c / 7 % 9) (aai _ (by decide)) (by show c / 7 % 9 < 9;omega);obtain ⟨t3,a3⟩:twW f3∧arV f3=0:=by
     simp only[aag,aa4,or_false] at hm3;rcases hm3 with rfl | rfl | rfl | rfl | rfl | rfl | rfl | rfl | rfl
     ·exact ⟨twW_name (ok' 0 (by decide)),(ok' 0 (by decide)).1⟩
     ·exact ⟨twW_name (ok' 50 (by decide)),(ok' 50 (by decide)).1⟩
     ·exact ⟨twW_name (ok' 51 (by decide)),(ok' 51 (by decide)).1⟩
     all_goals exact ⟨twW_int _,rfl⟩
    exact aq ae hf3 (app f3 _ ((due:Int) - 1) t3 (by rw[a3];omega) (by rw[a3];omega) (s2.trans (aa hp3 _)) _ _ _ _)
  ·have d0:due=0:=by omega
   subst d0;refine ⟨ws,.inl ⟨SqL.of hp',λt ht=>?_⟩⟩;have htn:=hS.free hD' ht;exact q t (n+ws.length) _ ws (hS.upd htn _) (by rw[af (ag hD' ht)];exact hD') (by omega) htn ae ⟨hw,hpd,by omega⟩ (by omega)
 ·intro σ H' Q1 Q2 hq h;simp only[vg,tOp,rI0,iy,tC,je,gn,tB] at h ⊢;obtain ⟨v,hv,i,j,e1,e2,k,e3,h⟩:=h;exact ⟨v,hv,i,j,e1,e2,k,e3,hq _ _ h⟩
noncomputable abbrev jl:Stmt:=top 31
theorem zf:ba ["deck","kinds","words","due","left","wide","cell","more","far","number"] ["deck","kinds"] (ah jl):=⟨rfl,rfl,rfl,by decide+kernel,rfl,by decide+kernel,by decide+kernel⟩
theorem E7 (G:Gs w K mg κ) (h_law_next:Has P w K mg base k "_law_next" ["deck"] fi) (D:Def K mg "_law_shape" jl ["deck","kinds"]):Has P w K mg base (k+1) "_law_shape" ["deck","kinds"] mf:=by
 refine D.has zf (λvs H Q E h=>?_) (λf cdv A outer s H vs Q E hr h=>?_)
 ·obtain ⟨_,_,_,_,_,_,rfl,_,_,_,_,_,_,_⟩:=h;rfl
 have nd:=zf.nd;have hu:=cv hr;have hu0:=aaj hu;obtain ⟨d,kt,b,ns,kinds,n,rfl,hD,hK,hk,h1,h2,hn,q⟩:=h;have m_int:=G.m_int;have m_len:=G.m_len;have m_tuple:=G.m_tuple;refine ⟨_,(A5 (A6 2 nd (AE (A3 0))) (A5 (A6 3 nd (A2 0)) (A5 (A6 4 nd (AJ h_law_next hr (A1 (A0 0) (A3 0)))) (A5 (A6 5 nd (C9 (AM 0) (A4 (AC 0) (A4 (AQ 0) (A0 4) (A2 0)) (A2 0)) (A2 0) (A9 0))) (A5 (A6 4 nd (A8 (AN 0) (AE (A1 (A4 (AL 0) (A2 0) (A4 (AC 0) (A0 4) (A2 0))) (A1 (A2 0) (A3 0)))) (AX (@eo _) m_int lq (A1 (A0 5) (A3 0))))) (A5 (CB (AA (BD 0) (A0 3) (A2 0) (A9 0)) (A5 (A6 6 nd (AJ h_law_next hr (A1 (A0 0) (A3 0)))) (A5 (A6 7 nd (A4 (AQ 0) (A0 6) (A2 0))) (A7 (AB (BB (BN (AA (BD 0) (A0 4) (A2 0) (A9 0)) (BQ (AA (@sq _) (A4 (AC 0) (A0 6) (A2 0)) (A4 (AL 0) (A2 0) (AX (@eo _) m_int lq (A1 (A0 5) (A3 0)))) (A9 0))))) (A5 (A6 4 nd (A4 (AY 0) (A0 4) (A2 0))) (A5 (AR (AT PySem.F.plainAttrs_list PySem.F.slot_list_append PySem.F.type_list_append (AV 0) (A0 2) (A1 (A8 (AN 0) (AE (BF (AH (AH (AH (AH (BG 0))))))) (A4 (AC 0) (A0 7) (A2 0))) (A3 0)))) (A7 (A6 3 nd (A4 (AL 0) (A0 3) (AX (@eo _) m_int lq (A1 (C9 (@sq _) (A4 (AC 0) (A0 7) (A2 0)) (A2 0) (A9 0)) (A3 0)))))))) (A7 (AB (BB (BN (AA (BD 0) (A0 4) (A2 0) (A9 0)) (BQ (AA (AM 0) (A4 (AC 0) (A0 6) (A2 0)) (A2 0) (A9 0))))) (A5 (A6 4 nd (A4 (AY 0) (A0 4) (A2 0))) (A5 (A6 3 nd (A4 (AY 0) (A0 3) (A2 0))) (A5 (A6 8 nd (A8 (AN 0) (AE (A1 (A2 0) (A1 (A2 0) (A1 (A2 0) (A1 (A4 (@gq _) (A2 0) (A2 0)) (A1 (A4 (@gq _) (A2 0) (A2 0)) (A1 (A4 (@gq _) (A2 0) (A2 0)) (A3 0)))))))) (A4 (AC 0) (A4 (AQ 0) (A0 7) (A2 0)) (A2 0)))) (A5 (A6 9 nd (A8 (AN 0) (AE (A1 (A2 0) (A1 (A2 0) (A1 (@pe_un _ _ _ _ _ _ (@yp _) (A2 0)) (A1 (A2 0) (A1 (A0 8) (A1 (A4 (AY 0) (A2 0) (A0 8)) (A3 0)))))))) (A4 (AC 0) (A4 (AQ 0) (A0 7) (A2 0)) (A2 0)))) (A7 (AR (AT PySem.F.plainAttrs_list PySem.F.slot_list_append PySem.F.type_list_append (AV 0) (A0 2) (A1 (A8 (AN 0) (AE (A1 (AI 0) (A1 (AI 0) (A1 (A0 9) (A3 0))))) (A4 (AC 0) (A0 7) (A2 0))) (A3 0))))))))) (A5 (A6 3 nd (A4 (AY 0) (A0 3) (A2 0))) (A7 (AR (AT PySem.F.plainAttrs_list PySem.F.slot_list_append PySem.F.type_list_append (AV 0) (A0 2) (A1 (A8 (AF 0) (A0 1) (A4 (AC 0) (A0 7) (AK (AU 0) m_len ck (A1 (A0 1) (A3 0))))) (A3 0))))))))))))) (A7 (AD (AX (BE 0) m_tuple cz (A1 (A0 2) (A3 0))))))))))),?_⟩;rw[show start ["deck","kinds","words","due","left","wide","cell","more","far","number"] [.ref d,.ref kt]=[some (.ref d),some (.ref kt),none,none,none,none,none,none,none,none] from rfl];clear hu hu0 nd hr;push_cast [and_true];have sz:=sizeLine_eq;refine ⟨aaa _,λp hp=>?_⟩;have npd:p≠d:=(ag hD.1 hp).symm;refine ik (b:=b) (ns:=ns) (n:=n) ⟨aa hp _ _ _ hD.1,aa hp _ _ _ hD.2⟩ (by omega) λc0 H1 s1 d1=>?_;push_cast [ke];refine ⟨rfl,by show (2:Nat)≤sizeLine;decide,λp1 hp1=>?_⟩;have D0:cq (upd H p (.lst [])) d b ns n:=⟨aa hp _ _ _ hD.1,aa hp _ _ _ hD.2⟩;have D1:=D0.next s1 d1
 have S1:au d H H1:=(au.of (aa hp _)).trans s1;have hp1':H1 p=some (.lst []):=s1 p _ npd ae;obtain ⟨L0,hL1,hL2,hat⟩:∃L0:Nat,1≤L0∧L0≤5∧atI [V.int (1+c0 % 4),V.int 5] (if c0 / 4 % 8=3 then 1 else 0)=some (.int (L0:Int)):=by
  have a0:0≤c0 % 4:=aai _ (by decide);by_cases e:c0 / 4 % 8=3
  ·rw[if_pos e];exact ⟨5,by decide,by decide,rfl⟩
  ·rw[if_neg e];exact ⟨(1+c0 % 4).toNat,by omega,by omega,(show atI [V.int (1+c0 % 4),V.int 5] 0=some (V.int (1+c0 % 4)) from rfl).trans (by rw[show (((1+c0 % 4).toNat:Nat):Int)=1+c0 % 4 by omega])⟩
 refine aq ae hat ?_;have S2:=S1.upd (S1.free d1 hp1) (.lst [V.int (1+c0 % 4),V.int 5]);have d2:=aa hp1 (.lst [V.int (1+c0 % 4),V.int 5]) _ _ d1;have p2:=aa hp1 (.lst [V.int (1+c0 % 4),V.int 5]) _ _ hp1';generalize upd H1 p1 (.lst [V.int (1+c0 % 4),V.int 5])=H2 at S2 d2 p2 ⊢;obtain ⟨P1,eP1⟩:∃P1:L2.St→Hp→Prop,∀σ H',P1 σ H'↔∃(ws:List V) (due left:Nat) (v6 v7 v8 v9:Option V),σ=[some (.ref d),some (.ref kt),some (.ref p),some (.int (due:Int)),some (.int (left:Int)),some (.bl (decide (c0 / 4 % 8=3))),v6,v7,v8,v9]∧au d H H'∧H' d=some (.lst [.ref b,.int ((n+1+ws.length:Nat):Int)])∧H' p=some (.lst ws)∧(∀v∈ws,isW v)∧pend 1 (ws.map arV)=some due∧ws.length+due+2*left≤11∧(ws.filter λv=>!inV v (kinds.map V.str)).length+left≤5:=⟨_,λ_ _=>abm⟩;refine jq P1 (λσ H'=>11 - jx H' p) ?_ ?_ ?_
 ·exact (eP1 _ _).mpr ⟨[],1,L0,none,none,none,none,rfl,S2,d2,p2,(λ_ h=>nomatch h),rfl,by show 0+1+2*L0≤11;omega,by show 0+L0≤5;omega⟩
 ·intro σ H' hh;refine ob7 ((eP1 _ _).mp hh) λws due left v6 v7 v8 v9 hh=>?_;have hS:=hh.2.1;have hD':=hh.2.2.1;have hp':=hh.2.2.2.1;have hw:=hh.2.2.2.2.1;have hpd:=hh.2.2.2.2.2.1;have hr:=hh.2.2.2.2.2.2.1;have hfew:=hh.2.2.2.2.2.2.2;obtain rfl:=hh.1;clear hh;push_cast [and_true];have hDk:cq H' d b ns (n+1+ws.length):=hD.next hS hD'
  refine bp (λhdue=>ik hDk (by omega) λc H3 s3 d3=>?_) λhdue=>?_
  ·push_cast [ke,CPow];have p3:H3 p=some (.lst ws):=s3 p _ npd hp';have k3:H3 kt=some (.tup (kinds.map V.str)):=(hS.trans s3) kt _ (j5 hK hD.1 (by intro e;cases e)) hK;have app:∀(v:V) (H4:Hp) (dd:Int) (left':Nat),isW v→dd=(due:Int) - 1+(arV v:Int)→ws.length+due+arV v+2*left'≤11→(left'+1=left∨(left'=left∧inV v (kinds.map V.str)=true))→ak H3 H4→
     ∀w6 w7 w8 w9,jo (.ref p) [v] H4 λ_ H5=>P1 [some (.ref d),some (.ref kt),some (.ref p),some (.int dd),some (.int (left':Int)),some (.bl (decide (c0 / 4 % 8=3))),w6,w7,w8,w9] H5∧11 - jx H5 p < 11 - jx H' p:=by
    intro v H4 dd left' hv hdd hroom hlf s4 w6 w7 w8 w9;have p4:=s4 _ _ p3;refine ⟨p,ws,v,rfl,rfl,p4,by omega,(eP1 _ _).mpr ⟨ws++[v],due - 1+arV v,left',w6,w7,w8,w9,by rw[show dd=((due - 1+arV v:Nat):Int) by omega],(hS.trans (s3.trans (au.of s4))).upd hp _,?_,ae,λx hx=>?_,?_,?_,?_⟩,?_⟩
    ·rw[af npd.symm,aa1];exact s4 _ _ d3
    ·rcases List.mem_append.mp hx with h | h
     ·exact hw x h
     ·rw[List.mem_singleton.mp h];exact hv
    ·rw[aa8];exact ql _ _ _ _ hpd (by omega)
    ·rw[aa1,aa9];omega
    ·rw[ab9,aa1];rcases hlf with h | ⟨h,hin⟩
     ·have:([v].filter λv=>!inV v (kinds.map V.str)).length≤1:=ab7 _ _;omega
     ·have:[v].filter (λv=>!inV v (kinds.map V.str))=[]:=by rw[aav,hin];rfl
      rw[this,acv];omega
    ·rw[fz ae,fz hp',aa1,aa9];omega
   refine bp (λl0=>bp (λa1=>⟨av p3,by show (4:Nat)≤sizeLine;decide,λp4 hp4=>?_⟩) λa1=>bp (λ_=>⟨rfl,bp (λe3=>?_) λe3=>?_⟩) λnl=>absurd l0 nl) λnl=>bp (λl0=>absurd l0 nl) λ_=>?_
   ·obtain ⟨y,hy,hw2,ha2⟩:∃y,atI [V.str (Str.ofString "add"),V.str (Str.ofString "sub"),V.str (Str.ofString "mul"),V.str (Str.ofString "neg")] (c / 5 % 4)=some y∧isW y∧((due:Int)+if c / 5 % 4 < 3 then 1 else 0)=(due:Int) - 1+(arV y:Int):=by
     rcases (show c / 5 % 4=((0:Nat):Int)∨c / 5 % 4=((1:Nat):Int)∨c / 5 % 4=((2:Nat):Int)∨c / 5 % 4=((3:Nat):Int) by omega) with e | e | e | e
     ·rw[e];exact ⟨_,ay rfl,⟨Sum.inr _,rfl⟩,by rw[show arV (.str (Str.ofString "add"))=2 by decide+kernel,if_pos (by decide)];omega⟩
     ·rw[e];exact ⟨_,ay rfl,⟨Sum.inr _,rfl⟩,by rw[show arV (.str (Str.ofString "sub"))=2 by decide+kernel,if_pos (by decide)];omega⟩
     ·rw[e];exact ⟨_,ay rfl,⟨Sum.inr _,rfl⟩,by rw[show arV (.str (Str.ofString "mul"))=2 by decide+kernel,if_pos (by decide)];omega⟩
     ·rw[e];exact ⟨_,ay rfl,⟨Sum.inr _,rfl⟩,by rw[show arV (.str (Str.ofString "neg"))=1 from ud,if_neg (by decide)];omega⟩
    have ar2:=ng y;obtain ⟨l',rfl⟩:∃l',left=l'+1:=⟨left - 1,by omega⟩;rw[show ((l'+1:Nat):Int) - 1=(l':Int) by omega];exact aq ae hy (app y _ _ l' hw2 ha2 (by omega) (.inl rfl) (aa hp4 _) _ _ _ _)
   ·obtain ⟨l',rfl⟩:∃l',left=l'+1:=⟨left - 1,by omega⟩;rw[show ((l'+1:Nat):Int) - 1=(l':Int) by omega];refine ⟨by decide,by decide,by decide,by show (6:Nat)≤sizeLine;decide,λp4 hp4=>?_⟩;obtain ⟨f1,hf1,hm1⟩:=cg [V.int 3,V.int 7,V.int 41,V.int (10 ^ aau 3),V.int (10 ^ aau 9),V.int (10 ^ aau 29)] (c / 5 / 18 % 6) (aai _ (by decide)) (by show c / 5 / 18 % 6 < 6;omega);obtain ⟨i1,rfl⟩:∃i,f1=V.int i:=by
     simp only[aag,aa4,or_false] at hm1;rcases hm1 with rfl | rfl | rfl | rfl | rfl | rfl <;> exact ⟨_,rfl⟩
    refine aq ae hf1 ⟨by show (6:Nat)≤sizeLine;decide,λp5 hp5=>?_⟩;obtain ⟨f2,hf2,hm2⟩:=cg [V.int 0,V.int 2,V.int (-1),V.int 5,V.int i1,V.int (0 - i1)] (c / 5 / 3 % 6) (aai _ (by decide)) (by show c / 5 / 3 % 6 < 6;omega);obtain ⟨i2,rfl⟩:∃i,f2=V.int i:=by
     simp only[aag,aa4,or_false] at hm2;rcases hm2 with rfl | rfl | rfl | rfl | rfl | rfl <;> exact ⟨_,rfl⟩
    have s5:=(aa hp4 (.lst [V.int 3,V.int 7,V.int 41,V.int (10 ^ aau 3),V.int (10 ^ aau 9),V.int (10 ^ aau 29)])).trans (aa hp5 (.lst [V.int 0,V.int 2,V.int (-1),V.int 5,V.int i1,V.int (0 - i1)]));refine aq ae hf2 ⟨av (s5 _ _ p3),by show (3:Nat)≤sizeLine;decide,λp6 hp6=>?_⟩;obtain ⟨f3,hf3,hm3⟩:=cg [V.str (Str.ofString "any"),V.str (Str.ofString "var"),V.int i2] (c / 5 % 3) (aai _ (by decide)) (by show c / 5 % 3 < 3;omega);obtain ⟨t3,a3⟩:isW f3∧arV f3=0:=by
     simp only[aag,aa4,or_false] at hm3;rcases hm3 with rfl | rfl | rfl
     ·exact ⟨⟨Sum.inr _,rfl⟩,nz⟩
     ·exact ⟨⟨Sum.inr _,rfl⟩,ni⟩
     ·exact ⟨⟨Sum.inl _,rfl⟩,rfl⟩
    exact aq ae hf3 (app f3 _ ((due:Int) - 1) l' t3 (by rw[a3];omega) (by rw[a3];omega) (.inl rfl) (s5.trans (aa hp6 _)) _ _ _ _)
   ·have hm:=cg (kinds.map V.str) (c / 5 % (((kinds.map V.str).length:Nat):Int)) (aai _ (by rw[aa0];omega)) (aba _ (by rw[aa0];omega));obtain ⟨y,hy,hym⟩:=hm;obtain ⟨z,hz,rfl⟩:=List.mem_map.mp hym;have a0:arV (.str z)=0:=(hk z hz).1;have kn:inV (.str z) (kinds.map V.str)=true:=mh hym;exact ⟨av p3,_,.inr (SqT.of k3),by rw[aa0];omega,ao k3 hy (app (.str z) H3 ((due:Int) - 1) left ⟨Sum.inr z,rfl⟩ (by rw[a0];omega) (by rw[a0];omega) (.inr ⟨rfl,kn⟩) (ak.refl _) _ _ _ _)⟩
   ·have hm:=cg (kinds.map V.str) (c / 5 % (((kinds.map V.str).length:Nat):Int)) (aai _ (by rw[aa0];omega)) (aba _ (by rw[aa0];omega));obtain ⟨y,hy,hym⟩:=hm;obtain ⟨z,hz,rfl⟩:=List.mem_map.mp hym;have a0:arV (.str z)=0:=(hk z hz).1;have kn:inV (.str z) (kinds.map V.str)=true:=mh hym;exact ⟨av p3,_,.inr (SqT.of k3),by rw[aa0];omega,ao k3 hy (app (.str z) H3 ((due:Int) - 1) left ⟨Sum.inr z,rfl⟩ (by rw[a0];omega) (by rw[a0];omega) (.inr ⟨rfl,kn⟩) (ak.refl _) _ _ _ _)⟩
  ·have d0:due=0:=by omega
   subst d0;refine ⟨ws,.inl ⟨SqL.of hp',λt ht=>?_⟩⟩;have htn:=hS.free hD' ht;exact q t (n+1+ws.length) _ ws (hS.upd htn _) (by rw[af (ag hD' ht)];exact hD') (by omega) htn ae ⟨hw,hpd,by omega,by omega⟩
 ·intro σ H' Q1 Q2 hq h;simp only[vg,tOp,rI0,iy,tC,je,gn,tB] at h ⊢;obtain ⟨v,hv,i,j,e1,e2,k,e3,h⟩:=h;exact ⟨v,hv,i,j,e1,e2,k,e3,hq _ _ h⟩
noncomputable abbrev jd:Stmt:=top 32
theorem yt:ba ["kinds","shape","stack","deeds","free","back","at","word","count","read","turn","box"] ["kinds","shape"] (ah jd):=⟨rfl,rfl,rfl,by decide+kernel,rfl,by decide+kernel,by decide+kernel⟩
theorem Fi (G:Gs w K mg κ) (D:Def K mg "_law_deeds" jd ["kinds","shape"]):Has P w K mg base (k+1) "_law_deeds" ["kinds","shape"] (mi K):=by
 refine D.has yt (λvs H Q E h=>?_) (λf cdv A outer s H vs Q E hr h=>?_)
 ·obtain ⟨_,_,_,_,rfl,_,_,_,_,_⟩:=h;rfl
 have nd:=yt.nd;have hu:=cv hr;have hu0:=aaj hu;obtain ⟨kt,st,kinds,sh,rfl,hK,hS,hk,ok,q⟩:=h;have m_int:=G.m_int;have m_isinstance:=G.m_isinstance;have m_len:=G.m_len;have m_range:=G.m_range;have m_str:=G.m_str;have m_tuple:=G.m_tuple;refine ⟨_,(A5 (A6 2 nd (AE (A3 0))) (A5 (A6 3 nd (AE (A3 0))) (A5 (A6 4 nd (AE (BF (AH (AH (AH (BG 0))))))) (A5 (BI (C6 m_range (A1 (AK (AU 0) m_len ck (A1 (A0 1) (A3 0))) (A3 0))) (AW 5 nd (by first | exact ab8 rfl | exact abc rfl)) (A5 (A6 6 nd (A4 (AY 0) (A4 (AY 0) (AK (AU 0) m_len ck (A1 (A0 1) (A3 0))) (A2 0)) (A0 5))) (A5 (CF 7 nd (A8 (AF 0) (A0 1) (A0 6))) (A5 (A6 8 nd (AX (@uq _) m_str y9 (A1 (AK (AU 0) m_len ck (A1 (C7 (BT ["one"] ["word","kinds"] [7,0] (aas rfl (aas rfl trivial)) (aas (aas rfl (aas rfl rfl)) (aas (aas rfl (aas rfl rfl)) trivial))) (BJ (AZ (BO 0) (A0 1) (B0 0) (B7 (A4 (AL 0) (A0 6) (A2 0))))) (λ_ _ _=>(BP 0 (show abp (["one","word","kinds"]:List Str) by decide+kernel))) (λ_ _ _=>(C2 (BB (CG (AA (AM 0) (A0 0) (AS 1) (A9 0)) (@rn _ _ _ _ (BB (BN (BL (@jg _ K rfl) (AS 1) (AS 2)) (BQ (BL (@jg _ K rfl) (A0 0) (AS 2)))))))))) (λ_ _ _=>(A0 0))) (A3 0))) (A3 0)))) (A5 (AB (BL (BW 0) (AS 7) (AS 0)) (A5 (AR (AT PySem.F.plainAttrs_list PySem.F.slot_list_append PySem.F.type_list_append (AV 0) (A0 2) (A1 (A4 (BU 0) (AI 0) (A0 8)) (A3 0)))) (A7 (@vf _ _))) (AG 0)) (A5 (A6 9 nd (AE (A3 0))) (A5 (BI (C6 m_range (A1 (A4 (AL 0) (AX (@eo _) m_int lq (A1 (@t5 _ _ _ _ _ _ _ _ (BW 0) (AS 7) (AE (BF (AH (AH (AH (AH (BG 0))))))) (by with_unfolding_all rfl)) (A3 0))) (AX (@eo _) m_int lq (A1 (@t5 _ _ _ _ _ _ _ _ (BW 0) (AS 7) (AE (BF (AH (AH (AH (BG 0)))))) (by with_unfolding_all rfl)) (A3 0)))) (A3 0))) (AW 10 nd (by first | exact ab8 rfl | exact abc rfl)) (A7 (AR (AT PySem.F.plainAttrs_list PySem.F.slot_list_append PySem.F.type_list_append (AV 0) (A0 9) (A1 (C3 PySem.F.plainAttrs_list PySem.F.slot_list_pop PySem.F.type_list_pop (@jj _) (A0 2)) (A3 0)))))) (A5 (AR (AT PySem.F.plainAttrs_list PySem.F.slot_list_extend PySem.F.type_list_extend (@iq _) (A0 4) (A1 (C7 (BT ["box"] [] [] trivial trivial) (@ma _ _ _ _ (A0 9)) (λ_ _ _=>(BP 0 (show abp (["box"]:List Str) by decide+kernel))) (λ_ _ _=>(C2 (AA (AM 0) (A8 (@ij _) (A0 0) (A2 0)) (AI 0) (A9 0)))) (λ_ _ _=>(A0 0))) (A3 0)))) (A5 (A6 11 nd (AI 0)) (BK (AB (AA (BD 0) (A0 6) (A2 0) (A9 0)) (A7 (A6 11 nd (C3 PySem.F.plainAttrs_list PySem.F.slot_list_pop PySem.F.type_list_pop (@jj _) (A0 4)))) (AG 0)) (BK (AB (AA (AM 0) (AS 7) (AI 0) (A9 0)) (A7 (AR (AT PySem.F.plainAttrs_list PySem.F.slot_list_append PySem.F.type_list_append (AV 0) (A0 3) (A1 (AO (A1 (AI 0) (A1 (A0 11) (A1 (A4 (BU 0) (AI 0) (A0 8)) (A3 0))))) (A3 0))))) (A7 (AB (AA (AM 0) (AS 7) (AI 0) (A9 0)) (A7 (AR (AT PySem.F.plainAttrs_list PySem.F.slot_list_append PySem.F.type_list_append (AV 0) (A0 3) (A1 (AO (A1 (AI 0) (A1 (A0 11) (A1 (A4 (BU 0) (AI 0) (A0 8)) (A3 0))))) (A3 0))))) (A7 (AB (BM (AK (BZ 0) m_isinstance bj (A1 (AS 7) (A1 (BX m_int lq) (A3 0))))) (A7 (AR (AT PySem.F.plainAttrs_list PySem.F.slot_list_append PySem.F.type_list_append (AV 0) (A0 3) (A1 (AO (A1 (AI 0) (A1 (A0 11) (A1 (AS 7) (A3 0))))) (A3 0))))) (A7 (AR (AT PySem.F.plainAttrs_list PySem.F.slot_list_append PySem.F.type_list_append (AV 0) (A0 3) (A1 (A4 (BV 0) (AO (A1 (AS 7) (A1 (A0 11) (A3 0)))) (AX (BE 0) m_tuple cz (A1 (A0 9) (A3 0)))) (A3 0)))))))))) (A7 (AR (AT PySem.F.plainAttrs_list PySem.F.slot_list_append PySem.F.type_list_append (AV 0) (A0 2) (A1 (A0 11) (A3 0)))))))))))))))) (A5 (AB (AA (AM 0) (AK (AU 0) m_len ck (A1 (A0 3) (A3 0))) (A2 0) (A9 0)) (A7 (AD (AO (A1 (AO (BF (AH (AH (BY (BG 0)))))) (A1 (AO (BF (AH (AH (AH (AH (BG 0))))))) (A3 0)))))) (AG 0)) (A7 (AD (AX (BE 0) m_tuple cz (A1 (A0 3) (A3 0)))))))))),?_⟩;rw[show start ["kinds","shape","stack","deeds","free","back","at","word","count","read","turn","box"] [.ref kt,.ref st]=[some (.ref kt),some (.ref st),none,none,none,none,none,none,none,none,none,none] from rfl];clear hu hu0 nd hr;push_cast [and_true];have sz:=sizeLine_eq;have hlen:=ok.len;refine ⟨aaa _,λsp h1=>⟨aaa _,λdp h2=>⟨by show (3:Nat)≤sizeLine;decide,λfp h3=>?_⟩⟩⟩;have nsd:sp≠dp:=ag ae h2;have nsf:sp≠fp:=ag (aa h2 _ _ _ ae) h3;have ndf:dp≠fp:=ag ae h3;have S1:=aa h1 (.lst []);have fd:=S1.free h2;have S2:=S1.trans (aa h2 (.lst []));have ff:=S2.free h3;have S3:=S2.trans (aa h3 (.lst [V.str (Str.ofString "t3"),V.str (Str.ofString "t2"),V.str (Str.ofString "t1")]));have z3:=aa h3 (.lst [V.str (Str.ofString "t3"),V.str (Str.ofString "t2"),V.str (Str.ofString "t1")]) _ _ (aa h2 (.lst []) _ _ (ae (H:=H) (a:=sp) (o:=.lst [])));have d3:=aa h3 (.lst [V.str (Str.ofString "t3"),V.str (Str.ofString "t2"),V.str (Str.ofString "t1")]) _ _ (ae (H:=upd H sp (.lst [])) (a:=dp) (o:=.lst []));have f3:upd (upd (upd H sp (.lst [])) dp (.lst [])) fp (.lst [V.str (Str.ofString "t3"),V.str (Str.ofString "t2"),V.str (Str.ofString "t1")]) fp=some (.lst ([Str.ofString "t3",Str.ofString "t2",Str.ofString "t1"].map V.str)):=ae;generalize upd (upd (upd H sp (.lst [])) dp (.lst [])) fp (.lst [V.str (Str.ofString "t3"),V.str (Str.ofString "t2"),V.str (Str.ofString "t1")])=H3 at S3 z3 d3 f3 ⊢;refine ⟨sh,.inr (SqT.of (S3 _ _ hS)),by omega,by omega,?_⟩;rw[show ((sh.length:Nat):Int).toNat=sh.length by omega];obtain ⟨P1,eP1⟩:∃P1:Nat→L2.St→Hp→Prop,∀j σ H',P1 j σ H'↔∃(zs fs:List Str) (ds:List V) (v5 v6 v7 v8 v9 v10 v11:Option V),σ=[some (.ref kt),some (.ref st),some (.ref sp),some (.ref dp),some (.ref fp),v5,v6,v7,v8,v9,v10,v11]∧ak H H'∧H' sp=some (.lst (zs.map V.str))∧H' dp=some (.lst ds)∧H' fp=some (.lst (fs.map V.str))∧ds.length≤j∧DI kinds sh (sh.length - j) zs fs:=⟨_,λ_ _ _=>abm⟩;refine dm (lo:=0) P1 ((eP1 _ _ _).mpr ⟨[],_,[],none,none,none,none,none,none,none,rfl,S3,z3,d3,f3,aa5 _,DI.start ok⟩) ?_ ?_
 ·intro j σ H5 hj hh;refine ob10 ((eP1 _ _ _).mp hh) λzs fs ds v5 v6 v7 v8 v9 v10 v11 hh=>?_;have s5:=hh.2.1;have z5:=hh.2.2.1;have d5:=hh.2.2.2.1;have f5:=hh.2.2.2.2.1;have hdl:=hh.2.2.2.2.2.1;have di:=hh.2.2.2.2.2.2;obtain rfl:=hh.1;clear hh;obtain ⟨p,hp⟩:∃p,p+j+1=sh.length:=⟨sh.length - 1 - j,by omega⟩;rw[show sh.length - j=p+1 by omega] at di;have ej:(λ_:Unit=>sh.length - (j+1))=λ_=>p:=by funext _;omega
  have hpl:p < sh.length:=by omega
  have hv:sh[p]?=some sh[p]:=aa2 hpl;have hvw:=ok.w _ (ab1 hpl);have hat:atI sh (p:Int)=some sh[p]:=ay hv;generalize sh[p]=v at hv hvw hat;have fl:(kinds.map V.str).all eu=true:=List.all_eq_true.mpr λx hx=>by obtain ⟨z,_,rfl⟩:=List.mem_map.mp hx;rfl
  have zll:=yv _ _ di.pd;rw[aa0,aah] at zll;push_cast [and_true];refine ⟨sh,.inr (SqT.of (s5 _ _ hS)),?_⟩;rw[show ((sh.length:Int) - 1 - (0+(j:Int)))=(p:Int) by omega];refine ao (s5 _ _ hS) hat (yh (s5 _ _ hS) λa H6 s6 h6=>⟨a,rfl,⟨_,SqT.of h6⟩,λD hD=>?_⟩);have e6:(p:Int)+1=((p+1:Nat):Int):=by omega
  rw[e6,ow sh (p+1) (by omega)] at h6;have S6:=s5.trans s6;refine ph (λi ys=>True) (SqT.of h6) (by rw[aay];omega) hD trivial (λi x ys H1 G' K' hx hP hl2 hS' hG hK'=>?_) λys H7 hP hl2 s7 hD2=>?_
  ·have hxw:=ok.w x (abe (aad hx));have kk:=SqT.of (K:=K) (hS' _ _ (S6 _ _ hK));push_cast [rIn];exact ⟨hxw.sc2 hvw,bp (λ_=>hK' _ _ (ak.refl _) trivial) λ_=>⟨_,.inr kk,hvw.flat,fl,bp (λ_=>⟨_,.inr kk,hxw.flat,fl,bp (λ_=>hK' _ _ (ak.refl _) trivial) λ_=>hG _ (ak.refl _) trivial⟩) λ_=>hG _ (ak.refl _) trivial⟩⟩
  rw[aay] at hl2;have S7:=S6.trans s7;have z7:=s7 _ _ (s6 _ _ z5);have d7:=s7 _ _ (s6 _ _ d5);have f7:=s7 _ _ (s6 _ _ f5);obtain ⟨tx1,tx2⟩:=xa (n:=ys.length) (by omega);refine ⟨ys,.inl (SqL.of hD2),tx2,kt,_,rfl,.inr (SqT.of (S7 _ _ hK)),hvw.flat,fl,?_⟩;generalize yr (V.int (ys.length:Int))=tx at tx1 ⊢;clear hD hD2 hl2 tx2 s7 s6 h6 S6 hP;rw[show ∀x y:Bool,(if false=true then x else y)=y from λ_ _=>rfl];have h1l:(Str.ofString "h").length=1:=by decide+kernel
  cases hin:inV v (kinds.map V.str) with
  | true=>
   refine ifY rfl ?_;refine ⟨av z7,by omega,(bh (K:=K) z7 (by rw[aa0];omega) ?_).2⟩;push_cast [tCont];exact (eP1 _ _ _).mpr ⟨zs++[Str.ofString "h"++tx],fs,ds,_,_,_,_,_,_,_,rfl,S7.upd h1 _,by rw[ae,aa8];rfl,by rw[af nsd.symm];exact d7,by rw[af nsf.symm];exact f7,by omega,by rw[show sh.length - (j+1)=p from congrFun ej ()];exact di.hole hv (Fq hk hvw hin) (isT_h tx) (by rw[Str.length_append,h1l];omega)⟩
  | false=>
   refine ifN aab ?_;push_cast [and_true];refine ⟨aaa _,λrp hrp=>⟨by show (4:Nat)≤sizeLine;decide,λp1 hp1=>⟨p1,_,rfl,.inl (SqL.of ae),hvw.flat,rfl,by show (3:Nat)≤sizeLine;decide,λp2 hp2=>⟨p2,_,rfl,.inl (SqL.of ae),hvw.flat,rfl,?_⟩⟩⟩⟩;dsimp only;rw[show ∀x y:Bool,(if false=true then x else y)=y from λ_ _=>rfl,show ∀x y:Bool,(if false=true then x else y)=y from λ_ _=>rfl];have oc:=Bg hvw;rw[show ((if inV v [V.str (Str.ofString "add"),V.str (Str.ofString "sub"),V.str (Str.ofString "mul"),V.str (Str.ofString "neg")]=true then (1:Int) else 0)+if inV v [V.str (Str.ofString "add"),V.str (Str.ofString "sub"),V.str (Str.ofString "mul")]=true then 1 else 0)=(arV v:Int) from oc];have ar2:=ng v;refine ⟨by omega,by omega,?_⟩;rw[show ((arV v:Nat):Int).toNat=arV v by omega];have frp:=S7.free hrp;have nrs:rp≠sp:=(ag z7 hrp).symm;have nrd:rp≠dp:=(ag d7 hrp).symm;have nrf:rp≠fp:=(ag f7 hrp).symm;have q8:=(aa hrp (.lst [])).trans ((aa hp1 (.lst [V.str (Str.ofString "add"),V.str (Str.ofString "sub"),V.str (Str.ofString "mul"),V.str (Str.ofString "neg")])).trans (aa hp2 (.lst [V.str (Str.ofString "add"),V.str (Str.ofString "sub"),V.str (Str.ofString "mul")])));have r8:=aa hp2 (.lst [V.str (Str.ofString "add"),V.str (Str.ofString "sub"),V.str (Str.ofString "mul")]) _ _ (aa hp1 (.lst [V.str (Str.ofString "add"),V.str (Str.ofString "sub"),V.str (Str.ofString "mul"),V.str (Str.ofString "neg")]) _ _ (ae (H:=H7) (a:=rp) (o:=.lst [])));have S8:=S7.trans q8;have z8:=q8 _ _ z7;have d8:=q8 _ _ d7;have f8:=q8 _ _ f7;generalize upd (upd (upd H7 rp (.lst [])) p1 (.lst [V.str (Str.ofString "add"),V.str (Str.ofString "sub"),V.str (Str.ofString "mul"),V.str (Str.ofString "neg")])) p2 (.lst [V.str (Str.ofString "add"),V.str (Str.ofString "sub"),V.str (Str.ofString "mul")])=H8 at q8 r8 S8 z8 d8 f8 ⊢;obtain ⟨hale,_,_,_⟩:=di.less hv;obtain ⟨P2,eP2⟩:∃P2:Nat→L2.St→Hp→Prop,∀k σ H',P2 k σ H'↔∃v10:Option V,σ=[some (.ref kt),some (.ref st),some (.ref sp),some (.ref dp),some (.ref fp),some (.int (0+(j:Int))),some (.int (p:Int)),some v,some (.str tx),some (.ref rp),v10,v11]∧ak H H'∧H' sp=some (.lst ((zs.take (zs.length - k)).map V.str))∧H' rp=some (.lst ((zs.drop (zs.length - k)).reverse.map V.str))∧H' dp=some (.lst ds)∧H' fp=some (.lst (fs.map V.str)):=⟨_,λ_ _ _=>abm⟩;refine dm (lo:=0) P2 ?_ ?_ ?_
   ·refine (eP2 _ _ _).mpr ⟨v10,rfl,S8,?_,?_,d8,f8⟩
    ·rw[aci,abn];exact z8
    ·rw[aci,abw];exact r8
   ·intro k σ H9 hk9 hh;obtain ⟨w10,hh⟩:=(eP2 _ _ _).mp hh;have s9:=hh.2.1;have z9:=hh.2.2.1;have r9:=hh.2.2.2.1;have d9:=hh.2.2.2.2.1;have f9:=hh.2.2.2.2.2;obtain rfl:=hh.1;clear hh;push_cast [and_true];obtain ⟨m,hm⟩:∃m,m+1=zs.length - k:=⟨zs.length - k - 1,by omega⟩;rw[←hm] at z9 r9;have ek:(λ_:Unit=>zs.length - (k+1))=λ_=>m:=by funext _;omega
    have hml:m < zs.length:=by omega
    have et:zs.take (m+1)=zs.take m++[zs[m]]:=by rw[abf,aa2 hml];rfl
    have ed9:zs.drop m=zs[m]::zs.drop (m+1):=aat hml;rw[et,aa8] at z9;refine ⟨av r9,jb z9 (bh (K:=K) (by rw[af nrs];exact r9) (by rw[aa0,aae,aah];omega) ((eP2 _ _ _).mpr ⟨_,rfl,(s9.upd h1 _).upd frp _,by rw[show zs.length - (k+1)=m from congrFun ek (),af nrs.symm,ae],?_,by rw[af nrd.symm,af nsd.symm];exact d9,by rw[af nrf.symm,af nsf.symm];exact f9⟩)).2⟩;rw[show zs.length - (k+1)=m from congrFun ek (),ae,ed9,ac1,aa8];rfl
   ·intro σ H9 hh;obtain ⟨w10,hh⟩:=(eP2 _ _ _).mp hh;have s9:=hh.2.1;have z9:=hh.2.2.1;have r9:=hh.2.2.2.1;have d9:=hh.2.2.2.2.1;have f9:=hh.2.2.2.2.2;obtain rfl:=hh.1;clear hh;obtain ⟨rd,hrd⟩:∃rd,rd=zs.drop (zs.length - arV v):=⟨_,rfl⟩;obtain ⟨zs0,hz0⟩:∃zs0,zs0=zs.take (zs.length - arV v):=⟨_,rfl⟩;rw[←hrd] at r9;rw[←hz0] at z9;have ezs:zs=zs0++rd:=by rw[hrd,hz0,ac4]
    have rdl:rd.length=arV v:=by rw[hrd,aah];omega
    obtain ⟨dp1,dp2,dp3⟩:=di.put hk ok hv hin ezs rdl;push_cast [and_true];refine ⟨av f9,⟨_,SqL.of r9⟩,λD hD=>?_⟩;refine yo (λi ys=>ys=((rd.reverse.take i).filter isT).map V.str) (SqL.of r9) (by rw[aa0,aae];omega) hD rfl (λi x ys H1 G' K' hx hP hl2 hS' hG hK'=>?_) λys H10 hP hl2 s10 hD2=>?_
    ·rw[aa7] at hx;obtain ⟨z,hz,rfl⟩:=Option.map_eq_some_iff.mp hx;have hzr:z∈rd:=List.mem_reverse.mp (aad hz);obtain ⟨zl1,zl2⟩:=di.zl z (by rw[ezs];exact aar _ hzr);obtain ⟨c,hc,hct⟩:=Fg zl1;have tk:rd.reverse.take (i+1)=rd.reverse.take i++[z]:=by rw[abf,hz];rfl
     push_cast [rIxS];refine ⟨by omega,c,hc,rfl,bp (λe=>hK' _ _ (ak.refl _) ?_) λe=>hG _ (ak.refl _) ?_⟩
     ·have e':isT z=true:=hct.mp (by rw[e]);rw[tk,ab9,aa8,hP,aav,e'];rfl
     ·have e':isT z=false:=Bool.eq_false_iff.mpr λe2=>e (V.str.inj (hct.mpr e2));rw[tk,ab9,aa8,hP,aav,e'];show _=_++[]
      rw[abk]
    ·rw[aa0,abn] at hP;obtain ⟨gs,hgs⟩:∃gs,gs=rd.reverse.filter isT:=⟨_,rfl⟩;rw[←hgs] at hP;have gl:gs.length=tc rd:=by rw[hgs];unfold tc;rw[List.filter_reverse,aae]
     have gt:∀y∈gs,isT y=true∧1≤y.length∧y.length≤100:=λy hy=>by
      rw[hgs] at hy;obtain ⟨y1,y2⟩:=List.mem_filter.mp hy;exact ⟨y2,di.zl y (by rw[ezs];exact aar _ (List.mem_reverse.mp y1))⟩
     have tl:tc rd≤rd.length:=ab7 _ _;have fl3:fs.length≤3:=by have:=di.three;omega
     subst hP;refine ⟨fp,D,fs.map V.str,gs.map V.str,rfl,rfl,s10 _ _ f9,hD2,by rw[aa0,aa0];omega,?_⟩;have S11:=(s9.trans s10).upd ff (.lst (fs.map V.str++gs.map V.str));have z11:upd H10 fp (.lst (fs.map V.str++gs.map V.str)) sp=some (.lst (zs0.map V.str)):=by rw[af nsf];exact s10 _ _ z9
     have r11:upd H10 fp (.lst (fs.map V.str++gs.map V.str)) rp=some (.lst (rd.reverse.map V.str)):=by rw[af nrf];exact s10 _ _ r9
     have d11:upd H10 fp (.lst (fs.map V.str++gs.map V.str)) dp=some (.lst ds):=by rw[af ndf];exact s10 _ _ d9
     have f11:upd H10 fp (.lst (fs.map V.str++gs.map V.str)) fp=some (.lst ((fs++gs).map V.str)):=by rw[ae,aa8]
     generalize upd H10 fp (.lst (fs.map V.str++gs.map V.str))=H11 at S11 z11 r11 d11 f11 ⊢;have ft:∀y∈fs++gs,isT y=true∧1≤y.length∧y.length≤100:=λy hy=>by
      rcases List.mem_append.mp hy with g | g
      ·exact di.fl y g
      ·exact gt y g
     have fgl:(fs++gs).length=fs.length+tc rd:=by rw[aa1,gl]
     generalize fs++gs=fg at f11 ft fgl;refine df (λσ' H12=>∃(box:Str) (fs2:List Str),σ'=[some (.ref kt),some (.ref st),some (.ref sp),some (.ref dp),some (.ref fp),some (.int (0+(j:Int))),some (.int (p:Int)),some v,some (.str tx),some (.ref rp),w10,some (.str box)]∧ak H H12∧H12 sp=some (.lst (zs0.map V.str))∧H12 rp=some (.lst (rd.reverse.map V.str))∧H12 dp=some (.lst ds)∧H12 fp=some (.lst (fs2.map V.str))∧DI kinds sh p (zs0++[box]) fs2) ?_ ?_
     ·push_cast [and_true];refine bp (λp0=>?_) λp0=>⟨S11,z11,r11,d11,fg,f11,dp2 _ fg fgl Hl (by decide+kernel) (by decide+kernel) ft⟩;have ne:fg≠[]:=by
       intro e;rw[e] at fgl;have:=dp3 (by omega);simp at fgl;omega
      have ec:fg.dropLast++[fg.getLast ne]=fg:=ad3 ne;rw[←ec,aa8] at f11;have hb:=ft _ (List.getLast_mem ne);have el:fg.dropLast.length+1=fg.length:=by rw[acu];have:=List.length_pos_iff.mpr ne;omega
      refine jb f11 ⟨_,rfl,S11.upd ff _,by rw[af nsf];exact z11,by rw[af nrf];exact r11,by rw[af ndf];exact d11,fg.dropLast,ae,?_⟩;exact dp1 _ _ (by omega) hb.1 hb.2.1 hb.2.2 λy hy=>ft y ((List.dropLast_sublist fg).subset hy)
     rintro _ H12 ⟨box,fs2,rfl,s12,z12,r12,d12,f12,di12⟩;have hbl:=di12.zl box (aar _ aal);refine df (λσ' H13=>∃ds2:List V,σ'=[some (.ref kt),some (.ref st),some (.ref sp),some (.ref dp),some (.ref fp),some (.int (0+(j:Int))),some (.int (p:Int)),some v,some (.str tx),some (.ref rp),w10,some (.str box)]∧ak H H13∧H13 sp=some (.lst (zs0.map V.str))∧H13 dp=some (.lst ds2)∧H13 fp=some (.lst (fs2.map V.str))∧ds2.length≤j+1) ?_ ?_
     ·push_cast [and_true];have nl1:(Str.ofString "n").length=1:=by decide+kernel
      have vl1:(Str.ofString "v").length=1:=by decide+kernel
      have app:∀(y:V) (H':Hp),ak H12 H'→jo (.ref dp) [y] H' λ_ H1=>ak H H1∧H1 sp=some (.lst (zs0.map V.str))∧∃x:List V,H1 dp=some (.lst x)∧H1 fp=some (.lst (fs2.map V.str))∧x.length≤j+1:=λy H' s'=>
       (bh (K:=K) (s' _ _ d12) (by omega) ⟨(s12.trans s').upd fd _,by rw[af nsd];exact s' _ _ z12,ds++[y],ae,by rw[af ndf.symm];exact s' _ _ f12,by rw[aa1,aa9];omega⟩).2
      refine ⟨hvw.sc _,bp (λ_=>⟨av d12,by omega,by show (3:Nat)≤sizeLine;decide,λp3 hp3=>app _ _ (aa hp3 _)⟩) λ_=>⟨hvw.sc _,bp (λ_=>⟨av d12,by omega,by show (3:Nat)≤sizeLine;decide,λp3 hp3=>app _ _ (aa hp3 _)⟩) λ_=>?_⟩⟩;obtain ⟨k',rfl⟩:=hvw;cases k' with
      | inl i0=>exact ⟨_,.int i0,true,rfl,o8 ⟨av d12,by show (3:Nat)≤sizeLine;decide,λp3 hp3=>app _ _ (aa hp3 _)⟩⟩
      | inr z0=>exact ⟨_,.str z0,false,rfl,uj ⟨av d12,by show (2:Nat)≤sizeLine;decide,λp3 hp3=>⟨_,.inl ⟨SqL.of (aa hp3 _ _ _ r12),λl hl=>va (aa hl _ _ _ ae) ae (by rw[aa0,aae];show 2+rd.length≤_;omega) λb H14 s14 h14=>app _ _ ((aa hp3 _).trans ((aa hl _).trans s14))⟩⟩⟩⟩
     ·rintro _ H13 ⟨ds2,rfl,s13,z13,d13,f13,hd13⟩;push_cast [and_true];have z0l:zs0.length≤zs.length:=by rw[hz0,aay];omega
      exact bh z13 (by rw[aa0];omega) ((eP1 _ _ _).mpr ⟨zs0++[box],fs2,ds2,_,_,_,_,_,_,_,rfl,s13.upd h1 _,by rw[ae,aa8];rfl,by rw[af nsd.symm];exact d13,by rw[af nsf.symm];exact f13,hd13,by rw[show sh.length - (j+1)=p from congrFun ej ()];exact di12⟩)
 ·intro σ H5 hh;refine ob10 ((eP1 _ _ _).mp hh) λzs fs ds v5 v6 v7 v8 v9 v10 v11 hh=>?_;have s5:=hh.2.1;have z5:=hh.2.2.1;have d5:=hh.2.2.2.1;have f5:=hh.2.2.2.2.1;have hdl:=hh.2.2.2.2.2.1;have di:=hh.2.2.2.2.2.2;obtain rfl:=hh.1;clear hh;push_cast [and_true];refine ⟨ds,.inl (SqL.of d5),rfl,bp (λ_=>⟨by show (3:Nat)≤sizeLine;decide,λp1 hp1=>⟨by show (4:Nat)≤sizeLine;decide,λp2 hp2=>⟨by show (2:Nat)≤sizeLine;decide,λp3 hp3=>?_⟩⟩⟩) λ_=>⟨ds,.inl ⟨SqL.of d5,λl hl=>q l _ _ (s5.trans (aa hl _)) ae⟩⟩⟩;exact q p3 _ _ (((s5.trans (aa hp1 _)).trans (aa hp2 _)).trans (aa hp3 _)) ae
noncomputable abbrev nq:Stmt:=top 33
theorem Cy:ba ["deck","names","cell","many","drawn","kinds","first","shapes","k","one","shape","rules","kind","price","at"] ["deck","names"] (ah nq):=⟨rfl,rfl,rfl,by decide+kernel,rfl,by decide+kernel,by decide+kernel⟩
theorem Hw (G:Gs w K mg κ) (h_law_deeds:Has P w K mg base k "_law_deeds" ["kinds","shape"] (mi K)) (h_law_next:Has P w K mg base k "_law_next" ["deck"] fi) (h_law_shape:Has P w K mg base k "_law_shape" ["deck","kinds"] mf) (D:Def K mg "_law_book" nq ["deck","names"]):Has P w K mg base (k+1) "_law_book" ["deck","names"] rq:=by
 refine D.has Cy (λvs H Q E h=>?_) (λf cdv A outer s H vs Q E hr h=>?_)
 ·obtain ⟨_,_,_,_,_,_,rfl,_,_,_,_⟩:=h;rfl
 have nd:=Cy.nd;have hu:=cv hr;have hu0:=aaj hu;obtain ⟨d,nl,b,ns,zs,n,rfl,hD,hN,hn,q⟩:=h;have m_len:=G.m_len;have m_range:=G.m_range;have m_tuple:=G.m_tuple;refine ⟨_,(A5 (CF 2 nd (AJ h_law_next hr (A1 (A0 0) (A3 0)))) (A5 (A6 3 nd (A4 (AL 0) (A2 0) (A4 (AC 0) (AS 2) (A2 0)))) (A5 (A6 4 nd (A4 (AL 0) (A2 0) (A4 (AC 0) (A4 (AQ 0) (AS 2) (A2 0)) (A2 0)))) (BK (AB (AA (AM 0) (A4 (AC 0) (A4 (AQ 0) (AS 2) (A2 0)) (A2 0)) (A2 0) (A9 0)) (A5 (A6 3 nd (A4 (AL 0) (A2 0) (A4 (AC 0) (A4 (AQ 0) (AS 2) (A2 0)) (A2 0)))) (A7 (A6 4 nd (A2 0)))) (AG 0)) (A5 (A6 5 nd (AX (BE 0) m_tuple cz (A1 (AZ (@lz _) (A0 1) (B0 0) (B7 (A0 3))) (A3 0)))) (A5 (A6 6 nd (A8 (AF 0) (A0 5) (A2 0))) (BK (CF 7 nd (AE (A1 (AO (A1 (A0 6) (A1 (AO (A1 (AI 0) (A3 0))) (A3 0)))) (A1 (AO (A1 (A0 6) (A1 (AO (A1 (AI 0) (A3 0))) (A3 0)))) (A1 (AO (A1 (A0 6) (A1 (AO (A1 (AI 0) (A1 (A0 6) (A1 (A0 6) (A3 0))))) (A3 0)))) (A1 (AO (A1 (A0 6) (A1 (AO (A1 (AI 0) (A1 (A0 6) (A3 0)))) (A3 0)))) (A3 0))))))) (A5 (CF 7 nd (C7 (BT ["k"] ["cell","shapes"] [2,7] (aas rfl (aas rfl trivial)) (aas (aas rfl (aas rfl rfl)) (aas (aas rfl (aas rfl rfl)) trivial))) (C6 m_range (A1 (A2 0) (A3 0))) (λ_ _ _=>(BP 0 (show abp (["k","cell","shapes"]:List Str) by decide+kernel))) (λ_ _ _=>(C2 (AA (@Co _) (A4 (AC 0) (A4 (AQ 0) (A4 (AQ 0) (AS 1) (A2 0)) (A8 (@vk _ K rfl) (AE (BF (BY (BY (BY (BY (BG 0))))))) (A0 0))) (A2 0)) (A2 0) (A9 0)))) (λ_ _ _=>(A8 (@vk _ K rfl) (AS 2) (A0 0))))) (A5 (BI (C6 m_range (A1 (A0 4) (A3 0))) (AW 8 nd (by first | exact ab8 rfl | exact abc rfl)) (A5 (A6 9 nd (AJ h_law_next hr (A1 (A0 0) (A3 0)))) (A5 (A6 10 nd (AJ h_law_shape hr (A1 (A0 0) (A1 (A0 5) (A3 0))))) (BK (AB (AA (AM 0) (A4 (AC 0) (A0 9) (A2 0)) (A2 0) (A9 0)) (A7 (A6 10 nd (AO (A1 (A8 (AF 0) (A0 5) (A4 (AC 0) (A4 (AQ 0) (A0 9) (A2 0)) (AK (AU 0) m_len ck (A1 (A0 5) (A3 0))))) (A3 0))))) (AG 0)) (A7 (AR (AT PySem.F.plainAttrs_list PySem.F.slot_list_append PySem.F.type_list_append (AV 0) (AS 7) (A1 (AO (A1 (A8 (AF 0) (A0 5) (A4 (AC 0) (A4 (AQ 0) (A0 9) (A2 0)) (AK (AU 0) m_len ck (A1 (A0 5) (A3 0))))) (A1 (A0 10) (A3 0)))) (A3 0))))))))) (A5 (A6 11 nd (AE (A3 0))) (A5 (BI (@ma _ _ _ _ (AS 7)) (CH 2 (BR (AW 12 nd (by first | exact ab8 rfl | exact abc rfl)) (BR (AW 10 nd (by first | exact ab8 rfl | exact abc rfl)) (@kc _)))) (A5 (A6 9 nd (AJ h_law_next hr (A1 (A0 0) (A3 0)))) (A5 (A6 13 nd (A8 (AN 0) (AE (A1 (A4 (AL 0) (A2 0) (A4 (AC 0) (A4 (AQ 0) (A0 9) (A2 0)) (A2 0))) (A1 (A4 (AL 0) (A2 0) (A4 (AC 0) (A4 (AQ 0) (A0 9) (A2 0)) (A2 0))) (A1 (A4 (AL 0) (A2 0) (A4 (AC 0) (A4 (AQ 0) (A0 9) (A2 0)) (A2 0))) (A3 0))))) (A4 (AC 0) (A0 9) (A2 0)))) (A7 (AR (AT PySem.F.plainAttrs_list PySem.F.slot_list_append PySem.F.type_list_append (AV 0) (A0 11) (A1 (AO (A1 (A8 (AN 0) (A0 1) (A4 (AL 0) (A2 0) (AK (AU 0) m_len ck (A1 (A0 11) (A3 0))))) (A1 (A0 12) (A1 (A0 13) (A1 (A0 10) (A1 (AJ h_law_deeds hr (A1 (A0 5) (A1 (A0 10) (A3 0)))) (A3 0))))))) (A3 0)))))))) (A5 (A6 14 nd (A4 (AC 0) (A4 (AQ 0) (AS 2) (A2 0)) (AK (AU 0) m_len ck (A1 (A0 11) (A3 0))))) (A7 (AD (AO (A1 (A0 5) (A1 (AX (BE 0) m_tuple cz (A1 (A4 (@B4 _) (AZ (@lz _) (A0 11) (B7 (A0 14)) (B0 0)) (AZ (@lz _) (A0 11) (B0 0) (B7 (A0 14)))) (A3 0))) (A3 0)))))))))))))))))),?_⟩;rw[show start ["deck","names","cell","many","drawn","kinds","first","shapes","k","one","shape","rules","kind","price","at"] [.ref d,.ref nl]=[some (.ref d),some (.ref nl),none,none,none,none,none,none,none,none,none,none,none,none,none] from rfl];clear hu hu0 nd hr;push_cast [and_true];have sz:=sizeLine_eq;refine ik hD (by omega) λc H1 s1 d1=>?_;push_cast [and_true];have D1:=hD.next s1 d1
 have N1:=hN.dz hD s1;refine df (λσ' H2=>∃many drawn:Nat,σ'=[some (.ref d),some (.ref nl),some (.int c),some (.int (many:Int)),some (.int (drawn:Int)),none,none,none,none,none,none,none,none,none,none]∧H1=H2∧1≤many∧many≤8∧3≤drawn∧drawn≤36) ?_ ?_
 ·push_cast [and_true];refine ⟨rfl,bp (λe=>⟨(1+c / 448 % 8).toNat,by omega,36,by rfl,by omega,by omega,by decide,by decide⟩) λe=>⟨(1+c % 3).toNat,by omega,(3+c / 7 % 8).toNat,by omega,by omega,by omega,by omega,by omega⟩⟩
 rintro _ _ ⟨many,drawn,rfl,rfl,m1,m2,r1,r2⟩;push_cast [and_true];have ct:fu (zs.map V.str) none (some (many:Int))=(zs.take many).map V.str:=by rw[ow _ many (by rw[aa0,hN.2.1];omega),ad7]
 refine ⟨zs.map V.str,SqL.of N1.1,λp1 hp1=>?_⟩;rw[ct];refine ⟨_,.inl ⟨SqL.of ae,λkt hkt=>?_⟩⟩;obtain ⟨kinds,hkd⟩:∃kinds,kinds=zs.take many:=⟨_,rfl⟩;rw[←hkd];have kl:kinds.length=many:=by rw[hkd,aay,hN.2.1];omega
 have hk:Kinds kinds:=λz hz=>hN.2.2.2 z (abe (by rw[←hkd];exact hz));have q2:=(aa hp1 (.lst (kinds.map V.str))).trans (aa (by rw[←hkd] at hkt;exact hkt) (.tup (kinds.map V.str)));rw[←hkd] at hkt;have S2:au d H (upd (upd H1 p1 (.lst (kinds.map V.str))) kt (.tup (kinds.map V.str))):=s1.trans (au.of q2);have d2:=q2 _ _ d1;have k2:upd (upd H1 p1 (.lst (kinds.map V.str))) kt (.tup (kinds.map V.str)) kt=some (.tup (kinds.map V.str)):=ae;have N2:=N1.same q2;generalize upd (upd H1 p1 (.lst (kinds.map V.str))) kt (.tup (kinds.map V.str))=H2 at S2 d2 k2 N2 q2 ⊢;obtain ⟨z0,hz0,hk0⟩:∃z,atI (kinds.map V.str) 0=some (.str z)∧z∈kinds:=by
  cases kinds with
  | nil=>simp at kl;omega
  | cons z r=>exact ⟨z,ay (j:=0) rfl,aal⟩
 refine ao k2 hz0 ?_;refine df (λσ' I9=>∃sl b1 b2 b3 b4:Addr,σ'=[some (.ref d),some (.ref nl),some (.int c),some (.int (many:Int)),some (.int (drawn:Int)),some (.ref kt),some (.str z0),some (.ref sl),none,none,none,none,none,none,none]∧ak H2 I9∧I9 sl=some (.lst [V.ref b1,V.ref b2,V.ref b3,V.ref b4])∧∀k':Nat,k' < 4→∃(a s:Addr) (sh:List V),atI [V.ref b1,V.ref b2,V.ref b3,V.ref b4] (k':Int)=some (.ref a)∧I9 a=some (.tup [.str z0,.ref s])∧I9 s=some (.tup sh)∧g7 kinds sh) ?_ λσ' I9 hh=>?_
 ·push_cast [and_true];refine ⟨by show (1:Nat)≤sizeLine;decide,λa1 ha1=>?_⟩;have sa1:=aa ha1 (.tup [V.str (Str.ofString "any")]);have ea1:upd H2 a1 (.tup [V.str (Str.ofString "any")]) a1=some (.tup [V.str (Str.ofString "any")]):=ae;generalize upd H2 a1 (.tup [V.str (Str.ofString "any")])=I1 at sa1 ea1 ⊢;refine ⟨by show (2:Nat)≤sizeLine;decide,λb1 hb1=>?_⟩;have sb1:=aa hb1 (.tup [V.str z0,V.ref a1]);have eb1:upd I1 b1 (.tup [V.str z0,V.ref a1]) b1=some (.tup [V.str z0,V.ref a1]):=ae;generalize upd I1 b1 (.tup [V.str z0,V.ref a1])=I2 at sb1 eb1 ⊢;refine ⟨by show (1:Nat)≤sizeLine;decide,λa2 ha2=>?_⟩;have sa2:=aa ha2 (.tup [V.str (Str.ofString "var")]);have ea2:upd I2 a2 (.tup [V.str (Str.ofString "var")]) a2=some (.tup [V.str (Str.ofString "var")]):=ae;generalize upd I2 a2 (.tup [V.str (Str.ofString "var")])=I3 at sa2 ea2 ⊢;refine ⟨by show (2:Nat)≤sizeLine;decide,λb2 hb2=>?_⟩;have sb2:=aa hb2 (.tup [V.str z0,V.ref a2]);have eb2:upd I3 b2 (.tup [V.str z0,V.ref a2]) b2=some (.tup [V.str z0,V.ref a2]):=ae;generalize upd I3 b2 (.tup [V.str z0,V.ref a2])=I4 at sb2 eb2 ⊢;refine ⟨by show (3:Nat)≤sizeLine;decide,λa3 ha3=>?_⟩;have sa3:=aa ha3 (.tup [V.str (Str.ofString "add"),V.str z0,V.str z0]);have ea3:upd I4 a3 (.tup [V.str (Str.ofString "add"),V.str z0,V.str z0]) a3=some (.tup [V.str (Str.ofString "add"),V.str z0,V.str z0]):=ae;generalize upd I4 a3 (.tup [V.str (Str.ofString "add"),V.str z0,V.str z0])=I5 at sa3 ea3 ⊢;refine ⟨by show (2:Nat)≤sizeLine;decide,λb3 hb3=>?_⟩;have sb3:=aa hb3 (.tup [V.str z0,V.ref a3]);have eb3:upd I5 b3 (.tup [V.str z0,V.ref a3]) b3=some (.tup [V.str z0,V.ref a3]):=ae;generalize upd I5 b3 (.tup [V.str z0,V.ref a3])=I6 at sb3 eb3 ⊢;refine ⟨by show (2:Nat)≤sizeLine;decide,λa4 ha4=>?_⟩;have sa4:=aa ha4 (.tup [V.str (Str.ofString "neg"),V.str z0]);have ea4:upd I6 a4 (.tup [V.str (Str.ofString "neg"),V.str z0]) a4=some (.tup [V.str (Str.ofString "neg"),V.str z0]):=ae;generalize upd I6 a4 (.tup [V.str (Str.ofString "neg"),V.str z0])=I7 at sa4 ea4 ⊢;refine ⟨by show (2:Nat)≤sizeLine;decide,λb4 hb4=>?_⟩;have sb4:=aa hb4 (.tup [V.str z0,V.ref a4]);have eb4:upd I7 b4 (.tup [V.str z0,V.ref a4]) b4=some (.tup [V.str z0,V.ref a4]):=ae;generalize upd I7 b4 (.tup [V.str z0,V.ref a4])=I8 at sb4 eb4 ⊢;refine ⟨by show (4:Nat)≤sizeLine;decide,λsl hsl=>?_⟩;have ssl:=aa hsl (.lst [V.ref b1,V.ref b2,V.ref b3,V.ref b4]);have esl:upd I8 sl (.lst [V.ref b1,V.ref b2,V.ref b3,V.ref b4]) sl=some (.lst [V.ref b1,V.ref b2,V.ref b3,V.ref b4]):=ae;generalize upd I8 sl (.lst [V.ref b1,V.ref b2,V.ref b3,V.ref b4])=I9 at ssl esl ⊢;have u8:=sb4.trans ssl;have u7:=sa4.trans u8;have u6:=sb3.trans u7;have u5:=sa3.trans u6;have u4:=sb2.trans u5;have u3:=sa2.trans u4;have u2:=sb1.trans u3;have u1:=sa1.trans u2;have sh4:∀k':Nat,k' < 4→∃(a s:Addr) (sh:List V),atI [V.ref b1,V.ref b2,V.ref b3,V.ref b4] (k':Int)=some (.ref a)∧I9 a=some (.tup [.str z0,.ref s])∧I9 s=some (.tup sh)∧g7 kinds sh:=λk' hk'=>by
   rcases k' with _ | _ | _ | _ | k'
   ·exact ⟨b1,a1,_,ay rfl,u3 _ _ eb1,u2 _ _ ea1,Dq kinds⟩
   ·exact ⟨b2,a2,_,ay rfl,u5 _ _ eb2,u4 _ _ ea2,En kinds⟩
   ·exact ⟨b3,a3,_,ay rfl,u7 _ _ eb3,u6 _ _ ea3,Cz hk hk0⟩
   ·exact ⟨b4,a4,_,ay rfl,ssl _ _ eb4,u8 _ _ ea4,E9 hk hk0⟩
   ·omega
  exact ⟨u1,b1,b2,b3,b4,esl,λk' hk'=>by obtain ⟨a,s,sh,h1,h2,h3,h4⟩:=sh4 k' hk';exact ⟨a,h1,s,h2,sh,h3,h4⟩⟩
 refine ob5 (hh) λsl b1 b2 b3 b4 hh=>?_;have u1:=hh.2.1;have esl:=hh.2.2.1;have sh4:=hh.2.2.2;obtain rfl:=hh.1;clear hh;have S9:au d H I9:=S2.trans (au.of u1);have d9:=u1 _ _ d2;have k9:=u1 _ _ k2;have N9:=N2.same u1;clear u1 q2 hkt N2 d2 k2 S2;push_cast [and_true];intro D hD';refine Cf (n:=4) (λj ys=>∃(sa:List Addr) (ps:List (Str×List V)),ys=sa.map V.ref∧dh I9 sa kinds ps∧ps.length≤j) (by omega) hD' ⟨[],[],rfl,dh.nil _ _,aa5 _⟩ (λj ys H3 G' K' hj hP hl2 hS' hG hK'=>?_) λys H3 hP hl2 hS' hD2=>?_
 ·obtain ⟨sa,ps,rfl,hsh,hpl⟩:=hP;obtain ⟨a,s,sh,g1,g2,g3,g4⟩:=sh4 j hj;obtain ⟨y,hy,hym⟩:=cg [V.int 1,V.int 3,V.int 9,V.int 27] (0+(j:Int)) (by omega) (by show 0+(j:Int) < 4;omega);obtain ⟨y',rfl,hy0,hy1⟩:∃y':Int,y=.int y'∧0 < y'∧y' < 1073741824:=by
   simp only[aag,aa4,or_false] at hym;rcases hym with rfl | rfl | rfl | rfl <;> exact ⟨_,rfl,by decide,by decide⟩
  push_cast [ke];refine ⟨by show (4:Nat)≤sizeLine;decide,λp4 hp4=>aq ae hy ⟨hy0,hy1,rfl,bp (λe=>?_) λe=>hG _ (aa hp4 _) ⟨sa,ps,rfl,hsh,by omega⟩⟩⟩;refine aq (aa hp4 _ _ _ (hS' _ _ esl)) (by rw[show (0+(j:Int))=((j:Nat):Int) by omega];exact g1) (hK' _ _ (aa hp4 _) ⟨sa++[a],ps++[(z0,sh)],by rw[aa8];rfl,hsh.snoc ⟨g4,hk0⟩ g2 g3,by rw[aa1,aa9];omega⟩)
 ·obtain ⟨sa,ps,rfl,hsh,hpl⟩:=hP;have S10:=S9.trans (au.of hS');have d10:=hS' _ _ d9;have k10:=hS' _ _ k9;have N10:=N9.same hS';have hsh10:=hsh.same hS';have fD:=S9.free d9 hD';have nDd:D≠d:=(ag d9 hD').symm;have nt:∀{a:Addr} {xs:List V} {H':Hp} {n':Nat},H' d=some (.lst [.ref b,.int (n':Int)])→H' a=some (.tup xs)→a≠d:=λh1 h2=>j5 h2 h1 (by intro e;cases e);refine ⟨by omega,by omega,?_⟩;rw[show ((drawn:Nat):Int).toNat=drawn by omega];obtain ⟨P1,eP1⟩:∃P1:Nat→L2.St→Hp→Prop,∀j σ H',P1 j σ H'↔∃(sa:List Addr) (ps:List (Str×List V)) (n':Nat) (v8 v9 v10:Option V),σ=[some (.ref d),some (.ref nl),some (.int c),some (.int (many:Int)),some (.int (drawn:Int)),some (.ref kt),some (.str z0),some (.ref D),v8,v9,v10,none,none,none,none]∧au d H H'∧H' d=some (.lst [.ref b,.int (n':Int)])∧n'≤n+1+13*j∧H' D=some (.lst (sa.map V.ref))∧H' kt=some (.tup (kinds.map V.str))∧bw H' nl zs∧dh H' sa kinds ps∧ps.length≤4+j∧j≤ps.length:=⟨_,λ_ _ _=>abm⟩;refine dm (lo:=0) P1 ((eP1 _ _ _).mpr ⟨sa,ps,n+1,none,none,none,rfl,S10,d10,by omega,hD2,k10,N10,hsh10,by omega,aaa _⟩) ?_ ?_
  ·intro j σ H5 hj hh;refine ob6 ((eP1 _ _ _).mp hh) λsa ps n' v8 v9 v10 hh=>?_;have s5:=hh.2.1;have d5:=hh.2.2.1;have hn5:=hh.2.2.2.1;have D5:=hh.2.2.2.2.1;have k5:=hh.2.2.2.2.2.1;have N5:=hh.2.2.2.2.2.2.1;have sh5:=hh.2.2.2.2.2.2.2.1;have pl5:=hh.2.2.2.2.2.2.2.2.1;have pj5:=hh.2.2.2.2.2.2.2.2.2;obtain rfl:=hh.1;clear hh;push_cast [and_true];refine ik (hD.next s5 d5) (by omega) λone H6 s6 d6=>?_;have S6:=s5.trans s6;have D6:=s6 D _ nDd D5;have k6:=s6 kt _ (nt d5 k5) k5;have N6:=N5.dz (hD.next s5 d5) s6;have sh6:=sh5.dz (hD.next s5 d5) s6;refine Ih (hD.next S6 d6) k6 hk (by omega) (by omega) (by omega) λt n2 H7 sh s7 d7 hn7 ht h7 ok7=>?_;push_cast [and_true];have Dk6:=hD.next S6 d6
   have S7:=S6.trans s7;have D7:=s7 D _ nDd D6;have k7:=s7 kt _ (nt d6 k6) k6;have N7:=N6.dz Dk6 s7;have sh7:=sh6.dz Dk6 s7;have kat:∀i:Int,∃z,atI (kinds.map V.str) (i % (((kinds.map V.str).length:Nat):Int))=some (.str z)∧z∈kinds:=λi=>by
    obtain ⟨y,hy,hym⟩:=cg (kinds.map V.str) (i % (((kinds.map V.str).length:Nat):Int)) (aai _ (by rw[aa0];omega)) (aba _ (by rw[aa0];omega));obtain ⟨z,hz,rfl⟩:=List.mem_map.mp hym;exact ⟨z,hy,hz⟩
   refine df (λσ' H8=>∃(t':Addr) (sh':List V),σ'=[some (.ref d),some (.ref nl),some (.int c),some (.int (many:Int)),some (.int (drawn:Int)),some (.ref kt),some (.str z0),some (.ref D),some (.int (0+(j:Int))),some (.int one),some (.ref t'),none,none,none,none]∧ak H7 H8∧H8 t'=some (.tup sh')∧g7 kinds sh') ?_ ?_
   ·push_cast [ke];refine ⟨rfl,bp (λe=>⟨_,.inr (SqT.of k7),by rw[aa0];omega,?_⟩) λe=>⟨ak.refl _,_,h7,ok7⟩⟩;obtain ⟨z,hz,hzk⟩:=kat (one / 5);exact ao k7 hz ⟨by show (1:Nat)≤sizeLine;decide,λt' ht'=>⟨aa ht' _,_,ae,Al hk hzk⟩⟩
   rintro _ H8 ⟨t',sh',rfl,s8,h8,ok8⟩;push_cast [ke];obtain ⟨z,hz,hzk⟩:=kat (one / 15);refine ⟨av (s8 _ _ D7),_,.inr (SqT.of (s8 _ _ k7)),by rw[aa0];omega,ao (s8 _ _ k7) hz ⟨by show (2:Nat)≤sizeLine;decide,λpr hpr=>?_⟩⟩;have s9:=s8.trans (aa hpr (.tup [V.str z,V.ref t']));have S9':=S7.trans (au.of s9);have e9:upd H8 pr (.tup [V.str z,V.ref t']) pr=some (.tup [V.str z,V.ref t']):=ae;have h9:=aa hpr (.tup [V.str z,V.ref t']) _ _ h8;generalize upd H8 pr (.tup [V.str z,V.ref t'])=H9 at s9 S9' e9 h9 ⊢;have sal:sa.length=ps.length:=sh5.1;have uD:ak H9 (upd H9 D (.lst (sa.map V.ref++[V.ref pr])))∨True:=.inr trivial;have tD:∀{a:Addr} {xs:List V},H9 a=some (.tup xs)→upd H9 D (.lst (sa.map V.ref++[V.ref pr])) a=some (.tup xs):=λh=>by rw[af (j5 h (s9 _ _ D7) (by intro e;cases e))];exact h
   have sh9:=(sh7.same s9).snoc ⟨ok8,hzk⟩ e9 h9;refine (bh (K:=K) (s9 _ _ D7) (by rw[aa0];omega) ((eP1 _ _ _).mpr ⟨sa++[pr],ps++[(z,sh')],n2,_,_,_,rfl,S9'.upd fD _,by rw[af nDd.symm];exact s9 _ _ d7,by omega,by rw[ae,aa8];rfl,tD (s9 _ _ k7),⟨?_,N7.2⟩,⟨sh9.1,λi k' s' hi=>?_⟩,by rw[aa1,aa9];omega,by rw[aa1,aa9];omega⟩)).2
   ·rw[af (ag hN.1 fD)];exact s9 _ _ N7.1
   ·obtain ⟨o1,a,t,x1,x2,x3⟩:=sh9.2 i k' s' hi;exact ⟨o1,a,t,x1,tD x2,tD x3⟩
  ·intro σ H5 hh;refine ob6 ((eP1 _ _ _).mp hh) λsa ps n' v8 v9 v10 hh=>?_;have s5:=hh.2.1;have d5:=hh.2.2.1;have hn5:=hh.2.2.2.1;have D5:=hh.2.2.2.2.1;have k5:=hh.2.2.2.2.2.1;have N5:=hh.2.2.2.2.2.2.1;have sh5:=hh.2.2.2.2.2.2.2.1;have pl5:=hh.2.2.2.2.2.2.2.2.1;have pj5:=hh.2.2.2.2.2.2.2.2.2;obtain rfl:=hh.1;clear hh;push_cast [and_true];refine ⟨aaa _,λrl hrl=>⟨⟨_,SqL.of (aa hrl _ _ _ D5)⟩,?_⟩⟩;have frl:=s5.free d5 hrl;have nrd:rl≠d:=(ag d5 hrl).symm;have S6:=s5.trans (au.of (aa hrl (.lst [])));have d6:=aa hrl (.lst []) _ _ d5;have D6:=aa hrl (.lst []) _ _ D5;have k6:=aa hrl (.lst []) _ _ k5;have N6:=N5.same (aa hrl (.lst []));have sh6:=sh5.same (aa hrl (.lst []));have r6:upd H5 rl (.lst []) rl=some (.lst []):=ae;have nrD:rl≠D:=(ag D5 hrl).symm;generalize upd H5 rl (.lst [])=H6 at S6 d6 D6 k6 N6 sh6 r6 ⊢;have sal:sa.length=ps.length:=sh5.1;obtain ⟨P2,eP2⟩:∃P2:Nat→L2.St→Hp→Prop,∀i σ H',P2 i σ H'↔∃(ra:List Addr) (rs:List Rl) (m:Nat) (w8 w9 w10 w12 w13:Option V),σ=[some (.ref d),some (.ref nl),some (.int c),some (.int (many:Int)),some (.int (drawn:Int)),some (.ref kt),some (.str z0),some (.ref D),w8,w9,w10,some (.ref rl),w12,w13,none]∧au d H H'∧H' d=some (.lst [.ref b,.int (m:Int)])∧m≤n'+i∧H' D=some (.lst (sa.map V.ref))∧H' kt=some (.tup (kinds.map V.str))∧bw H' nl zs∧dh H' sa kinds ps∧H' rl=some (.lst (ra.map V.ref))∧cu H' ra rs∧rs.length=i∧rs.map (·.name)=(zs.drop 8).take i∧∀r∈rs,g7 kinds r.shape∧1≤r.price∧r.kind∈kinds:=⟨_,λ_ _ _=>abm⟩;refine Bi (xs:=sa.map V.ref) P2 ((eP2 _ _ _).mpr ⟨[],[],n',v8,v9,v10,none,none,rfl,S6,d6,by omega,D6,k6,N6,sh6,r6,⟨rfl,λi r h=>by simp at h⟩,rfl,rfl,λ_ h=>nomatch h⟩) (λi σ H' _ h=>by obtain ⟨_,_,_,_,_,_,_,_,_,_,_,_,hd,_⟩:=(eP2 _ _ _).mp h;exact SqL.of hd) ?_ ?_
   ·intro i y σ H7 hy hh;refine ob8 ((eP2 _ _ _).mp hh) λra rs m w8 w9 w10 w12 w13 hh=>?_;have s7:=hh.2.1;have d7:=hh.2.2.1;have hm7:=hh.2.2.2.1;have D7:=hh.2.2.2.2.1;have k7:=hh.2.2.2.2.2.1;have N7:=hh.2.2.2.2.2.2.1;have sh7:=hh.2.2.2.2.2.2.2.1;have r7:=hh.2.2.2.2.2.2.2.2.1;have R7:=hh.2.2.2.2.2.2.2.2.2.1;have rl7:=hh.2.2.2.2.2.2.2.2.2.2.1;have nm7:=hh.2.2.2.2.2.2.2.2.2.2.2.1;have so7:=hh.2.2.2.2.2.2.2.2.2.2.2.2;obtain rfl:=hh.1;clear hh;rw[aa7] at hy;obtain ⟨ai,hai,rfl⟩:=Option.map_eq_some_iff.mp hy;have hil:i < ps.length:=by rw[←sal];exact (List.getElem?_eq_some_iff.mp hai).1
    obtain ⟨⟨ki,shi⟩,hpi⟩:∃t,ps[i]?=some t:=⟨_,aa2 hil⟩;obtain ⟨oki,a',si,x1,x2,x3⟩:=sh7.2 i ki shi hpi;obtain rfl:a'=ai:=aa6 (x1.symm.trans hai);have hD7:=hD.next s7 d7
    refine jw x2 rfl ?_;push_cast [and_true];refine ik hD7 (by omega) λone H8 s8 d8=>?_;push_cast [ke];refine ⟨by show (3:Nat)≤sizeLine;decide,λp hp=>?_⟩;obtain ⟨y,hy,hym⟩:=cg [V.int (1+one / 3 % 4),V.int (1+one / 3 % 30),V.int (1+one / 3 % 999999)] (one % 3) (aai _ (by decide)) (aba _ (by decide));obtain ⟨y',rfl,hy1⟩:∃y':Int,y=.int y'∧1≤y':=by
     simp only[aag,aa4,or_false] at hym;rcases hym with rfl | rfl | rfl <;> exact ⟨_,rfl,by omega⟩
    refine aq ae hy ?_;have S8:=s7.trans (s8.trans (au.of (aa hp (.lst [V.int (1+one / 3 % 4),V.int (1+one / 3 % 30),V.int (1+one / 3 % 999999)]))));have s8':=s8.trans (au.of (d:=d) (aa hp (.lst [V.int (1+one / 3 % 4),V.int (1+one / 3 % 30),V.int (1+one / 3 % 999999)])));have d8':=aa hp (.lst [V.int (1+one / 3 % 4),V.int (1+one / 3 % 30),V.int (1+one / 3 % 999999)]) _ _ d8;generalize upd H8 p (.lst [V.int (1+one / 3 % 4),V.int (1+one / 3 % 30),V.int (1+one / 3 % 999999)])=H9 at S8 s8' d8' ⊢;have r9:=s8' rl _ nrd r7;have D9:=s8' D _ nDd D7;have k9':=az hD7 s8' k7;have N9':=N7.dz hD7 s8';have sh9:=sh7.dz hD7 s8';have R9:=R7.keep (az hD7 s8');have x39:=az hD7 s8' x3;have ral:ra.length=i:=by rw[R7.1,rl7]
    have hzl:=hN.2.1;have hz8:zs[8+i]?=some zs[8+i]:=aa2 (by omega);refine ⟨av r9,_,.inl (SqL.of r9),aq (v:=.str zs[8+i]) N9'.1 ?_ (G3 k9' x39 hk oki.1 λt ds H10 s10 h10=>⟨by show (5:Nat)≤sizeLine;decide,λpr hpr=>?_⟩)⟩
    ·rw[aa0,ral,show (8:Int)+(i:Int)=((8+i:Nat):Int) by omega];exact ay (by rw[aa7,hz8];rfl)
    have e11:upd H10 pr (.tup [V.str zs[8+i],V.str ki,V.int y',V.ref si,V.ref t]) pr=some (.tup [V.str zs[8+i],V.str ki,V.int y',V.ref si,V.ref t]):=ae;have q11:=aa hpr (.tup [V.str zs[8+i],V.str ki,V.int y',V.ref si,V.ref t]);have s11:=s10.trans q11;have h11:=q11 _ _ h10;clear q11;generalize upd H10 pr (.tup [V.str zs[8+i],V.str ki,V.int y',V.ref si,V.ref t])=H11 at e11 s11 h11 ⊢;have S11:=S8.trans (au.of s11);have r11:=s11 _ _ r9;have R11:=(R9.same s11).snoc (r:=⟨zs[8+i],ki,y',shi⟩) ⟨si,t,ds,e11,s11 _ _ x39,h11⟩;have tD:∀{a:Addr} {xs:List V},H11 a=some (.tup xs)→upd H11 rl (.lst (ra.map V.ref++[V.ref pr])) a=some (.tup xs):=λh=>by rw[af (j5 h r11 (by intro e;cases e))];exact h
    refine (bh (K:=K) r11 (by rw[aa0];omega) ((eP2 _ _ _).mpr ⟨ra++[pr],rs++[⟨zs[8+i],ki,y',shi⟩],m+1,_,_,_,_,_,rfl,S11.upd frl _,by rw[af nrd.symm];exact s11 _ _ d8',by omega,by rw[af nrD.symm];exact s11 _ _ D9,tD (s11 _ _ k9'),⟨?_,hN.2⟩,(sh9.same s11).keep tD,by rw[ae,aa8];rfl,R11.keep tD,by rw[aa1,aa9,rl7],xy nm7 hz8,λr' hr'=>?_⟩)).2
    ·rw[af (ag hN.1 frl)];exact s11 _ _ N9'.1
    ·rcases List.mem_append.mp hr' with g | g
     ·exact so7 r' g
     ·rw[List.mem_singleton.mp g];exact ⟨oki.1,hy1,oki.2⟩
   ·intro σ H7 hh;refine ob8 ((eP2 _ _ _).mp hh) λra rs m w8 w9 w10 w12 w13 hh=>?_;have s7:=hh.2.1;have d7:=hh.2.2.1;have hm7:=hh.2.2.2.1;have D7:=hh.2.2.2.2.1;have k7:=hh.2.2.2.2.2.1;have N7:=hh.2.2.2.2.2.2.1;have sh7:=hh.2.2.2.2.2.2.2.1;have r7:=hh.2.2.2.2.2.2.2.2.1;have R7:=hh.2.2.2.2.2.2.2.2.2.1;have rl7:=hh.2.2.2.2.2.2.2.2.2.2.1;have nm7:=hh.2.2.2.2.2.2.2.2.2.2.2.1;have so7:=hh.2.2.2.2.2.2.2.2.2.2.2.2;obtain rfl:=hh.1;clear hh;push_cast [and_true];have ral:ra.length=rs.length:=R7.1;rw[aa0] at hm7 rl7 nm7;rw[←rl7] at nm7;have rsl:rs.length=ps.length:=by rw[rl7,sal]
    obtain ⟨at',hat,hlt⟩:∃a:Nat,c / 11 % (((ra.map V.ref).length:Nat):Int)=(a:Int)∧a < ra.length:=⟨(c / 11 % (((ra.map V.ref).length:Nat):Int)).toNat,by
     rw[aa0];have h1:=aai (c / 11) (show ((ra.length:Nat):Int)≠0 by omega);omega,by
     rw[aa0];have h1:=aai (c / 11) (show ((ra.length:Nat):Int)≠0 by omega);have h2:=aba (c / 11) (show (0:Int) < ((ra.length:Nat):Int) by omega);omega⟩
    refine ⟨_,.inl (SqL.of r7),by rw[aa0];omega,_,SqL.of r7,λp hp=>?_⟩;rw[hat];have c1:fu (ra.map V.ref) (some (at':Int)) none=(ra.drop at').map V.ref:=by
     have:=B2 (ra.map V.ref) at' 0 (by rw[aa0];omega);rw[show ((at':Int)+((0:Nat):Int))=(at':Int) by omega,Nat.add_zero] at this;rw[this,abt]
    have c2:fu (ra.map V.ref) none (some (at':Int))=(ra.take at').map V.ref:=by rw[ow _ _ (by rw[aa0];omega),ad7]
    rw[c1] at*;refine ⟨_,SqL.of (aa hp _ _ _ r7),λp2 hp2=>?_⟩;rw[c2];refine zg (aa hp2 _ _ _ ae) ae (by rw[aa0,aa0,aah,aay];omega) λp3 hp3=>⟨_,.inl ⟨SqL.of ae,λt ht=>⟨by show (2:Nat)≤sizeLine;decide,λbt hbt=>?_⟩⟩⟩;have s8:=(aa hp (.lst ((ra.drop at').map V.ref))).trans ((aa hp2 (.lst ((ra.take at').map V.ref))).trans ((aa hp3 (.lst ((ra.drop at').map V.ref++(ra.take at').map V.ref))).trans ((aa ht (.tup ((ra.drop at').map V.ref++(ra.take at').map V.ref))).trans (aa hbt (.tup [V.ref kt,V.ref t])))));refine q bt m _ kinds (rs.drop at'++rs.take at') (s7.trans (au.of s8)) (s8 _ _ d7) (by omega) ⟨kt,t,ra.drop at'++ra.take at',ae,s8 _ _ k7,?_,(R7.rot at').same s8⟩ (bk_rot hk (by rw[hkd];exact hN.2.2.1.sublist (ad8 _ _)) (by omega) hN.2.2.1 nm7 so7 (by omega) at') (by rw[aa1,aah,aay];omega) (Ba nm7 at') (λz hz=>abe (hkd ▸ hz));rw[aa8];exact aa hbt _ _ _ ae
noncomputable abbrev i6:Stmt:=top 30
theorem yi:ba ["deck","own","letters","cell","more","tail","names","k","sign","name"] ["deck"] (ah i6):=⟨rfl,rfl,rfl,by decide+kernel,rfl,by decide+kernel,by decide+kernel⟩
theorem Eg (G:Gs w K mg κ) (h_law_next:Has P w K mg base k "_law_next" ["deck"] fi) (D:Def K mg "_law_names" i6 ["deck"]):Has P w K mg base (k+1) "_law_names" ["deck"] ju:=by
 refine D.has yi (λvs H Q E h=>?_) (λf cdv A outer s H vs Q E hr h=>?_)
 ·obtain ⟨_,_,_,_,rfl,_,_,_⟩:=h;rfl
 have nd:=yi.nd;have hu:=cv hr;have hu0:=aaj hu;obtain ⟨d,b,ns,n,rfl,hD,hn,q⟩:=h;have m_range:=G.m_range;refine ⟨_,(A5 (A6 1 nd (AE (BF (AH (AH (AH (AH (AH (AH (AH (AH (AH (BG 0))))))))))))) (A5 (A6 2 nd (AI 0)) (A5 (A6 3 nd (AJ h_law_next hr (A1 (A0 0) (A3 0)))) (A5 (A6 4 nd (A4 (AQ 0) (A0 3) (A2 0))) (A5 (A6 5 nd (A4 (@jh _) (A8 (@ij _) (A0 2) (A4 (AC 0) (A4 (AQ 0) (A0 4) (A2 0)) (A2 0))) (A4 (AC 0) (A4 (AQ 0) (A0 4) (A2 0)) (A2 0)))) (A5 (A6 6 nd (AE (A3 0))) (A5 (BI (C6 m_range (A1 (A2 0) (A3 0))) (AW 7 nd (by first | exact ab8 rfl | exact abc rfl)) (A5 (A6 8 nd (A8 (@ij _) (A0 2) (A4 (AC 0) (A4 (AL 0) (A0 4) (A0 7)) (A2 0)))) (A5 (A6 9 nd (A4 (BU 0) (A4 (BU 0) (A0 8) (A8 (@ij _) (A0 2) (A4 (AC 0) (A4 (AL 0) (A4 (AQ 0) (A0 4) (A2 0)) (A4 (AQ 0) (A0 7) (A2 0))) (A2 0)))) (A0 5))) (BK (AB (AA (AM 0) (A4 (AC 0) (A0 3) (A2 0)) (A2 0) (A9 0)) (A7 (A6 9 nd (A4 (BU 0) (A8 (AN 0) (A0 1) (A4 (AC 0) (A4 (AL 0) (A0 7) (A0 4)) (A2 0))) (A8 (@ij _) (A0 2) (A4 (AC 0) (A4 (AL 0) (A4 (AQ 0) (A0 4) (A2 0)) (A4 (AQ 0) (A0 7) (A2 0))) (A2 0)))))) (AG 0)) (BK (AB (AA (AM 0) (A4 (AC 0) (A0 3) (A2 0)) (A2 0) (A9 0)) (A5 (A6 9 nd (A4 (@jh _) (A8 (@ij _) (A0 2) (A4 (AC 0) (A0 4) (A2 0))) (A4 (AL 0) (A2 0) (A4 (AC 0) (A0 7) (A2 0))))) (A5 (A6 9 nd (A4 (BU 0) (A0 9) (A4 (@jh _) (A8 (@ij _) (A0 2) (A4 (AC 0) (A4 (AL 0) (A0 4) (A2 0)) (A2 0))) (A4 (AC 0) (A4 (AQ 0) (A0 7) (A2 0)) (A2 0))))) (A7 (A6 9 nd (A4 (BU 0) (A0 9) (A8 (@ij _) (A0 2) (A4 (AC 0) (A4 (AL 0) (A4 (AL 0) (A0 4) (A2 0)) (A4 (AQ 0) (A0 7) (A2 0))) (A2 0)))))))) (AG 0)) (BK (AB (BL (BW 0) (A0 9) (A0 1)) (A7 (A6 9 nd (A4 (BU 0) (A0 9) (AI 0)))) (AG 0)) (A7 (AR (AT PySem.F.plainAttrs_list PySem.F.slot_list_append PySem.F.type_list_append (AV 0) (A0 6) (A1 (A0 9) (A3 0))))))))))) (A7 (AD (A0 6)))))))))),?_⟩;rw[show start ["deck","own","letters","cell","more","tail","names","k","sign","name"] [.ref d]=[some (.ref d),none,none,none,none,none,none,none,none,none] from rfl];clear hu hu0 nd hr;push_cast [and_true];have sz:=sizeLine_eq;refine ⟨by show (9:Nat)≤sizeLine;decide,λp hp=>ik (hD.same (aa hp _)) (by omega) λc H1 s1 d1=>?_⟩;push_cast [ke];refine eh ⟨_,rfl,by omega,by omega,by show (1:Nat)≤1000;decide,aaa _,λl hl=>?_⟩;have npd:p≠d:=(ag hD.1 hp).symm;have p1:H1 p=some (.lst (cx.map V.str)):=s1 p _ npd ae;have S1:au d H H1:=(au.of (aa hp (.lst (cx.map V.str)))).trans s1;have fl:=S1.free d1 hl;have nld:l≠d:=(ag d1 hl).symm;have nlp:l≠p:=(ag p1 hl).symm;obtain ⟨P1,eP1⟩:∃P1:Nat→L2.St→Hp→Prop,∀j σ H',P1 j σ H'↔∃v7 v8 v9:Option V,σ=[some (.ref d),some (.ref p),some (.str we),some (.int c),some (.int (c / 3)),some (.str (lr (c / 3))),some (.ref l),v7,v8,v9]∧au d H H'∧H' d=some (.lst [.ref b,.int ((n+1:Nat):Int)])∧H' p=some (.lst (cx.map V.str))∧H' l=some (.lst ((ab3 j).map λk=>V.str (nmP c k))):=⟨_,λ_ _ _=>abm⟩;refine dm (lo:=0) P1 ((eP1 _ _ _).mpr ⟨none,none,none,rfl,S1.upd fl _,aa hl _ _ _ d1,aa hl _ _ _ p1,ae⟩) ?_ ?_
 ·intro j σ H5 hj hh;refine ob3 ((eP1 _ _ _).mp hh) λv7 v8 v9 hh=>?_;have s5:=hh.2.1;have d5:=hh.2.2.1;have p5:=hh.2.2.2.1;have l5:=hh.2.2.2.2;obtain rfl:=hh.1;clear hh;push_cast [and_true];simp only[Int.zero_add];refine eh (eh ⟨_,rfl,_,rfl,by rw[dc,dc];omega,by have:=zd (c / 3) (c / 3) j;unfold nm0 at this;rw[Str.length_append] at this;omega,?_⟩);refine df (λσ' H6=>σ'=[some (.ref d),some (.ref p),some (.str we),some (.int c),some (.int (c / 3)),some (.str (lr (c / 3))),some (.ref l),some (.int (j:Int)),some (.str (ltr (c / 3+(j:Int)))),some (.str (if c % 3=1 then nm1 (c / 3) j else nm0 (c / 3) (lr (c / 3)) j))]∧H5=H6) ?_ ?_
  ·push_cast [and_true];refine ⟨rfl,bp (λe=>?_) λe=>?_⟩
   ·rw[if_pos e];have b1:(((j:Int)+c / 3) % 9).toNat < cx.length:=by show _ < 9;omega
    have g:=zi (c / 3) j;have g2:nm1 (c / 3) j=cx[(((j:Int)+c / 3) % 9).toNat]++ltr (c / 3 / 9+(j:Int) / 9):=by
     unfold nm1;rw[aan,aa2 b1];rfl
    refine aq (v:=.str cx[(((j:Int)+c / 3) % 9).toNat]) p5 ?_ (eh ⟨_,rfl,_,rfl,?_,g2.symm,rfl⟩)
    ·have g3:((((j:Int)+c / 3) % 9).toNat:Int)=((j:Int)+c / 3) % 9:=by omega
     have g4:=ay (xs:=cx.map V.str) (j:=(((j:Int)+c / 3) % 9).toNat) (v:=.str cx[(((j:Int)+c / 3) % 9).toNat]) (by rw[aa7,aa2 b1];rfl);rw[g3] at g4;exact g4
    ·rw[g2,Str.length_append] at g;omega
   ·rw[if_neg e];rfl
  rintro _ _ ⟨rfl,rfl⟩;refine df (λσ' H6=>∃v8:Option V,σ'=[some (.ref d),some (.ref p),some (.str we),some (.int c),some (.int (c / 3)),some (.str (lr (c / 3))),some (.ref l),some (.int (j:Int)),v8,some (.str (nmX c j))]∧H5=H6) ?_ ?_
  ·push_cast [and_true];refine ⟨rfl,bp (λe=>?_) λe=>?_⟩
   ·refine eh ⟨_,rfl,by omega,by omega,by rw[dc];omega,eh ⟨_,rfl,by omega,by omega,by rw[dc];omega,by rw[iw,iw];omega,eh ⟨_,rfl,by rw[Str.length_append,iw,iw,dc];omega,?_,rfl⟩⟩⟩;unfold nmX;rw[if_pos e];rfl
   ·unfold nmX;rw[if_neg e]
  rintro _ _ ⟨v8',rfl,rfl⟩;refine df (λσ' H6=>∃v8:Option V,σ'=[some (.ref d),some (.ref p),some (.str we),some (.int c),some (.int (c / 3)),some (.str (lr (c / 3))),some (.ref l),some (.int (j:Int)),v8,some (.str (nmP c j))]∧H5=H6) ?_ ?_
  ·push_cast [rIn];have g:=yw c j;have hx:(Str.ofString "xq").length=2:=tf;refine ⟨_,.inl (SqL.of p5),rfl,List.all_eq_true.mpr λx hx=>by obtain ⟨z,_,rfl⟩:=List.mem_map.mp hx;rfl,bp (λe=>⟨by omega,?_⟩) λe=>?_⟩
   ·unfold nmP;rw[if_pos ((Ce _).mp e)]
   ·unfold nmP;rw[if_neg λh=>e ((Ce _).mpr h)]
  rintro _ _ ⟨v8'',rfl,rfl⟩;push_cast [and_true];refine bh l5 (by rw[aa0,ae5];omega) ((eP1 _ _ _).mpr ⟨_,_,_,rfl,s5.upd fl _,by rw[af nld.symm];exact d5,by rw[af nlp.symm];exact p5,?_⟩);rw[ae,List.range_succ,aa8];rfl
 ·intro σ H5 hh;refine ob3 ((eP1 _ _ _).mp hh) λv7 v8 v9 hh=>?_;have s5:=hh.2.1;have d5:=hh.2.2.1;have p5:=hh.2.2.2.1;have l5:=hh.2.2.2.2;obtain rfl:=hh.1;clear hh;push_cast [and_true];exact q l H5 _ s5 d5 (xt l5) (Bw c)
noncomputable abbrev gx:Stmt:=top 37
theorem uu:ba ["kinds","shape"] ["kinds","shape"] (ah gx):=⟨rfl,rfl,rfl,by decide+kernel,rfl,by decide+kernel,by decide+kernel⟩
theorem Av (G:Gs w K mg κ) (D:Def K mg "_law_holes" gx ["kinds","shape"]):Has P w K mg base (k+1) "_law_holes" ["kinds","shape"] (ib K):=by
 refine D.has uu (λvs H Q E h=>?_) (λf cdv A outer s H vs Q E hr h=>?_)
 ·obtain ⟨_,_,_,_,rfl,_,_,_,_,_⟩:=h;rfl
 have nd:=uu.nd;have hu:=cv hr;have hu0:=aaj hu;obtain ⟨kt,st,kinds,sh,rfl,hK,hS,hw,hl,q⟩:=h;refine ⟨_,(A7 (AD (C7 (BT ["word"] ["kinds"] [0] (aas rfl trivial) (aas (aas rfl (aas rfl rfl)) trivial)) (BJ (A0 1)) (λ_ _ _=>(BP 0 (show abp (["word","kinds"]:List Str) by decide+kernel))) (λ_ _ _=>(C2 (BL (@jg _ K rfl) (A0 0) (AS 1)))) (λ_ _ _=>(A0 0))))),?_⟩;rw[show start ["kinds","shape"] [.ref kt,.ref st]=[some (.ref kt),some (.ref st)] from rfl];clear hu hu0 nd hr;push_cast [and_true];have sz:=sizeLine_eq;have fl:(kinds.map V.str).all eu=true:=List.all_eq_true.mpr λx hx=>by obtain ⟨z,_,rfl⟩:=List.mem_map.mp hx;rfl
 refine ⟨⟨sh,hS⟩,λD hD=>ph (xs:=sh) (λi ys=>ys=(sh.take i).filter (isH kinds)) hS (by omega) hD rfl (λi x ys H3 G' K' hx hP hl2 hS' hG hK'=>?_) λys H3 hP hl2 hS' hD2=>?_⟩
 ·have hxw:=hw x (aad hx);have et:sh.take (i+1)=sh.take i++[x]:=by rw[abf,hx];rfl
  push_cast [rIn];refine ⟨_,.inr (hS'.tup hK),hxw.flat,fl,bp (λe=>?_) λe=>?_⟩
  ·rw[sj hxw] at e;refine hK' _ _ (ak.refl _) ?_;rw[et,ab9,←hP,aav,if_pos e];rfl
  ·rw[sj hxw] at e;refine hG _ (ak.refl _) ?_;rw[et,ab9,←hP,aav,if_neg e];exact (abk _).symm
 ·rw[abn,←gf] at hP;subst hP;exact q D H3 hS' hD hD2
noncomputable abbrev gw:Stmt:=top 38
theorem ve:ba ["deck","book","words","place","kind","most","ends","due","found","some","rule","under","plain"] ["deck","book","words","place","kind","most"] (ah gw):=⟨rfl,rfl,rfl,by decide+kernel,rfl,by decide+kernel,by decide+kernel⟩
theorem Bc (G:Gs w K mg κ) (h_law_ends:Has P w K mg base k "_law_ends" ["words"] (pf K)) (h_law_holes:Has P w K mg base k "_law_holes" ["kinds","shape"] (ib K)) (h_law_laid:Has P w K mg base k "_law_laid" ["kinds","shape","words","ends","place"] (j8 K)) (h_law_next:Has P w K mg base k "_law_next" ["deck"] fi) (D:Def K mg "_law_cover" gw ["deck","book","words","place","kind","most"]):Has P w K mg base (k+1) "_law_cover" ["deck","book","words","place","kind","most"] mv:=by
 refine D.has ve (λvs H Q E h=>?_) (λf cdv A outer s H vs Q E hr h=>?_)
 ·obtain ⟨_,_,_,_,_,_,_,_,_,_,_,rfl,_,_,_,_,_,_,_,_,_⟩:=h;rfl
 have nd:=ve.nd;have hu:=cv hr;have hu0:=aaj hu;obtain ⟨d,b,wt,dk,ms,kinds,rs,ws,p,n,kd,rfl,hD,hn,hB,hW,bk,tw,hp,q0,q⟩:=h;have m_len:=G.m_len;have m_list:=G.m_list;have m_reversed:=G.m_reversed;have m_tuple:=G.m_tuple;have m_zip:=G.m_zip;refine ⟨_,(A5 (A6 6 nd (AJ h_law_ends hr (A1 (A0 2) (A3 0)))) (A5 (A6 7 nd (AE (A1 (AO (A1 (A0 3) (A1 (A0 4) (A3 0)))) (A3 0)))) (A5 (A6 8 nd (AE (A3 0))) (A5 (CB (AA (@vo _ hu0) (A0 7) (AE (A3 0)) (A9 0)) (A5 (CA (C3 PySem.F.plainAttrs_list PySem.F.slot_list_pop PySem.F.type_list_pop (@jj _) (A0 7)) (CH 2 (BR (AW 3 nd (by first | exact ab8 rfl | exact abc rfl)) (BR (AW 4 nd (by first | exact ab8 rfl | exact abc rfl)) (@kc _))))) (A5 (A6 9 nd (AE (A3 0))) (A5 (BI (BJ (A8 (AF 0) (AS 1) (A2 0))) (AW 10 nd (by first | exact ab8 rfl | exact abc rfl)) (A5 (A6 11 nd (AJ h_law_laid hr (A1 (A8 (AF 0) (AS 1) (A2 0)) (A1 (A8 (AF 0) (A0 10) (A2 0)) (A1 (A0 2) (A1 (A0 6) (A1 (A0 3) (A3 0)))))))) (A7 (AB (BB (BN (AA (AM 0) (A8 (AF 0) (A0 10) (A2 0)) (A0 4) (A9 0)) (BQ (CD (@su _ _ _ _ _ (A0 11)) (by first | exact fb _ (by decide) (by decide) | rfl))))) (A7 (AR (AT PySem.F.plainAttrs_list PySem.F.slot_list_append PySem.F.type_list_append (AV 0) (A0 9) (A1 (AO (A1 (A0 10) (A1 (A8 (AF 0) (A0 11) (A2 0)) (A3 0)))) (A3 0))))) (AG 0))))) (A5 (CK 12 nd (BT ["pair"] ["book"] [1] (aas rfl trivial) (aas (aas rfl (aas rfl rfl)) trivial)) (@ma _ _ _ _ (A0 9)) (λ_ _ _=>(BP 0 (show abp (["pair","book"]:List Str) by decide+kernel))) (λ_ _ _=>(C2 (BL (@qd _ K rfl) (A8 (C5 K) (A8 (C5 K) (A8 (C5 K) (A0 0) (A2 0)) (A2 0)) (A2 0)) (A8 (C5 K) (AS 1) (A2 0))))) (λ_ _ _=>(A0 0))) (BK (AB (AA (BD 0) (AK (AU 0) m_len ck (A1 (A0 8) (A3 0))) (A0 5) (A9 0)) (A7 (A6 9 nd (A0 12))) (AG 0)) (A5 (AB (BB (CG (AA (@nh _ hu0) (A0 9) (AE (A3 0)) (A9 0)) (@rn _ _ _ _ (AA (BD 0) (AK (AU 0) m_len ck (A1 (A0 8) (A3 0))) (A4 (@jv _) (A2 0) (A0 5)) (A9 0))))) (A7 (AD (@om _ _ _))) (AG 0)) (A5 (CA (A8 (AN 0) (A0 9) (A4 (AC 0) (AJ h_law_next hr (A1 (A0 0) (A3 0))) (AK (AU 0) m_len ck (A1 (A0 9) (A3 0))))) (CH 2 (BR (AW 10 nd (by first | exact ab8 rfl | exact abc rfl)) (BR (AW 11 nd (by first | exact ab8 rfl | exact abc rfl)) (@kc _))))) (A5 (AR (AT PySem.F.plainAttrs_list PySem.F.slot_list_append PySem.F.type_list_append (AV 0) (A0 8) (A1 (A8 (AF 0) (A0 10) (A2 0)) (A3 0)))) (A7 (AR (AT PySem.F.plainAttrs_list PySem.F.slot_list_extend PySem.F.type_list_extend (@iq _) (A0 7) (A1 (CN m_list m_reversed (A1 (CL m_list m_zip (A1 (A0 11) (A1 (AJ h_law_holes hr (A1 (A8 (AF 0) (AS 1) (A2 0)) (A1 (A8 (AF 0) (A0 10) (A2 0)) (A3 0)))) (A3 0)))) (A3 0))) (A3 0)))))))))))))) (A7 (AD (AX (BE 0) m_tuple cz (A1 (A0 8) (A3 0))))))))),?_⟩;rw[show start ["deck","book","words","place","kind","most","ends","due","found","some","rule","under","plain"] [.ref d,.ref b,.ref wt,.int (p:Int),.str kd,.int 30]=[some (.ref d),some (.ref b),some (.ref wt),some (.int (p:Int)),some (.str kd),some (.int 30),none,none,none,none,none,none,none] from rfl];clear hu hu0 nd hr;push_cast [and_true];have sz:=sizeLine_eq;have rl:=bk.len;refine E3 (SqT.of hW) (λv hv=>(tw.w v hv).1) tw.one tw.len λet H1 s1 het e1=>⟨by show (2:Nat)≤sizeLine;decide,λp2 hp2=>⟨by show (1:Nat)≤sizeLine;decide,λdl hdl=>⟨aaa _,λfl hfl=>?_⟩⟩⟩;have s4:=aa hp2 (.tup [V.int (p:Int),V.str kd]);have s5:=aa hdl (.lst [V.ref p2]);have s5':=aa hfl (.lst []);have S5:=s1.trans (s4.trans (s5.trans s5'));have fdl:=(s1.trans s4).free hdl;have ffl:=(s1.trans (s4.trans s5)).free hfl;have ned:et≠dl:=ag (s4 _ _ e1) hdl;have nef:et≠fl:=ag ((s4.trans s5) _ _ e1) hfl;have ndf:dl≠fl:=ag (ae (H:=upd H1 p2 (.tup [V.int (p:Int),V.str kd])) (a:=dl) (o:=.lst [V.ref p2])) hfl;have ndd:dl≠d:=(ag hD.1 fdl).symm;have nfd:fl≠d:=(ag hD.1 ffl).symm;have ndet:et≠d:=(ag hD.1 het).symm;have e5:=(s4.trans (s5.trans s5')) _ _ e1;have p5:=(s5.trans s5') _ _ (ae (H:=H1) (a:=p2) (o:=.tup [V.int (p:Int),V.str kd]));have d5:=s5' _ _ (ae (H:=upd H1 p2 (.tup [V.int (p:Int),V.str kd])) (a:=dl) (o:=.lst [V.ref p2]));have f5:upd (upd (upd H1 p2 (.tup [V.int (p:Int),V.str kd])) dl (.lst [V.ref p2])) fl (.lst []) fl=some (.lst []):=ae;generalize upd (upd (upd H1 p2 (.tup [V.int (p:Int),V.str kd])) dl (.lst [V.ref p2])) fl (.lst [])=H5 at s5' S5 e5 p5 d5 f5 ⊢;obtain ⟨P1,eP1⟩:∃P1:L2.St→Hp→Prop,∀σ H',P1 σ H'↔∃(bs:List Addr) (ns:List Str) (st:List Ky) (m:Nat) (v3 v4 v9 v10 v11 v12:Option V),σ=[some (.ref d),some (.ref b),some (.ref wt),v3,v4,some (.int 30),some (.ref et),some (.ref dl),some (.ref fl),v9,v10,v11,v12]∧au d H H'∧cq H' d dk ms m∧m≤n+ns.length∧H' et=some (.lst ((ab3 ws.length).map λq=>plV (endAt ws q)))∧H' dl=some (.lst (bs.map V.ref))∧H' fl=some (.lst (ns.map V.str))∧KsL H' bs st.reverse∧(∀k∈st,k.1 < ws.length)∧st.length≤1+100*ns.length∧ns.length≤62∧(∀z∈ns,∃r∈rs,r.name=z)∧(ns=[]→st≠[]):=⟨_,λ_ _=>abm⟩;refine jq P1 (λ_ H'=>62 - jx H' fl) ((eP1 _ _).mpr ⟨[p2],[],[(p,kd)],n,_,_,none,none,none,none,rfl,au.of S5,hD.same S5,aa5 _,e5,d5,f5,KsL.one p5,λk hk=>by rw[List.mem_singleton.mp hk];exact hp,by show (1:Nat)≤_;omega,aaa _,(λ_ h=>(aa4 h).elim),(λ_ h=>nomatch h)⟩) ?_ λσ H Q Q' h c=>El h c;intro σ H6 hh;obtain ⟨bs,ns,st,m,v3,v4,v9,v10,v11,v12,rfl,s6,D6,hm6,e6,d6,f6,K6,k6,sl6,nl6,nr6,ne6⟩:=(eP1 _ _).mp hh;push_cast [tLR,tLZ,j0];have ndk:dl≠dk:=(ag hD.2 fdl).symm;have nfk:fl≠dk:=(ag hD.2 ffl).symm;have bl:=K6.1;rw[aae] at bl;refine ⟨aaa _,λp3 hp3=>ig (aa hp3 _ _ _ d6) ae ?_⟩;have q3:=aa hp3 (.lst []);cases st with
 | nil=>
  have:bs=[]:=by simpa using bl
  subst this;refine uj ⟨_,.inl ⟨SqL.of (q3 _ _ f6),λt ht=>?_⟩⟩;have st:=aa ht (.tup (ns.map V.str));refine q m t ns _ (s6.trans (au.of (q3.trans st))) (st _ _ (q3 _ _ D6.1)) (by omega) ae ?_ (by omega) nr6;cases ns with
  | nil=>exact absurd rfl (ne6 rfl)
  | cons=>rw[aaq];omega
 | cons k st=>
  obtain ⟨bs',a2,rfl,K6',hk⟩:=K6.pop;have d7:=q3 _ _ d6;rw[aa8] at d7;rw[show (!((bs'++[a2]).map V.ref).isEmpty)=true by simp];refine o8 (jb (xs:=bs'.map V.ref) (y:=.ref a2) d7 ?_);generalize upd H6 p3 (.lst [])=H7 at q3 d7 ⊢;have sA:au d H (upd H7 dl (.lst (bs'.map V.ref))):=(s6.trans (au.of q3)).upd fdl _;have tkA:TK H6 (upd H7 dl (.lst (bs'.map V.ref))):=(TK.of q3).trans (TK.put d7 (λ_ z=>nomatch z));have DA:cq (upd H7 dl (.lst (bs'.map V.ref))) d dk ms m:=⟨by rw[af ndd.symm];exact q3 _ _ D6.1,by rw[af ndk.symm];exact q3 _ _ D6.2⟩;have eA:upd H7 dl (.lst (bs'.map V.ref)) et=some (.lst ((ab3 ws.length).map λq=>plV (endAt ws q))):=by rw[af ned];exact q3 _ _ e6
  have dA:upd H7 dl (.lst (bs'.map V.ref)) dl=some (.lst (bs'.map V.ref)):=ae;have fA:upd H7 dl (.lst (bs'.map V.ref)) fl=some (.lst (ns.map V.str)):=by rw[af ndf.symm];exact q3 _ _ f6
  have hkA:=tkA _ _ hk;have KA:=K6'.tk tkA;generalize upd H7 dl (.lst (bs'.map V.ref))=HA at sA tkA DA eA dA fA hkA KA ⊢;have wA:=az hD sA hW;obtain ⟨kt,rt,ra,hb,hkt,hrt,hRA⟩:=hB.keep (az hD sA);have ral:=hRA.1;have kk:=k6 k aal;refine jw hkA rfl ?_;push_cast [tLR,tLZ,j0];refine ⟨aaa _,λsm hsm=>ao (aa hsm _ _ _ hb) rfl ⟨rt,rfl,⟨_,SqT.of (aa hsm _ _ _ hrt)⟩,?_⟩⟩;obtain ⟨P2,eP2⟩:∃P2:Nat→L2.St→Hp→Prop,∀j σ H',P2 j σ H'↔∃(as:List Addr) (v10 v11:Option V),σ=[some (.ref d),some (.ref b),some (.ref wt),some (.int (k.1:Int)),some (.str k.2),some (.int 30),some (.ref et),some (.ref dl),some (.ref fl),some (.ref sm),v10,v11,v12]∧ak HA H'∧H' sm=some (.lst (as.map V.ref))∧as.length≤j∧∀a∈as,qo H' kinds rs ws a:=⟨_,λ_ _ _=>abm⟩;refine ee (xs:=ra.map V.ref) P2 ((eP2 _ _ _).mpr ⟨[],v10,v11,rfl,aa hsm _,ae,aa5 _,λ_ h=>(aa4 h).elim⟩) (λj σ H' _ h=>by obtain ⟨_,_,_,_,s,_⟩:=(eP2 _ _ _).mp h;exact SqT.of (s _ _ hrt)) ?_ ?_
  ·intro j y σ H8 hy hh;obtain ⟨as,w10,w11,rfl,s8,m8,al8,c8⟩:=(eP2 _ _ _).mp hh;rw[aa7] at hy;obtain ⟨a,ha,rfl⟩:=Option.map_eq_some_iff.mp hy;have hjl:j < rs.length:=by rw[←ral];exact (List.getElem?_eq_some_iff.mp ha).1
   have hrj:rs[j]?=some rs[j]:=aa2 hjl;obtain ⟨a',ha',hR⟩:=hRA.2 j _ hrj;obtain rfl:a'=a:=aa6 (ha'.symm.trans ha);generalize rs[j]=r at hrj hR;obtain ⟨sa,da,dd,g1,g2,g3⟩:=id hR;obtain ⟨w1,w2,w3⟩:=bk.sh r (aad hrj);push_cast [j0];refine ao (s8 _ _ hb) rfl (ao (s8 _ _ g1) rfl (za (SqT.of (s8 _ _ g2)) (SqT.of (s8 _ _ hkt)) (SqT.of (s8 _ _ wA)) (s8 _ _ eA) bk.kd w1 w2 (by omega) tw kk λH9 s9=>?_));have S9:=s8.trans s9;cases hu:cj kinds ws r.shape k.1 ⟨[],[],[]⟩ with
   | none=>
    have z:∀v,P2 (j+1) [some (.ref d),some (.ref b),some (.ref wt),some (.int (k.1:Int)),some (.str k.2),some (.int 30),some (.ref et),some (.ref dl),some (.ref fl),some (.ref sm),some (.ref a'),v,v12] H9:=λv=>(eP2 _ _ _).mpr ⟨as,_,_,rfl,S9,s9 _ _ m8,by omega,λx hx=>(c8 x hx).tk (TK.of s9)⟩;exact kj (ao (S9 _ _ g1) rfl ⟨rfl,bp (λ_=>ifN (by simp) (z _)) λ_=>z _⟩)
   | some u=>
    intro t HC sC hu7 ok7;have SC:=S9.trans sC;have s8C:=s9.trans sC;refine ao (SC _ _ g1) rfl ⟨rfl,bp (λ_=>ifY (by simp) ⟨av (s8C _ _ m8),?_⟩) λ_=>(eP2 _ _ _).mpr ⟨as,_,_,rfl,SC,s8C _ _ m8,by omega,λx hx=>(c8 x hx).tk (TK.of s8C)⟩⟩;obtain ⟨t1,t2,t3,u1,u2,_⟩:=id hu7;refine ao u1 rfl ⟨by show (2:Nat)≤sizeLine;decide,λp6 hp6=>?_⟩;have s6':=aa hp6 (.tup [V.ref a',V.ref t1]);have p6':upd HC p6 (.tup [V.ref a',V.ref t1]) p6=some (.tup [V.ref a',V.ref t1]):=ae;generalize upd HC p6 (.tup [V.ref a',V.ref t1])=HD at s6' p6' ⊢;have s8D:=s8C.trans s6';have m9:=s8D _ _ m8;have tk9:TK HD (upd HD sm (.lst (as.map V.ref++[V.ref p6]))):=TK.put m9 (λ_ z=>nomatch z);refine (bh (K:=K) m9 (by rw[aa0];omega) ((eP2 _ _ _).mpr ⟨as++[p6],_,_,rfl,(SC.trans s6').upd hsm _,by rw[ae,aa8];rfl,by rw[aa1,aa9];omega,λx hx=>?_⟩)).2;rcases List.mem_append.mp hx with hx | hx
    ·exact (c8 x hx).tk ((TK.of s8D).trans tk9)
    ·rw[List.mem_singleton.mp hx];obtain ⟨n1,hn1⟩:=tw.eat kk;refine qo.tk (H:=HD) ⟨a',t1,r,u.hs,p6',aad hrj,hR.same (SC.trans s6'),s6' _ _ u2,?_,sy bk.kd (λv hv=>(tw.w v hv).1) _ _ _ _ 1 n1 w1 w2 hn1 (λ_ z=>(aa4 z).elim) hu⟩ tk9;have:=(rj bk.kd _ _ _ _ w1 hu).1;simpa using this
  ·intro σ H8 hh;obtain ⟨as,w10,w11,rfl,s8,m8,al8,c8⟩:=(eP2 _ _ _).mp hh;rw[aa0] at al8;push_cast [tLR,tLZ,j0];refine ⟨⟨_,SqL.of m8⟩,λpl hpl=>yo (xs:=as.map V.ref) (λi ys=>∃cs:List Addr,ys=cs.map V.ref∧cs.length≤i∧∀c∈cs,c∈as) (SqL.of m8) (by rw[aa0];omega) hpl ⟨[],rfl,aa5 _,λ_ h=>(aa4 h).elim⟩ (λi x ys H9 G' K' hx hP hl2 hS hG hK=>?_) λys H9 hP hl2 hS hpl2=>?_⟩
   ·rw[aa7] at hx;obtain ⟨a,ha,rfl⟩:=Option.map_eq_some_iff.mp hx;have ham:=aad ha;obtain ⟨ra',ua,r,hs,h1,h2,⟨sa,da,dd,g1,g2,g3⟩,h4,h5⟩:=(c8 a ham).tk (TK.of hS);obtain ⟨w1,w2,w3⟩:=bk.sh r h2;obtain ⟨cs,rfl,cl,cm⟩:=hP;obtain ⟨v0,sh0,e0⟩:∃v0 sh0,r.shape=v0::sh0:=by
     cases e:r.shape with
     | nil=>rw[e] at w2;exact absurd rfl w2.ne
     | cons v0 sh0=>exact ⟨v0,sh0,rfl⟩
    have wv:=w1 v0 (by rw[e0];exact aal);push_cast [rIn];have kf:(kinds.map V.str).all eu=true:=List.all_eq_true.mpr λx hx=>by obtain ⟨z,_,rfl⟩:=List.mem_map.mp hx;rfl
    refine ao h1 rfl (ao g1 rfl (ao (v:=v0) g2 (by rw[e0];exact ay (j:=0) rfl) (ao (hS _ _ (s8 _ _ hb)) rfl ⟨kt,rfl,_,.inr (SqT.of (hS _ _ (s8 _ _ hkt))),wv.flat,kf,bp (λ_=>hK _ _ (ak.refl _) ⟨cs++[a],by rw[aa8];rfl,by rw[aa1,aa9];omega,λc hc=>?_⟩) λ_=>hG _ (ak.refl _) ⟨cs,rfl,by omega,cm⟩⟩)));rcases List.mem_append.mp hc with hc | hc
    ·exact cm c hc
    ·rw[List.mem_singleton.mp hc];exact ham
   ·obtain ⟨cs,rfl,cl,cm⟩:=hP;rw[aa0] at cl;have S9:=s8.trans hS;refine df (λσ' H'=>∃(sm':Addr) (as':List Addr),σ'=[some (.ref d),some (.ref b),some (.ref wt),some (.int (k.1:Int)),some (.str k.2),some (.int 30),some (.ref et),some (.ref dl),some (.ref fl),some (.ref sm'),w10,w11,some (.ref pl)]∧H9=H'∧H9 sm'=some (.lst (as'.map V.ref))∧HA sm'=none∧as'.length≤100∧∀a∈as',qo H9 kinds rs ws a) ?_ ?_
    ·push_cast [and_true];exact ⟨_,.inl (SqL.of (S9 _ _ fA)),bp (λ_=>⟨cs,hpl2,s8.free hpl,by omega,λc hc=>(c8 c (cm c hc)).tk (TK.of hS)⟩) λ_=>⟨as,hS _ _ m8,hsm,by omega,λa ha=>(c8 a ha).tk (TK.of hS)⟩⟩
    rintro _ _ ⟨sm',as',rfl,rfl,m9,hm9,al9,c9⟩;push_cast [tLR,tLZ];refine ⟨aaa _,λp6 hp6=>ig (aa hp6 _ _ _ m9) ae ?_⟩;have q6:=aa hp6 (.lst []);generalize upd H9 p6 (.lst [])=HB at q6 ⊢;have SB:=S9.trans q6;have DB:=DA.same SB;have z:Q .non HB:=q0 m HB (sA.trans (au.of SB)) DB.1 (by omega);refine bp (λ_=>z) λc0=>⟨_,.inl (SqL.of (SB _ _ fA)),by unfold vz;omega,bp (λ_=>z) λc1=>ik DB (by omega) λc HE sE dE=>?_⟩;rw[aa0] at c1;have nmd:sm'≠d:=(ag DA.1 hm9).symm;have mE:=sE _ _ nmd (q6 _ _ m9);have fE:=sE _ _ nfd (SB _ _ fA);have dlE:=sE _ _ ndd (SB _ _ dA);have eE:=sE _ _ ndet (SB _ _ eA);have DE:=DB.next sE dE
    have tkE:TK HA HE:=(TK.of SB).trans (zo DB sE);have ap:0 < as'.length:=by
     cases as' with
     | nil=>exact absurd rfl c0
     | cons=>simp
    refine ⟨_,.inl (SqL.of mE),by rw[aa0];omega,?_⟩;obtain ⟨i,hi,ei⟩:∃i:Nat,i < as'.length∧c % (((as'.map V.ref).length:Nat):Int)=(i:Int):=by
     rw[aa0];have h1:=aai c (show ((as'.length:Nat):Int)≠0 by omega);have h2:=aba c (show (0:Int) < ((as'.length:Nat):Int) by omega);exact ⟨(c % ((as'.length:Nat):Int)).toNat,by omega,by omega⟩
    rw[ei];obtain ⟨ra',ua,r,hs,h1,h2,⟨sa,da,dd,g1,g2,g3⟩,h4,h5,h6⟩:=(c9 as'[i] (ab1 hi)).tk ((TK.of q6).trans (zo DB sE));refine aq mE (ay (v:=.ref as'[i]) (by rw[aa7,aa2 hi];rfl)) (jw h1 rfl ?_);obtain ⟨w1,w2,w3⟩:=bk.sh r h2;push_cast [tLR,tLZ];have sF:au d H (upd HE fl (.lst (ns.map V.str++[V.str r.name]))):=((sA.trans (au.of SB)).trans sE).upd ffl _;have tkF:TK HE (upd HE fl (.lst (ns.map V.str++[V.str r.name]))):=TK.put fE (λ_ z=>nomatch z);have dlF:upd HE fl (.lst (ns.map V.str++[V.str r.name])) dl=some (.lst (bs'.map V.ref)):=by rw[af ndf];exact dlE
    have eF:upd HE fl (.lst (ns.map V.str++[V.str r.name])) et=some (.lst ((ab3 ws.length).map λq=>plV (endAt ws q))):=by rw[af nef];exact eE
    have DF:cq (upd HE fl (.lst (ns.map V.str++[V.str r.name]))) d dk ms (m+1):=⟨by rw[af nfd.symm];exact DE.1,by rw[af nfk.symm];exact DE.2⟩;have fF:upd HE fl (.lst (ns.map V.str++[V.str r.name])) fl=some (.lst (ns.map V.str++[V.str r.name])):=ae;refine ⟨av fE,ao g1 rfl (bh (K:=K) fE (by rw[aa0];omega) ⟨av dlF,?_⟩).2⟩;generalize upd HE fl (.lst (ns.map V.str++[V.str r.name]))=HF at sF tkF dlF eF DF fF ⊢;refine ao (tkF _ _ (tkE _ _ hb)) rfl (ao (tkF _ _ g1) rfl (vj (SqT.of (tkF _ _ (tkE _ _ hkt))) (SqT.of (tkF _ _ g2)) w1 (by omega) λl HG sG hlG h8=>?_));refine ⟨l,rfl,hs.map plV,SqT.of (sG _ _ (tkF _ _ h4)),(aw kinds r.shape).map V.str,SqL.of h8,by rw[aa0,aa0];exact h5,λl2 cs' HI sI hl2 hal hL hA=>⟨_,SqL.of hL,λp7 hp7=>?_⟩⟩;have sJ:=aa hp7 (.lst (cs'.map V.ref).reverse);have pJ:upd HI p7 (.lst (cs'.map V.ref).reverse) p7=some (.lst (cs'.map V.ref).reverse):=ae;have KJ:=((KsL.zip h5 hal hA).tk (TK.of sJ)).rev;generalize upd HI p7 (.lst (cs'.map V.ref).reverse)=HJ at sJ pJ KJ ⊢;have sFJ:=sG.trans (sI.trans sJ);have dJ:=sFJ _ _ dlF;have tkJ:TK HJ (upd HJ dl (.lst (bs'.map V.ref++(cs'.map V.ref).reverse))):=TK.put dJ (λ_ z=>nomatch z);have bl':=KA.1;have csl:=KJ.1;rw[aae] at bl';rw[aae,aae,acf] at csl;have hl':=qj kinds r.shape;rw[aaq] at sl6;have zl:(ns++[r.name]).length=ns.length+1:=by rw[aa1];rfl
    have fJ:upd HJ dl (.lst (bs'.map V.ref++(cs'.map V.ref).reverse)) fl=some (.lst ((ns++[r.name]).map V.str)):=by rw[af ndf.symm,aa8];exact sFJ _ _ fF
    refine ⟨dl,p7,bs'.map V.ref,(cs'.map V.ref).reverse,rfl,rfl,dJ,pJ,by rw[aae,aa0,aa0];omega,(eP1 _ _).mpr ⟨bs'++cs'.reverse,ns++[r.name],hs.zip (aw kinds r.shape)++st,m+1,_,_,_,_,_,_,rfl,(sF.trans (au.of sFJ)).upd fdl _,⟨by rw[af ndd.symm];exact sFJ _ _ DF.1,by rw[af ndk.symm];exact sFJ _ _ DF.2⟩,by omega,by rw[af ned];exact sFJ _ _ eF,by rw[ae,aa8,adg],fJ,?_,λx hx=>?_,by rw[aa1,acf];omega,by omega,λy hy=>?_,λh=>?_⟩,?_⟩
    ·rw[ad1];exact ((KA.tk ((tkE.trans tkF).trans (TK.of sFJ))).app KJ).tk tkJ
    ·rcases List.mem_append.mp hx with hx | hx
     ·exact h6 _ (ace (show (x.1,x.2)∈_ from hx)).1
     ·exact k6 x (aak _ hx)
    ·rcases List.mem_append.mp hy with hy | hy
     ·exact nr6 y hy
     ·exact ⟨r,h2,(List.mem_singleton.mp hy).symm⟩
    ·rw[h] at zl;cases zl
    ·rw[fz fJ,fz f6,aa0,aa0];omega
noncomputable abbrev i8:Stmt:=top 39
theorem y8:ba ["book","words","place","kind","cover","ends","due","price","name","some","rule","under"] ["book","words","place","kind","cover"] (ah i8):=⟨rfl,rfl,rfl,by decide+kernel,rfl,by decide+kernel,by decide+kernel⟩
theorem By (G:Gs w K mg κ) (h_law_ends:Has P w K mg base k "_law_ends" ["words"] (pf K)) (h_law_holes:Has P w K mg base k "_law_holes" ["kinds","shape"] (ib K)) (h_law_laid:Has P w K mg base k "_law_laid" ["kinds","shape","words","ends","place"] (j8 K)) (D:Def K mg "_law_price" i8 ["book","words","place","kind","cover"]):Has P w K mg base (k+1) "_law_price" ["book","words","place","kind","cover"] mr:=by
 refine D.has y8 (λvs H Q E h=>?_) (λf cdv A outer s H vs Q E hr h=>?_)
 ·obtain ⟨_,_,_,_,_,_,_,_,_,rfl,_,_,_,_,_,_,_,_,_,_⟩:=h;rfl
 have nd:=y8.nd;have hu:=cv hr;have hu0:=aaj hu;obtain ⟨b,wt,ct,kinds,rs,ws,p,kd,ns,rfl,hB,hW,hC,bk,tw,hp,hkd,hkz,hnl,q⟩:=h;have m_list:=G.m_list;have m_reversed:=G.m_reversed;have m_zip:=G.m_zip;refine ⟨_,(A5 (A6 5 nd (AJ h_law_ends hr (A1 (A0 1) (A3 0)))) (A5 (A6 6 nd (AE (A1 (AO (A1 (A0 2) (A1 (A0 3) (A3 0)))) (A3 0)))) (A5 (A6 7 nd (A2 0)) (A5 (BI (BJ (A0 4)) (AW 8 nd (by first | exact ab8 rfl | exact abc rfl)) (A5 (CK 9 nd (BT ["rule"] ["name"] [8] (aas rfl trivial) (aas (aas rfl (aas rfl rfl)) trivial)) (BJ (A8 (AF 0) (A0 0) (A2 0))) (λ_ _ _=>(BP 0 (show abp (["rule","name"]:List Str) by decide+kernel))) (λ_ _ _=>(C2 (AA (AM 0) (A8 (C5 K) (A0 0) (A2 0)) (AS 1) (A9 0)))) (λ_ _ _=>(A0 0))) (A5 (AB (BB (CG (AA (@nh _ hu0) (A0 9) (AE (A3 0)) (A9 0)) (@rn _ _ _ _ (AA (@nh _ hu0) (A0 6) (AE (A3 0)) (A9 0))))) (A7 (AD (A2 0))) (AG 0)) (A5 (CA (C3 PySem.F.plainAttrs_list PySem.F.slot_list_pop PySem.F.type_list_pop (@jj _) (A0 6)) (CH 2 (BR (AW 2 nd (by first | exact ab8 rfl | exact abc rfl)) (BR (AW 3 nd (by first | exact ab8 rfl | exact abc rfl)) (@kc _))))) (A5 (A6 10 nd (A8 (AN 0) (A0 9) (A2 0))) (A5 (A6 11 nd (AJ h_law_laid hr (A1 (A8 (AF 0) (A0 0) (A2 0)) (A1 (A8 (AF 0) (A0 10) (A2 0)) (A1 (A0 1) (A1 (A0 5) (A1 (A0 2) (A3 0)))))))) (A5 (AB (BB (CG (AA (@Co _) (A8 (AF 0) (A0 10) (A2 0)) (A0 3) (A9 0)) (@rn _ _ _ _ (CD (@E4 _ _ _ _ _ (A0 11)) (by first | exact fb _ (by decide) (by decide) | rfl))))) (A7 (AD (A2 0))) (AG 0)) (A5 (A6 7 nd (A4 (AL 0) (A0 7) (A8 (AF 0) (A0 10) (A2 0)))) (A7 (AR (AT PySem.F.plainAttrs_list PySem.F.slot_list_extend PySem.F.type_list_extend (@iq _) (A0 6) (A1 (CN m_list m_reversed (A1 (CL m_list m_zip (A1 (A8 (AF 0) (A0 11) (A2 0)) (A1 (AJ h_law_holes hr (A1 (A8 (AF 0) (A0 0) (A2 0)) (A1 (A8 (AF 0) (A0 10) (A2 0)) (A3 0)))) (A3 0)))) (A3 0))) (A3 0))))))))))))) (A5 (AB (AA (@vo _ hu0) (A0 6) (AE (A3 0)) (A9 0)) (A7 (AD (A2 0))) (AG 0)) (A7 (AD (A0 7)))))))),?_⟩;rw[show start ["book","words","place","kind","cover","ends","due","price","name","some","rule","under"] [.ref b,.ref wt,.int (p:Int),.str kd,.ref ct]=[some (.ref b),some (.ref wt),some (.int (p:Int)),some (.str kd),some (.ref ct),none,none,none,none,none,none,none] from rfl];clear hu hu0 nd hr;push_cast [and_true];have sz:=sizeLine_eq;have rl:=bk.len;refine E3 (SqT.of hW) (λv hv=>(tw.w v hv).1) tw.one tw.len λet H1 s1 het e1=>⟨by show (2:Nat)≤sizeLine;decide,λp2 hp2=>⟨by show (1:Nat)≤sizeLine;decide,λdl hdl=>?_⟩⟩;have s4:=aa hp2 (.tup [V.int (p:Int),V.str kd]);have s5:=aa hdl (.lst [V.ref p2]);have S5:=s1.trans (s4.trans s5);have fdl:=(s1.trans s4).free hdl;have ned:et≠dl:=ag (s4 _ _ e1) hdl;have e5:=(s4.trans s5) _ _ e1;have p5:=s5 _ _ (ae (H:=H1) (a:=p2) (o:=.tup [V.int (p:Int),V.str kd]));have d5:upd (upd H1 p2 (.tup [V.int (p:Int),V.str kd])) dl (.lst [V.ref p2]) dl=some (.lst [V.ref p2]):=ae;generalize upd (upd H1 p2 (.tup [V.int (p:Int),V.str kd])) dl (.lst [V.ref p2])=H5 at s5 S5 e5 p5 d5 ⊢;obtain ⟨P1,eP1⟩:∃P1:Nat→L2.St→Hp→Prop,∀j σ H',P1 j σ H'↔∃(bs:List Addr) (ds:List (Rl×Und)) (st:List Ky) (v2 v3 v8 v9 v10 v11:Option V),σ=[some (.ref b),some (.ref wt),v2,v3,some (.ref ct),some (.ref et),some (.ref dl),some (.int (cpr ds)),v8,v9,v10,v11]∧ak H H'∧H' et=some (.lst ((ab3 ws.length).map λq=>plV (endAt ws q)))∧H' dl=some (.lst (bs.map V.ref))∧KsL H' bs st.reverse∧KyOk ws st∧st.length≤1+100*j∧br kinds rs ws ns [(p,kd)]=(br kinds rs ws (ns.drop j) st).map (ds++·):=⟨_,λ_ _ _=>abm⟩;refine ⟨⟨_,SqT.of (S5 _ _ hC)⟩,ee (xs:=ns.map V.str) P1 ((eP1 _ _ _).mpr ⟨[p2],[],[(p,kd)],_,_,none,none,none,none,rfl,S5,e5,d5,KsL.one p5,λk hk=>by rw[List.mem_singleton.mp hk];exact ⟨hp,hkd⟩,by show (1:Nat)≤_;omega,by rw[adp];simp⟩) (λj σ H' _ h=>by obtain ⟨_,_,_,_,_,_,_,_,_,_,s,_⟩:=(eP1 _ _ _).mp h;exact SqT.of (s _ _ hC)) ?_ ?_⟩
 ·intro j y σ H6 hy hh;obtain ⟨bs,ds,st,v2,v3,v8,v9,v10,v11,rfl,s6,e6,d6,K6,k6,sl6,cw⟩:=(eP1 _ _ _).mp hh;rw[aa7] at hy;obtain ⟨nm,hnm,rfl⟩:=Option.map_eq_some_iff.mp hy;have hjl:j < ns.length:=(List.getElem?_eq_some_iff.mp hnm).1;have ed:ns.drop j=nm::ns.drop (j+1):=by
   rw[aat hjl];congr 1
   exact (List.getElem?_eq_some_iff.mp hnm).2
  rw[ed] at cw;obtain ⟨kt,rt,ra,hb,hkt,hrt,hRA⟩:=id (hB.same s6);have ral:=hRA.1;push_cast [tLR,tLZ,tIsN];refine ao hb rfl ⟨rt,rfl,⟨_,SqT.of hrt⟩,λD hD=>?_⟩;refine ph (xs:=ra.map V.ref) (λi ys=>(ys=[]∧∀(i0:Nat) (x:Rl),i0 < i→rs[i0]?=some x→x.name≠nm)∨∃(i0:Nat) (a:Addr) (x:Rl),rs[i0]?=some x∧x.name=nm∧ra[i0]?=some a∧ys=[.ref a]∧i0 < i) (SqT.of hrt) (by rw[aa0];omega) hD (.inl ⟨rfl,λi0 x h=>absurd h (ad0 _)⟩) (λi x ys H7 G' K' hx hP hl2 hS hG hK=>?_) λys H7 hP hl2 hS hD2=>?_
  ·rw[aa7] at hx;obtain ⟨a,ha,rfl⟩:=Option.map_eq_some_iff.mp hx;have hil:i < rs.length:=by rw[←ral];exact (List.getElem?_eq_some_iff.mp ha).1
   have hri:rs[i]?=some rs[i]:=aa2 hil;obtain ⟨a',ha',sa,da,dd,g1,g2,g3⟩:=hRA.2 i _ hri;obtain rfl:a'=a:=aa6 (ha'.symm.trans ha);generalize rs[i]=r at hri g1 g2;push_cast [and_true];refine ao (hS _ _ g1) rfl ⟨rfl,?_⟩;by_cases c:r.name=nm
   ·refine ifY (by rw[c]) (hK _ _ (ak.refl _) (.inr ⟨i,a',r,hri,c,ha,?_,adf _⟩));rcases hP with ⟨rfl,_⟩ | ⟨i0,a0,x0,h1,h2,h3,_,h4⟩
    ·rfl
    ·exact absurd (bk.name hri h1 (h2.trans c.symm)) (by omega)
   ·refine ifN (by simpa using c) (hG _ (ak.refl _) ?_);rcases hP with ⟨rfl,h⟩ | ⟨i0,a0,x0,h1,h2,h3,rfl,h4⟩
    ·refine .inl ⟨rfl,λi0 x hi0 hx0=>?_⟩;rcases ae1 i0 i with z | z
     ·exact h i0 x z hx0
     ·obtain rfl:i0=i:=by omega
      obtain rfl:r=x:=aa6 (hri.symm.trans hx0);exact c
    ·exact .inr ⟨i0,a0,x0,h1,h2,h3,rfl,ac3 h4⟩
  ·push_cast [tLR,tLZ,tIsN];refine ⟨aaa _,λp3 hp3=>ig (aa hp3 _ _ _ hD2) ae ?_⟩;have q3:=aa hp3 (.lst []);rcases hP with ⟨rfl,hno⟩ | ⟨i0,a,r,hr0,en,ha,rfl,hi0⟩
   ·have z:br kinds rs ws ns [(p,kd)]=none:=by
     rw[cw];cases st with
     | nil=>rfl
     | cons k st=>rw[dq (qg λi x hi e=>absurd e (hno i x (by rw[aa0,ral];exact (List.getElem?_eq_some_iff.mp hi).1) hi))];rfl
    have:=q _ ((s6.trans hS).trans q3);rw[z] at this;exact o8 this
   ·refine uj ⟨aaa _,λp4 hp4=>ig ((q3.trans (aa hp4 _)) _ _ (hS _ _ d6)) ae ?_⟩;have q4:=q3.trans (aa hp4 (.lst []));generalize upd (upd H7 p3 (.lst [])) p4 (.lst [])=H8 at q4 ⊢;have s68:=hS.trans q4;have S8:=s6.trans s68;cases st with
    | nil=>
     have:bs=[]:=by have:=K6.1;simp at this;exact this
     subst this;have:=q _ S8;rw[cw] at this;exact o8 this
    | cons k st=>
     obtain ⟨bs',a2,rfl,K6',hk⟩:=K6.pop;have d8:=s68 _ _ d6;rw[aa8] at d8;rw[show ((bs'++[a2]).map V.ref).isEmpty=false by simp];refine uj (jb (xs:=bs'.map V.ref) (y:=.ref a2) d8 ?_);have sA:=S8.upd fdl (.lst (bs'.map V.ref));have tkA:TK H6 (upd H8 dl (.lst (bs'.map V.ref))):=(TK.of s68).trans (TK.put d8 (λ_ z=>nomatch z));have dA:upd H8 dl (.lst (bs'.map V.ref)) dl=some (.lst (bs'.map V.ref)):=ae;have eA:upd H8 dl (.lst (bs'.map V.ref)) et=some (.lst ((ab3 ws.length).map λq=>plV (endAt ws q))):=by rw[af ned];exact s68 _ _ e6
     have DA:upd H8 dl (.lst (bs'.map V.ref)) D=some (.lst [.ref a]):=by rw[af (ag d6 hD).symm];exact q4 _ _ hD2
     have hkA:=tkA _ _ hk;have KA:=K6'.tk tkA;generalize upd H8 dl (.lst (bs'.map V.ref))=HA at sA tkA dA eA DA hkA KA ⊢;obtain ⟨a',ha',sa,da,dd,g1,g2,g3⟩:=hRA.2 i0 _ hr0;obtain rfl:a'=a:=aa6 (ha'.symm.trans ha);have kk:=k6 k aal;obtain ⟨w1,w2,w3⟩:=bk.sh r (aad hr0);subst en;refine jw hkA rfl ?_;push_cast [tLR,tLZ,tIsN];refine aq DA rfl (ao (tkA _ _ hb) rfl (ao (tkA _ _ g1) rfl (za (SqT.of (tkA _ _ g2)) (SqT.of (tkA _ _ hkt)) (SqT.of (sA _ _ hW)) eA bk.kd w1 w2 (by omega) tw kk.1 λHB sB=>?_)));have SB:=sA.trans sB;have re:=Ie (ws:=ws) (p:=k.1) bk hr0 k.2;have g1B:=sB _ _ (tkA _ _ g1);cases hu:cj kinds ws r.shape k.1 ⟨[],[],[]⟩ with
     | none=>
      rw[hu] at re;have re:cn kinds rs ws r.name k.2 k.1=none:=by rw[re];split <;> rfl
      rw[dq re] at cw;have z:=q _ SB;rw[cw] at z;exact kj (ao g1B rfl ⟨rfl,bp (λ_=>z) λ_=>ifY rfl z⟩)
     | some u=>
      intro t HC sC hu7 ok7;have g1C:=sC _ _ g1B;refine ao g1C rfl ⟨rfl,?_⟩;by_cases c:r.kind=k.2
      ·rw[hu,if_pos c] at re;have re:cn kinds rs ws r.name k.2 k.1=some (r,u):=re;obtain ⟨kO,ul,hl⟩:=k6.step bk tw hkz re;obtain ⟨t1,t2,t3,u1,u2,_⟩:=id hu7;have sBC:=sB.trans sC;have dC:=sBC _ _ dA;refine ifN (by simp[c]) (ifN (by intro z;cases z) (ao g1C rfl ⟨av dC,ao u1 rfl (ao (sBC _ _ (tkA _ _ hb)) rfl (ao g1C rfl (vj (SqT.of (sBC _ _ (tkA _ _ hkt))) (SqT.of (sBC _ _ (tkA _ _ g2))) w1 (by omega) λl HD sD hlD h8=>?_)))⟩));refine ⟨t1,rfl,l,rfl,u.hs.map plV,SqT.of (sD _ _ u2),(aw kinds r.shape).map V.str,SqL.of h8,by rw[aa0,aa0];exact hl,λl2 cs HE sE hl2 hal hL hA=>⟨_,SqL.of hL,λp6 hp6=>?_⟩⟩;have sF:=aa hp6 (.lst (cs.map V.ref).reverse);have pF:upd HE p6 (.lst (cs.map V.ref).reverse) p6=some (.lst (cs.map V.ref).reverse):=ae;have KF:=((KsL.zip hl hal hA).tk (TK.of sF)).rev;generalize upd HE p6 (.lst (cs.map V.ref).reverse)=HF at sF pF KF ⊢;have sCF:=sD.trans (sE.trans sF);have sAF:=sBC.trans sCF;have dF:=sAF _ _ dA;have tkF:TK HF (upd HF dl (.lst (bs'.map V.ref++(cs.map V.ref).reverse))):=TK.put dF (λ_ z=>nomatch z);have bl':=KA.1;have csl:cs.length=(u.hs.zip (aw kinds r.shape)).length:=by
        have:=KF.1;rw[aae,aae] at this;exact this
       rw[aae] at bl';have ul':(u.hs.zip (aw kinds r.shape)).length≤100:=ul;rw[aaq] at sl6;refine ⟨dl,p6,bs'.map V.ref,(cs.map V.ref).reverse,rfl,rfl,dF,pF,by rw[aae,aa0,aa0];omega,(eP1 _ _ _).mpr ⟨bs'++cs.reverse,ds++[(r,u)],xc kinds (r,u)++st,_,_,_,_,_,_,by rw[Ci],(sA.trans sAF).upd fdl _,by rw[af ned];exact sAF _ _ eA,by rw[ae,aa8,adg],?_,kO,by rw[aa1];omega,?_⟩⟩
       ·rw[ad1];exact ((KA.tk (TK.of sAF)).app KF).tk tkF
       ·rw[cw,jc re,Option.map_map];congr 1
        funext x
        simp
      ·rw[if_neg c] at re;rw[dq re] at cw;have z:=q _ (SB.trans sC);rw[cw] at z;exact ifY (by simp[c]) z
 ·intro σ H6 hh;obtain ⟨bs,ds,st,v2,v3,v8,v9,v10,v11,rfl,s6,e6,d6,K6,k6,sl6,cw⟩:=(eP1 _ _ _).mp hh;push_cast [and_true];rw[aa0,abw] at cw;refine ⟨aaa _,λp3 hp3=>ig (aa hp3 _ _ _ d6) ae ?_⟩;have:=q _ (s6.trans (aa hp3 (.lst [])));have bl:=K6.1;cases st with
  | nil=>
   have:bs=[]:=by simp at bl;exact bl
   subst this;rw[cw,show br kinds rs ws [] []=some [] from rfl] at this;exact uj (by simpa [yj] using this)
  | cons k st=>
   rw[cw,show br kinds rs ws [] (k::st)=none from rfl] at this;rw[show (bs.map V.ref).isEmpty=false by cases bs with | nil=>simp at bl | cons=>rfl];exact o8 this
noncomputable abbrev o9:Stmt:=top 40
theorem Cm:ba ["deck","cover","book","names","cell","at","some","name","way"] ["deck","cover","book","names"] (ah o9):=⟨rfl,rfl,rfl,by decide+kernel,rfl,by decide+kernel,by decide+kernel⟩
theorem Fy (G:Gs w K mg κ) (h_law_next:Has P w K mg base k "_law_next" ["deck"] fi) (D:Def K mg "_law_bent" o9 ["deck","cover","book","names"]):Has P w K mg base (k+1) "_law_bent" ["deck","cover","book","names"] ue:=by
 refine D.has Cm (λvs H Q E h=>?_) (λf cdv A outer s H vs Q E hr h=>?_)
 ·obtain ⟨_,_,_,_,_,_,_,_,_,_,_,rfl,_,_,_,_,_,_,_,_,_,_,_,_,_,_⟩:=h;rfl
 have nd:=Cm.nd;have hu:=cv hr;have hu0:=aaj hu;obtain ⟨d,ct,b,nl,dk,ms,kinds,rs,zs,ns,n,rfl,hD,hn,hC,hB,hN,h1,h2,hk,hrl,tz,tn,tk,tr,q⟩:=h;have m_len:=G.m_len;refine ⟨_,(A5 (A6 4 nd (AJ h_law_next hr (A1 (A0 0) (A3 0)))) (A5 (A6 5 nd (A4 (AC 0) (A4 (AQ 0) (A0 4) (A2 0)) (AK (AU 0) m_len ck (A1 (A0 1) (A3 0))))) (A5 (A6 6 nd (A4 (@B4 _) (C7 (BT ["rule"] [] [] trivial trivial) (BJ (A8 (AF 0) (A0 2) (A2 0))) (λ_ _ _=>(BP 0 (show abp (["rule"]:List Str) by decide+kernel))) (λ_ _ _=>(@pif0 _)) (λ_ _ _=>(A8 (C5 K) (A0 0) (A2 0)))) (AE (A1 (A8 (AN 0) (A0 3) (A2 0)) (A1 (A8 (AF 0) (A8 (AF 0) (A0 2) (A2 0)) (A2 0)) (A1 (AI 0) (A3 0))))))) (A5 (A6 7 nd (A8 (AN 0) (A0 6) (A4 (AC 0) (A4 (AQ 0) (A0 4) (A2 0)) (AK (AU 0) m_len ck (A1 (A0 6) (A3 0)))))) (A5 (A6 8 nd (A4 (AC 0) (A0 4) (A2 0))) (A5 (AB (AA (AM 0) (A0 8) (A2 0) (A9 0)) (A7 (AD (A4 (BV 0) (AZ (BO 0) (A0 1) (B0 0) (B7 (A0 5))) (AZ (BO 0) (A0 1) (B7 (A4 (AL 0) (A0 5) (A2 0))) (B0 0))))) (AG 0)) (A5 (AB (AA (AM 0) (A0 8) (A2 0) (A9 0)) (A7 (AD (A4 (BV 0) (A4 (BV 0) (AZ (BO 0) (A0 1) (B0 0) (B7 (A0 5))) (AO (A1 (A0 7) (A3 0)))) (AZ (BO 0) (A0 1) (B7 (A0 5)) (B0 0))))) (AG 0)) (A5 (AB (AA (AM 0) (A0 8) (A2 0) (A9 0)) (A7 (AD (AZ (BO 0) (A0 1) (B0 0) (B7 (A0 5))))) (AG 0)) (A5 (AB (AA (AM 0) (A0 8) (A2 0) (A9 0)) (A7 (AD (A4 (BV 0) (A0 1) (AZ (BO 0) (A0 1) (B7 (A0 5)) (B0 0))))) (AG 0)) (A5 (AB (BB (BN (AA (AM 0) (A0 8) (A2 0) (A9 0)) (BQ (AA (BD 0) (A0 5) (A2 0) (A9 0))))) (A7 (AD (A4 (BV 0) (A4 (BV 0) (AZ (BO 0) (A0 1) (B0 0) (B7 (A4 (AY 0) (A0 5) (A2 0)))) (AO (A1 (A8 (AF 0) (A0 1) (A0 5)) (A1 (A8 (AF 0) (A0 1) (A4 (AY 0) (A0 5) (A2 0))) (A3 0))))) (AZ (BO 0) (A0 1) (B7 (A4 (AL 0) (A0 5) (A2 0))) (B0 0))))) (AG 0)) (A7 (AD (A4 (BV 0) (A4 (BV 0) (AZ (BO 0) (A0 1) (B0 0) (B7 (A0 5))) (AO (A1 (A0 7) (A3 0)))) (AZ (BO 0) (A0 1) (B7 (A4 (AL 0) (A0 5) (A2 0))) (B0 0))))))))))))))),?_⟩;rw[show start ["deck","cover","book","names","cell","at","some","name","way"] [.ref d,.ref ct,.ref b,.ref nl]=[some (.ref d),some (.ref ct),some (.ref b),some (.ref nl),none,none,none,none,none] from rfl];clear hu hu0 nd hr;push_cast [and_true];have sz:=sizeLine_eq;refine ⟨d,dk,ms,n,rfl,hD,by omega,λc H1 s1 d1=>?_⟩;have C1:=az hD s1 hC;have B1:=hB.keep (az hD s1);have N1:=hN.dz hD s1;obtain ⟨kt,rt,ra,hb,hkt,hrt,hRA⟩:=id B1;have ral:=hRA.1;refine ⟨by decide,by decide,_,.inr (SqT.of C1),by rw[aa0];omega,ao hb rfl ⟨rt,rfl,⟨_,SqT.of hrt⟩,λD hD=>?_⟩⟩;refine ph (xs:=ra.map V.ref) (λi ys=>ys=(rs.take i).map λr=>V.str r.name) (SqT.of hrt) (by rw[aa0];omega) hD rfl (λi x ys H7 G' K' hx hP hl2 hS hG hK=>?_) λys H2 hP hl2 hS hD2=>?_
 ·rw[aa7] at hx;obtain ⟨a,ha,rfl⟩:=Option.map_eq_some_iff.mp hx;have hil:i < rs.length:=by rw[←ral];exact (List.getElem?_eq_some_iff.mp ha).1
  have hri:rs[i]?=some rs[i]:=aa2 hil;obtain ⟨a',ha',sa,da,dd,g1,g2,g3⟩:=hRA.2 i _ hri;obtain rfl:a'=a:=aa6 (ha'.symm.trans ha);generalize rs[i]=r at hri g1 g2;push_cast [and_true];refine ao (hS _ _ g1) rfl (hK _ _ (ak.refl _) ?_);rw[abf,hri,aa8,←hP];rfl
 rw[aa0,ral,abn] at hP;have zl:=hN.2.1;obtain ⟨z0,hz0⟩:∃z0,zs[52]?=some z0:=⟨_,aa2 (by omega)⟩;obtain ⟨k0,hk0⟩:∃k0,kinds[0]?=some k0:=⟨_,aa2 (by omega)⟩;refine aq (v:=.str z0) (hS _ _ N1.1) (ay (j:=52) (by rw[aa7,hz0];rfl)) (ao (hS _ _ hb) rfl (ao (v:=.str k0) (hS _ _ hkt) (ay (j:=0) (by rw[aa7,hk0];rfl)) ⟨by show (3:Nat)≤sizeLine;decide,λp3 hp3=>?_⟩));obtain ⟨ss,hss,hst⟩:∃ss:List Str,ys++[V.str z0,V.str k0,V.str (Str.ofString "add")]=ss.map V.str∧∀z∈ss,bu z:=by
  refine ⟨(rs.map λr=>r.name)++[z0,k0,Str.ofString "add"],by rw[hP,aa8,acw];rfl,mw (λz hz=>?_) λz hz=>?_⟩
  ·obtain ⟨r,hr,rfl⟩:=List.mem_map.mp hz;exact tr r hr
  ·simp only[aag,aa4,or_false] at hz;rcases hz with rfl | rfl | rfl
   ·exact tz _ (aad hz0)
   ·exact tk _ (aad hk0)
   ·exact ⟨by decide+kernel,by decide+kernel⟩
 have hyl:ys.length=rs.length:=by rw[hP,aa0]
 have ssl:ss.length=rs.length+3:=by
  have:=congrArg aca hss;rw[aa1,aa0,hyl] at this;exact this.symm
 refine zg (aa hp3 _ _ _ hD2) ae (by rw[hyl];show rs.length+3≤_;omega) λp4 hp4=>?_;rw[hss];have s4:=(aa hp3 (.lst [V.str z0,V.str k0,V.str (Str.ofString "add")])).trans (aa hp4 (.lst (ss.map V.str)));have h4:upd (upd H2 p3 (.lst [V.str z0,V.str k0,V.str (Str.ofString "add")])) p4 (.lst (ss.map V.str)) p4=some (.lst (ss.map V.str)):=ae;generalize upd (upd H2 p3 (.lst [V.str z0,V.str k0,V.str (Str.ofString "add")])) p4 (.lst (ss.map V.str))=H4 at s4 h4 ⊢;obtain ⟨x,hx,hm⟩:=cg (ss.map V.str) (c / 49 % (((ss.map V.str).length:Nat):Int)) (aai _ (by rw[aa0];omega)) (aba _ (by rw[aa0];omega));obtain ⟨nm,hnm,rfl⟩:=List.mem_map.mp hm;have nmt:=hst nm hnm;refine ⟨by decide,by decide,_,.inl (SqL.of h4),by rw[aa0];omega,aq h4 hx ⟨by decide,rfl,?_⟩⟩;have S4:=hS.trans s4;have C4:=S4 _ _ C1;have d4:=S4 _ _ d1;have Q4:∀(t:Addr) (ns':List Str) (H':Hp),ak H4 H'→H' t=some (.tup (ns'.map V.str))→ns'.length≤1000→(∀z∈ns',bu z)→Q (.ref t) H':=λt ns' H' s' ht hl ho=>q (n+1) t ns' H' (s1.trans (au.of (S4.trans s'))) (s' _ _ d4) (aa5 _) ht hl ho;clear q s1 d1 N1 B1 hS s4 hD2 hp3 hP;have b0:=aai (c / 7) (show (((ns.map V.str).length:Nat):Int)≠0 by rw[aa0];omega);have b1:=aba (c / 7) (show (0:Int) < (((ns.map V.str).length:Nat):Int) by rw[aa0];omega);generalize c / 7 % (((ns.map V.str).length:Nat):Int)=at' at b0 b1 ⊢;have one:∀(lo hi:Option Int) (H5:Hp) (Q':VK),ak H4 H5→(∀(t:Addr) (ns':List Str) (H':Hp),ak H4 H'→H' t=some (.tup (ns'.map V.str))→ns'.length≤200→(∀z∈ns',bu z)→Q' (.ref t) H')→wg (.ref ct) lo hi H5 Q':=λlo hi H5 Q' s5 q'=>Ee (s5 _ _ C4) λp H' ms s hp hl hz=>q' p ms H' (s5.trans s) hp (by omega) λz hz'=>tn z (hz z hz');have two:∀(t:Addr) (ns':List Str) (lo hi:Option Int) (H5:Hp),ak H4 H5→H5 t=some (.tup (ns'.map V.str))→ns'.length≤500→(∀z∈ns',bu z)→wg (.ref ct) lo hi H5 λy H2=>nr (.ref t) y H2 Q:=λt ns' lo hi H5 s5 ht hl hz=>Ee (s5 _ _ C4) λp H' ms s hp hl2 hz2=>t8 (s _ _ ht) hp (by omega) λk H6 s6 hk=>Q4 k _ H6 (s5.trans (s.trans s6)) hk (by rw[aa1];omega) (mw hz λz h=>tn z (hz2 z h));have mid:∀(lo hi:Option Int) (xs:List Str),xs.length≤2→(∀z∈xs,bu z)→∀(H5:Hp) (Q':VK),ak H4 H5→(∀(t:Addr) (ns':List Str) (H':Hp),ak H4 H'→H' t=some (.tup (ns'.map V.str))→ns'.length≤500→(∀z∈ns',bu z)→Q' (.ref t) H')→wg (.ref ct) lo hi H5 λx H1=>(xs.map V.str).length≤sizeLine∧∀p,H1 p=none→nr x (.ref p) (upd H1 p (.tup (xs.map V.str))) Q':=λlo hi xs hxl hxs H5 Q' s5 q'=>one lo hi H5 _ s5 λt ns' H' s' ht hl hz=>⟨by rw[aa0];omega,λp hp=>t8 (aa hp _ _ _ ht) ae (by omega) λk H6 s6 hk=>q' k _ H6 (s'.trans ((aa hp _).trans s6)) hk (by rw[aa1];omega) (mw hz hxs)⟩;have ex:∀(lo hi lo2 hi2:Option Int),wg (.ref ct) lo hi H4 λx H1=>[V.str nm].length≤sizeLine∧∀p,H1 p=none→nr x (.ref p) (upd H1 p (.tup [V.str nm])) λx H1=>wg (.ref ct) lo2 hi2 H1 λy H2=>nr x y H2 Q:=λlo hi lo2 hi2=>mid lo hi [nm] (by show (1:Nat)≤2;decide) (λz hz=>by rw[List.mem_singleton.mp hz];exact nmt) H4 _ (ak.refl _) λt ns' H' s' ht hl hz=>two t ns' lo2 hi2 H' s' ht hl hz;refine bp (λ_=>one _ _ H4 _ (ak.refl _) λt ns' H' s' ht hl hz=>two t ns' _ _ H' s' ht (by omega) hz) λ_=>⟨rfl,bp (λ_=>ex _ _ _ _) λ_=>⟨rfl,bp (λ_=>one _ _ H4 _ (ak.refl _) λt ns' H' s' ht hl hz=>Q4 t ns' H' s' ht (by omega) hz) λ_=>⟨rfl,bp (λ_=>two ct ns _ _ H4 (ak.refl _) C4 (by omega) tn) λ_=>⟨rfl,bp (λ_=>bp (λc0=>?_) λ_=>ex _ _ _ _) λ_=>ex _ _ _ _⟩⟩⟩⟩;obtain ⟨x1,hx1,m1⟩:=cg (ns.map V.str) at' b0 b1;obtain ⟨x2,hx2,m2⟩:=cg (ns.map V.str) (at' - 1) (by omega) (by omega);obtain ⟨z1,hz1,rfl⟩:=List.mem_map.mp m1;obtain ⟨z2,hz2,rfl⟩:=List.mem_map.mp m2;refine one _ _ H4 _ (ak.refl _) λt ns' H' s' ht hl hz=>ao (s' _ _ C4) hx1 (ao (s' _ _ C4) hx2 ⟨by show (2:Nat)≤sizeLine;decide,λp hp=>t8 (ys:=[z1,z2]) (aa hp _ _ _ ht) ae (by show _+2≤_;omega) λk H6 s6 hk=>two k _ _ _ H6 (s'.trans ((aa hp _).trans s6)) hk (by rw[aa1];show _+2≤_;omega) (mw hz λz h=>?_)⟩);simp only[aag,aa4,or_false] at h;rcases h with rfl | rfl
 ·exact tn _ hz1
 ·exact tn _ hz2
noncomputable abbrev i9:Stmt:=top 41
theorem zb:ba ["book","words","place","kind","cover","due","found","caught","e"] ["book","words","place","kind","cover"] (ah i9):=⟨rfl,rfl,rfl,by decide+kernel,rfl,by decide+kernel,by decide+kernel⟩
theorem E1 (G:Gs w K mg κ) (h_law_price:Has P w K mg base k "_law_price" ["book","words","place","kind","cover"] mr) (h_cover_price:i4 P w K mg base k "cover_price" ["book","words","place","kind","cover"] (j4 κ)) (D:Def K mg "_law_asked" i9 ["book","words","place","kind","cover"]):Has P w K mg base (k+1) "_law_asked" ["book","words","place","kind","cover"] mj:=by
 refine D.has zb (λvs H Q E h=>?_) (λf cdv A outer s H vs Q E hr h=>?_)
 ·obtain ⟨_,_,_,_,_,_,_,_,_,rfl,_,_,_,_,_,_,_,_,_,_,_⟩:=h;rfl
 have nd:=zb.nd;have hu:=cv hr;have hu0:=aaj hu;obtain ⟨b,wt,ct,kinds,rs,ws,p,kd,ns,rfl,hB,hW,hC,bk,tw,hp,hkd,hkz,hnz,hnl,q⟩:=h;have m_BadCover:=G.er.m_badCover;have m_BadDeed:=G.er.m_badDeed;have m_BadRow:=G.er.m_badRow;have m_BadShape:=G.er.m_badShape;have m_CoverError:=G.er.m_cov;have m_NoBox:=G.er.m_noBox;have m_NoCover:=G.er.m_noCover;have m_NoName:=G.er.m_noName;have m_NoTerm:=G.er.m_noTerm;have m_NoValue:=G.er.m_noValue;have m_Twice:=G.er.m_twice;have m_Unsound:=G.er.m_unsound;have m_ValueError:=G.m_ValueError;have m_bool:=G.m_bool;have m_int:=G.m_int;have m_isinstance:=G.m_isinstance;refine ⟨_,(A5 (A6 5 nd (AJ h_law_price hr (A1 (A0 0) (A1 (A0 1) (A1 (A0 2) (A1 (A0 3) (A1 (A0 4) (A3 0)))))))) (A5 (A6 6 nd (@om _ _ _)) (A5 (A6 7 nd (@om _ _ _)) (A5 (@ps_try _ _ _ 8 _ _ _ _ _ _ _ _ _ _ (ae2 _ (ae2 _ (ae2 _ (aas rfl (aas rfl rfl))))) nd rfl rfl rfl G.er.x_cov m_CoverError (@Fu _ _ _ _ _ _ _ _ _ _ _ 6 _ _ nd rfl (ab8 rfl) h_cover_price hr (A1 (A0 0) (A1 (A0 1) (A1 (A0 2) (A1 (A0 3) (A1 (A0 4) (A3 0)))))) rfl (by decide+kernel) rfl rfl rfl (.inl rfl)) (λ_=>(A7 (A6 7 nd (A0 8)))) rfl (by decide+kernel)) (A5 (AB (AA (BD 0) (A0 5) (A2 0) (A9 0)) (A7 (AD (C8 (@pe_cmp _ _ _ _ _ _ (@E4 _ _ _ _ _ (A0 7)) (by first | exact fb _ (by decide) (by decide) | rfl)) (C8 (AK (BZ 0) m_isinstance bj (A1 (A0 6) (A1 (BX m_int lq) (A3 0)))) (C8 (@Es _ _ _ _ (AK (BZ 0) m_isinstance bj (A1 (A0 6) (A1 (BX m_bool b_bool) (A3 0))))) (@xo _ _ _ _ _ (C9 (AM 0) (A0 6) (A0 5) (A9 0)))))))) (AG 0)) (A5 (AB (BM (AK (@uo _) m_isinstance bj (A1 (A0 7) (A1 (AO (A1 (BH m_BadDeed) (A1 (BH m_BadRow) (A1 (BH m_BadShape) (A1 (BH m_NoBox) (A1 (BH m_NoCover) (A1 (BH m_NoName) (A1 (BH m_NoTerm) (A1 (BH m_NoValue) (A1 (BH m_Twice) (A1 (BH m_Unsound) (A3 0)))))))))))) (A3 0))))) (A7 (AD (BS 0))) (AG 0)) (A7 (AD (C8 (AK (@ug _) m_isinstance bj (A1 (A0 7) (A1 (BH m_BadCover) (A3 0)))) (@xo _ _ _ _ _ (AK (@uh _) m_isinstance bj (A1 (A0 7) (A1 (BX m_ValueError se) (A3 0)))))))))))))),?_⟩;rw[show start ["book","words","place","kind","cover","due","found","caught","e"] [.ref b,.ref wt,.int (p:Int),.str kd,.ref ct]=[some (.ref b),some (.ref wt),some (.int (p:Int)),some (.str kd),some (.ref ct),none,none,none,none] from rfl];clear hu hu0 nd hr;push_cast [and_true];have sz:=sizeLine_eq;have er:=G.er;refine Hk hB hW hC bk tw hp hkd hkz hnl λH1 s1=>?_;push_cast [tTry,tXSet,tIsN];refine Cp (hB.same s1) (s1 _ _ hW) (s1 _ _ hC) bk tw hp hkd hkz hnz hnl (λds hds H2 s2=>?_) λhno H2 s2=>?_
 ·rw[hds];have pos:=ym bk (fo hds).2;have dl:=(fo hds).1;have n1:1≤ns.length:=by
   cases ns with
   | nil=>cases hds
   | cons=>simp
  refine ifY (by show 0 < cpr ds;omega) ⟨_,.int _,true,rfl,o8 ⟨_,.int _,false,rfl,o8 ⟨rfl,?_⟩⟩⟩;rw[decide_eq_true (show V.int (cpr ds)=V.int (yj (some ds)) from rfl)];exact q _ (s1.trans s2)
 ·rw[hno];refine ⟨κ.badCover,rfl,cbm κ,er.x_badCover,by rw[isC,decide_eq_true (rfl:κ.cov=κ.cov),ac5],λe he=>ifN (by decide) ⟨by show (10:Nat)≤sizeLine;decide,λp3 hp3=>?_⟩⟩;have s3:=aa he (XO e κ.badCover none false);have s4:=aa hp3 (.tup [V.ref κ.badDeed,V.ref κ.badRow,V.ref κ.badShape,V.ref κ.noBox,V.ref κ.noCover,V.ref κ.noName,V.ref κ.noTerm,V.ref κ.noValue,V.ref κ.twice,V.ref κ.unsound]);have he4:=s4 _ _ (ae (H:=H2) (a:=e) (o:=XO e κ.badCover none false));have hp4:upd (upd H2 e (XO e κ.badCover none false)) p3 (.tup [V.ref κ.badDeed,V.ref κ.badRow,V.ref κ.badShape,V.ref κ.noBox,V.ref κ.noCover,V.ref κ.noName,V.ref κ.noTerm,V.ref κ.noValue,V.ref κ.twice,V.ref κ.unsound]) p3=some (.tup [V.ref κ.badDeed,V.ref κ.badRow,V.ref κ.badShape,V.ref κ.noBox,V.ref κ.noCover,V.ref κ.noName,V.ref κ.noTerm,V.ref κ.noValue,V.ref κ.twice,V.ref κ.unsound]):=ae;generalize upd (upd H2 e (XO e κ.badCover none false)) p3 (.tup [V.ref κ.badDeed,V.ref κ.badRow,V.ref κ.badShape,V.ref κ.noBox,V.ref κ.noCover,V.ref κ.noName,V.ref κ.noTerm,V.ref κ.noValue,V.ref κ.twice,V.ref κ.unsound])=H4 at s4 he4 hp4 ⊢;have is4:XIs K H4 (.ref e) κ.badCover (cbm κ):=⟨er.x_badCover,e,none,false,rfl,he4,.inl rfl⟩;refine ⟨[κ.badDeed,κ.badRow,κ.badShape,κ.noBox,κ.noCover,κ.noName,κ.noTerm,κ.noValue,κ.twice,κ.unsound],hp4,λD hD=>?_,_,⟨_,_,is4,rfl⟩,?_⟩
  ·simp only[aag,aa4,or_false] at hD;rcases hD with rfl | rfl | rfl | rfl | rfl | rfl | rfl | rfl | rfl | rfl
   ·exact ⟨_,er.x_badDeed⟩
   ·exact ⟨_,er.x_badRow⟩
   ·exact ⟨_,er.x_badShape⟩
   ·exact ⟨_,er.x_noBox⟩
   ·exact ⟨_,er.x_noCover⟩
   ·exact ⟨_,er.x_noName⟩
   ·exact ⟨_,er.x_noTerm⟩
   ·exact ⟨_,er.x_noValue⟩
   ·exact ⟨_,er.x_twice⟩
   ·exact ⟨_,er.x_unsound⟩
  rw[anyC (λD hD=>?_)]
  ·refine uj ⟨κ.badCover,cbm κ,is4,⟨_,er.x_badCover⟩,?_⟩;rw[isC,decide_eq_true (rfl:κ.badCover=κ.badCover),Bool.true_or];refine o8 ⟨κ.badCover,cbm κ,is4,by decide+kernel,?_⟩;rw[er.x_badCover.hv];exact q _ (s1.trans (s2.trans (s3.trans s4)))
  ·simp only[aag,aa4,or_false] at hD;rcases hD with rfl | rfl | rfl | rfl | rfl | rfl | rfl | rfl | rfl | rfl
   ·exact ⟨er.ne 10 3 rfl rfl (by decide),er.ne 10 0 rfl rfl (by decide)⟩
   ·exact ⟨er.ne 5 3 rfl rfl (by decide),er.ne 5 0 rfl rfl (by decide)⟩
   ·exact ⟨er.ne 9 3 rfl rfl (by decide),er.ne 9 0 rfl rfl (by decide)⟩
   ·exact ⟨er.ne 2 3 rfl rfl (by decide),er.ne 2 0 rfl rfl (by decide)⟩
   ·exact ⟨er.ne 4 3 rfl rfl (by decide),er.ne 4 0 rfl rfl (by decide)⟩
   ·exact ⟨er.ne 8 3 rfl rfl (by decide),er.ne 8 0 rfl rfl (by decide)⟩
   ·exact ⟨er.ne 1 3 rfl rfl (by decide),er.ne 1 0 rfl rfl (by decide)⟩
   ·exact ⟨er.ne 6 3 rfl rfl (by decide),er.ne 6 0 rfl rfl (by decide)⟩
   ·exact ⟨er.ne 7 3 rfl rfl (by decide),er.ne 7 0 rfl rfl (by decide)⟩
   ·exact ⟨er.ne 11 3 rfl rfl (by decide),er.ne 11 0 rfl rfl (by decide)⟩
noncomputable abbrev sx:Stmt:=top 42
theorem scLaw:ba ["script","deck","cell","names","book","words","k","place","kind","cover","there"] ["script"] (ah sx):=⟨rfl,rfl,rfl,by decide+kernel,rfl,by decide+kernel,by decide+kernel⟩
theorem hasLaw {f:Addr} {fd:FuncData} (G:Gs w K mg κ) (h_law_asked:Has P w K mg base k "_law_asked" ["book","words","place","kind","cover"] mj) (h_law_bent:Has P w K mg base k "_law_bent" ["deck","cover","book","names"] ue) (h_law_book:Has P w K mg base k "_law_book" ["deck","names"] rq) (h_law_cover:Has P w K mg base k "_law_cover" ["deck","book","words","place","kind","most"] mv) (h_law_names:Has P w K mg base k "_law_names" ["deck"] ju) (h_law_next:Has P w K mg base k "_law_next" ["deck"] fi) (h_law_term:Has P w K mg base k "_law_term" ["deck","names","most"] mq) (F:Fun K "law" "law" sx f fd):iz P w K mg base CX0 (k+1) f fd ["script"] (zt K):=by
 refine F.ok scLaw (λvs H Q E h=>?_) (λcdv A outer s H vs Q E hr h=>?_)
 ·obtain ⟨_,_,rfl,_,_,_⟩:=h;rfl
 have nd:=scLaw.nd;have hu:=cv hr;have hu0:=aaj hu;obtain ⟨a,ns,rfl,hA,hn,q⟩:=h;have m_len:=G.m_len;have m_min:=G.m_min;have m_range:=G.m_range;refine ⟨_,(A5 (A6 1 nd (AE (A1 (AZ (@lz _) (A0 0) (B0 0) (B7 (A2 0))) (A1 (A2 0) (A3 0))))) (A5 (A6 2 nd (AJ h_law_next hr (A1 (A0 1) (A3 0)))) (A5 (A6 3 nd (AJ h_law_names hr (A1 (A0 1) (A3 0)))) (A5 (A6 4 nd (AJ h_law_book hr (A1 (A0 1) (A1 (A0 3) (A3 0))))) (A5 (A6 5 nd (AJ h_law_term hr (A1 (A0 1) (A1 (A0 3) (A1 (A8 (AN 0) (AE (BF (BY (BY (BY (BG 0)))))) (A4 (AC 0) (A0 2) (A2 0))) (A3 0)))))) (A5 (BI (C6 m_range (A1 (AK (@Az _ rfl) m_min b_min (A1 (A2 0) (A1 (AK (AU 0) m_len ck (A1 (A0 5) (A3 0))) (A3 0)))) (A3 0))) (AW 6 nd (by first | exact ab8 rfl | exact abc rfl)) (A5 (A6 7 nd (A4 (AC 0) (A4 (AL 0) (A4 (AQ 0) (A0 2) (A2 0)) (A4 (@jv _) (A0 6) (A0 6))) (AK (AU 0) m_len ck (A1 (A0 5) (A3 0))))) (A5 (AB (C0 (BM (AJ h_law_asked hr (A1 (A0 4) (A1 (A0 5) (A1 (A0 7) (A1 (A8 (AN 0) (A0 3) (A2 0)) (A1 (AO (A3 0)) (A3 0))))))))) (A7 (AD (BS 0))) (AG 0)) (A7 (BI (BJ (A8 (AF 0) (A0 4) (A2 0))) (AW 8 nd (by first | exact ab8 rfl | exact abc rfl)) (A5 (AB (C0 (BM (AJ h_law_asked hr (A1 (A0 4) (A1 (A0 5) (A1 (A0 7) (A1 (A0 8) (A1 (AO (A3 0)) (A3 0))))))))) (A7 (AD (BS 0))) (AG 0)) (A5 (A6 9 nd (AJ h_law_cover hr (A1 (A0 1) (A1 (A0 4) (A1 (A0 5) (A1 (A0 7) (A1 (A0 8) (A1 (A2 0) (A3 0))))))))) (A7 (AB (CD (@su _ _ _ _ _ (A0 9)) (by first | exact fb _ (by decide) (by decide) | rfl)) (A5 (AB (C0 (BM (AJ h_law_asked hr (A1 (A0 4) (A1 (A0 5) (A1 (A0 7) (A1 (A0 8) (A1 (A0 9) (A3 0))))))))) (A7 (AD (BS 0))) (AG 0)) (A5 (AB (C0 (BM (AJ h_law_asked hr (A1 (A0 4) (A1 (A0 5) (A1 (A0 7) (A1 (A0 8) (A1 (AJ h_law_bent hr (A1 (A0 1) (A1 (A0 9) (A1 (A0 4) (A1 (A0 3) (A3 0)))))) (A3 0))))))))) (A7 (AD (BS 0))) (AG 0)) (A5 (AB (C0 (BM (AJ h_law_asked hr (A1 (A0 4) (A1 (A0 5) (A1 (A0 7) (A1 (A8 (AN 0) (A0 3) (A2 0)) (A1 (A0 9) (A3 0))))))))) (A7 (AD (BS 0))) (AG 0)) (A5 (A6 10 nd (A4 (AC 0) (A4 (AL 0) (A0 7) (A2 0)) (AK (AU 0) m_len ck (A1 (A0 5) (A3 0))))) (A7 (AB (C0 (BM (AJ h_law_asked hr (A1 (A0 4) (A1 (A0 5) (A1 (A0 10) (A1 (A8 (AF 0) (A8 (AF 0) (A0 4) (A2 0)) (A4 (AC 0) (A0 6) (AK (AU 0) m_len ck (A1 (A8 (AF 0) (A0 4) (A2 0)) (A3 0))))) (A1 (A0 9) (A3 0))))))))) (A7 (AD (BS 0))) (AG 0))))))) (AG 0)))))))))) (A7 (AD (BS 0))))))))),?_⟩;rw[show start ["script","deck","cell","names","book","words","k","place","kind","cover","there"] [.ref a]=[some (.ref a),none,none,none,none,none,none,none,none,none,none] from rfl];clear hu hu0 nd hr;push_cast [fi,ke];have sz:=sizeLine_eq;obtain ⟨ms,em,hms⟩:=Et ns none (some 200);refine ⟨ns.map V.int,hA,λp hp=>?_⟩;rw[em];refine ⟨by show (2:Nat)≤sizeLine;decide,λd hd=>⟨p,ms,0,⟨ae,aa hd _ _ _ ae⟩,by decide,λc H1 s1 d1=>?_⟩⟩;have D1:cq H1 d p ms 1:=cq.next ⟨ae,aa hd _ _ _ ae⟩ s1 d1
 refine Ew D1 (by omega) λnl H2 zs s2 d2 N2 tx=>?_;have D2:cq H2 d p ms 2:=D1.next s2 d2
 refine mkBook D2 N2 (by omega) λbt n3 H3 kinds rs s3 d3 hn3 B3 bk hrs hrn hkz=>?_;have D3:=D2.next s3 d3
 have N3:=N2.dz D2 s3;refine ⟨by show (3:Nat)≤sizeLine;decide,λp4 hp4=>?_⟩;obtain ⟨m,hm1,hm2,hat⟩:∃m:Nat,1≤m∧m≤120∧atI [V.int 3,V.int 12,V.int 25] (c % 3)=some (.int (m:Int)):=by
  rcases (show c % 3=((0:Nat):Int)∨c % 3=((1:Nat):Int)∨c % 3=((2:Nat):Int) by omega) with e | e | e
  ·rw[e];exact ⟨3,by decide,by decide,ay rfl⟩
  ·rw[e];exact ⟨12,by decide,by decide,ay rfl⟩
  ·rw[e];exact ⟨25,by decide,by decide,ay rfl⟩
 have q4:=aa hp4 (.lst [V.int 3,V.int 12,V.int 25]);refine aq ae hat (Ia (D3.same q4) (N3.same q4) hm1 hm2 (by omega) λt n5 H5 ws s5 d5 hn5 ht h5 tw hwl=>?_);have B5:=(B3.same q4).keep (az (D3.same q4) s5);have D5:=(D3.same q4).next s5 d5
 have N5:=(N3.same q4).dz (D3.same q4) s5;clear hd hp4 q4 s1 s2 s3 s5 D1 D2 D3 N2 N3 d1 d2 d3;have twl:=tw.len;have wp:=tw.pos;have kp:1≤kinds.length:=by
  obtain ⟨r,hr⟩:∃r,rs[0]?=some r:=⟨_,aa2 (by omega)⟩;exact List.length_pos_of_mem (bk.rk r (aad hr))
 have kl:=bk.kl;have rnl:=bk.len;have kz:∀z∈kinds,bu z:=λz hz=>tx z (hkz z hz);have rz:∀r∈rs,bu r.name:=λr hr=>tx _ (hrn r hr);have zl:=N5.2.1;obtain ⟨z0,hz0⟩:∃z0,zs[53]?=some z0:=⟨_,aa2 (by omega)⟩;have tz0:=tx z0 (aad hz0);refine ⟨ws,.inr (SqT.of h5),by split <;> omega,by split <;> omega,?_⟩;obtain ⟨P1,eP1⟩:∃P1:Nat→L2.St→Hp→Prop,∀j σ H',P1 j σ H'↔∃(m':Nat) (v6 v7 v8 v9 v10:Option V),σ=[some (.ref a),some (.ref d),some (.int c),some (.ref nl),some (.ref bt),some (.ref t),v6,v7,v8,v9,v10]∧cq H' d p ms m'∧m'≤n5+4260*j∧bo H' bt kinds rs∧H' t=some (.tup ws)∧bw H' nl zs:=⟨_,λ_ _ _=>abm⟩;refine dm (lo:=0) P1 ((eP1 _ _ _).mpr ⟨n5,none,none,none,none,none,rfl,D5,by omega,B5,h5,N5⟩) ?_ ?_
 ·intro j σ H6 hj hh;obtain ⟨m',v6,v7,v8,v9,v10,rfl,D6,hm6,B6,h6,N6⟩:=(eP1 _ _ _).mp hh;have hj8:j < 8:=by split at hj <;> omega
  push_cast [j0,ke];have cm:vz (0+(j:Int)) (0+(j:Int)):=by unfold vz;omega
  obtain ⟨pl,hpl,epl⟩:=modN (c / 3+(0+(j:Int))*(0+(j:Int))) (n:=ws.length) (by omega);refine ⟨cm,ws,.inr (SqT.of h6),by omega,aq (v:=.str z0) N6.1 (ay (j:=53) (by rw[aa7,hz0];rfl)) ⟨aaa _,λp6 hp6=>?_⟩⟩;rw[epl];have s6:=aa hp6 (.tup []);refine ir (ns:=[]) (B6.same s6) (s6 _ _ h6) ae bk tw hpl tz0 kz (λ_ h=>(aa4 h).elim) (aaa _) λH7 s7=>ifN (by decide) ?_;have S7:=s6.trans s7;obtain ⟨kt,rt,ra,hb,hkt,hrt,hRA⟩:=B6.same S7;refine ao hb rfl ⟨kt,rfl,⟨_,SqT.of hkt⟩,?_⟩;obtain ⟨P2,eP2⟩:∃P2:Nat→L2.St→Hp→Prop,∀i σ H',P2 i σ H'↔∃(m2:Nat) (v8 v9 v10:Option V),σ=[some (.ref a),some (.ref d),some (.int c),some (.ref nl),some (.ref bt),some (.ref t),some (.int (0+(j:Int))),some (.int (pl:Int)),v8,v9,v10]∧cq H' d p ms m2∧m2≤m'+71*i∧bo H' bt kinds rs∧H' t=some (.tup ws)∧bw H' nl zs∧H' bt=some (.tup [.ref kt,.ref rt])∧H' kt=some (.tup (kinds.map V.str)):=⟨_,λ_ _ _=>abm⟩;refine ee (xs:=kinds.map V.str) P2 ((eP2 _ _ _).mpr ⟨m',v8,v9,v10,rfl,D6.same S7,by omega,B6.same S7,S7 _ _ h6,N6.same S7,hb,hkt⟩) (λi σ H' _ h=>by obtain ⟨_,_,_,_,_,_,_,_,_,_,_,z⟩:=(eP2 _ _ _).mp h;exact SqT.of z) ?_ ?_
  ·intro i y σ H8 hy hh;obtain ⟨m2,w8,w9,w10,rfl,D8,hm8,B8,h8,N8,b8,k8⟩:=(eP2 _ _ _).mp hh;rw[aa7] at hy;obtain ⟨kd,hkd,rfl⟩:=Option.map_eq_some_iff.mp hy;have hil:i < kinds.length:=(List.getElem?_eq_some_iff.mp hkd).1;have tkd:=kz kd (aad hkd);push_cast [j0];refine ⟨aaa _,λp8 hp8=>?_⟩;have s8:=aa hp8 (.tup []);refine ir (ns:=[]) (B8.same s8) (s8 _ _ h8) ae bk tw hpl tkd kz (λ_ h=>(aa4 h).elim) (aaa _) λH9 s9=>ifN (by decide) ?_;have S9:=s8.trans s9;have D9:=D8.same S9;have B9:=B8.same S9;have h9:=S9 _ _ h8;have N9:=N8.same S9;have k9:=S9 _ _ k8;have b9:=S9 _ _ b8;refine Gf D9 (by omega) B9 h9 bk tw hpl (λn' HA sA dA hnA=>ifN (by simp) ((eP2 _ _ _).mpr ⟨n',_,_,_,rfl,D9.next sA dA,by omega,B9.keep (az D9 sA),az D9 sA h9,N9.dz D9 sA,az D9 sA b9,az D9 sA k9⟩)) λn' ct ns' HA sA dA hnA hC c1 c2 hz=>?_;have DA:=D9.next sA dA
   have BA:=B9.keep (az D9 sA);have hA':=az D9 sA h9;have NA:=N9.dz D9 sA;have kA:=az D9 sA k9;have bA:=az D9 sA b9;have tns:∀z∈ns',bu z:=λz h=>by
    obtain ⟨r,hr,rfl⟩:=hz z h;exact rz r hr
   clear sA dA D9 B9 h9 N9 k9 b9 S9;refine ifY (by simp) (ir BA hA' hC bk tw hpl tkd kz tns (by omega) λHB sB=>ifN (by decide) ?_);refine mkBent (DA.same sB) (by omega) (sB _ _ hC) (BA.same sB) (NA.same sB) c1 c2 kp rnl tx tns kz rz λn2 ct2 ns2 HC sC dC hnC hC2 hl2 hz2=>?_;have DB:=DA.same sB;have DC:=DB.next sC dC
   have BC:=(BA.same sB).keep (az DB sC);have wC:=az DB sC (sB _ _ hA');have NC:=(NA.same sB).dz DB sC;have kC:=az DB sC (sB _ _ kA);have bC:=az DB sC (sB _ _ bA);have cC:=az DB sC (sB _ _ hC);clear sC dC DB sB DA BA hA' NA kA bA hC;refine ir BC wC hC2 bk tw hpl tkd kz hz2 hl2 λHD sD=>ifN (by decide) (aq (v:=.str z0) (sD _ _ NC.1) (ay (j:=53) (by rw[aa7,hz0];rfl)) (ir (BC.same sD) (sD _ _ wC) (sD _ _ cC) bk tw hpl tz0 kz tns (by omega) λHE sE=>ifN (by decide) ?_));have SE:=sD.trans sE;obtain ⟨th,hth,eth⟩:=modN ((pl:Int)+1) (n:=ws.length) (by omega);obtain ⟨ki,hki,eki⟩:=modN (0+(j:Int)) (n:=kinds.length) (by omega);have hkk:kinds[ki]?=some kinds[ki]:=aa2 hki;refine ⟨ws,.inr (SqT.of (SE _ _ wC)),by omega,ao (SE _ _ bC) rfl (ao (SE _ _ bC) rfl ⟨_,.inr (SqT.of (SE _ _ kC)),by rw[aa0];omega,ao (v:=.str kinds[ki]) (SE _ _ kC) (by rw[aa0,eki];exact ay (by rw[aa7,hkk];rfl)) ?_⟩)⟩;rw[eth];refine ir (BC.same SE) (SE _ _ wC) (SE _ _ cC) bk tw hth (kz _ (ab1 hki)) kz tns (by omega) λHF sF=>ifN (by decide) ?_;have SF:=SE.trans sF;exact (eP2 _ _ _).mpr ⟨n2,_,_,_,rfl,DC.same SF,by omega,BC.same SF,SF _ _ wC,NC.same SF,SF _ _ bC,SF _ _ kC⟩
  ·intro σ H8 hh;obtain ⟨m2,w8,w9,w10,rfl,D8,hm8,B8,h8,N8,b8,k8⟩:=(eP2 _ _ _).mp hh;rw[aa0] at hm8;exact (eP1 _ _ _).mpr ⟨m2,_,_,_,_,_,rfl,D8,by omega,B8,h8,N8⟩
 ·intro σ H6 hh;obtain ⟨m',v6,v7,v8,v9,v10,rfl,D6,hm6,B6,h6,N6⟩:=(eP1 _ _ _).mp hh;exact q H6
end
end K51
namespace K51
open PySem PySem.Spec L2 PyProof.Rows Pc
theorem all_mk {l:PySem.W.OpenLaw} {w:World} {K:PySem.W.Frag} {h:Heap} {mg:Str→Option Value} {fa:Addr} (X:K.In h) (G:h.Ns mainGlobals mg) (hfa:mg "law"=some (.ref fa))
  {f0 f1 f2 f3 f4 f5 f6 f7 f8 f9 f10 f11 f12 f13 f14 f15 f16 f17 f18 f19 f20 f21 f22 f23 g0:Addr} {od0 an0 od1 an1 od2 an2 od3 an3 od4 an4 od5 an5 od6 an6 od7 an7 od8 an8 od9 an9 od10 an10 od11 an11 od12 an12 od13 an13 od14 an14 od15 an15 od16 an16 od17 an17 od18 an18 od19 an19 od20 an20 od21 an21 od22 an22 od23 an23:Option Addr} {sl0 sl1 sl2 sl3 sl4 sl5 sl6 sl7 sl8 sl9 sl10 sl11 sl12 sl13 sl14 sl15 sl16 sl17 sl18 sl19 sl20 sl21 sl22 sl23:Array (Option Value)} {oc0 kV0 dc0 pm0 cd0 ct0 oc1 kV1 dc1 pm1 cd1 ct1 oc2 kV2 dc2 pm2 cd2 ct2 oc3 kV3 dc3 pm3 cd3 ct3 oc4 kV4 dc4 pm4 cd4 ct4 oc5 kV5 dc5 pm5 cd5 ct5 oc6 kV6 dc6 pm6 cd6 ct6 oc7 kV7 dc7 pm7 cd7 ct7 oc8 kV8 dc8 pm8 cd8 ct8 oc9 kV9 dc9 pm9 cd9 ct9 oc10 kV10 dc10 pm10 cd10 ct10 oc11 kV11 dc11 pm11 cd11 ct11 oc12 kV12 dc12 pm12 cd12 ct12 oc13 kV13 dc13 pm13 cd13 ct13 oc14 kV14 dc14 pm14 cd14 ct14 oc15 kV15 dc15 pm15 cd15 ct15 oc16 kV16 dc16 pm16 cd16 ct16 oc17 kV17 dc17 pm17 cd17 ct17 oc18 kV18 dc18 pm18 cd18 ct18 oc19 kV19 dc19 pm19 cd19 ct19 oc20 kV20 dc20 pm20 cd20 ct20 oc21 kV21 dc21 pm21 cd21 ct21 oc22 kV22 dc22 pm22 cd22 ct22 oc23 kV23 dc23 pm23 cd23 ct23:Value} {dt0x0 dt0x1 dt0x2 dt0x3 du0x0 du0x1 du0x2 du0x3 dp0:Nat} {dh0x0 dh0x1 dh0x2 dh0x3:Int} {e0 e1 e2 e3 e4 e5 e6 e7 e8 e9 e10 e11 eN0 eN1 eN2 eN3 eN4 eN5 eN6 eN7 eN8 eN9 eN10 eN11:Addr} {enm0 enm1 enm2 enm3 enm4 enm5 enm6 enm7 enm8 enm9 enm10 enm11 eqn0 eqn1 eqn2 eqn3 eqn4 eqn5 eqn6 eqn7 eqn8 eqn9 eqn10 eqn11:Str} {ebs0 ebs1 ebs2 ebs3 ebs4 ebs5 ebs6 ebs7 ebs8 ebs9 ebs10 ebs11 esu0 esu1 esu2 esu3 esu4 esu5 esu6 esu7 esu8 esu9 esu10 esu11:List Value} {esn0 esn1 esn2 esn3 esn4 esn5 esn6 esn7 esn8 esn9 esn10 esn11:List Str} {eab0 eab1 eab2 eab3 eab4 eab5 eab6 eab7 eab8 eab9 eab10 eab11:Bool} {eco0 eco1 eco2 eco3 eco4 eco5 eco6 eco7 eco8 eco9 eco10 eco11:Option Bool} {edd0 edd1 edd2 edd3 edd4 edd5 edd6 edd7 edd8 edd9 edd10 edd11:Option Addr} {eka0 eka1 eka2 eka3 eka4 eka5 eka6 eka7 eka8 eka9 eka10 eka11 ekb0 ekb1 ekb2 ekb3 ekb4 ekb5 ekb6 ekb7 ekb8 ekb9 ekb10 ekb11 ekc0 ekc1 ekc2 ekc3 ekc4 ekc5 ekc6 ekc7 ekc8 ekc9 ekc10 ekc11 ekd0 ekd1 ekd2 ekd3 ekd4 ekd5 ekd6 ekd7 ekd8 ekd9 ekd10 ekd11 eke0 eke1 eke2 eke3 eke4 eke5 eke6 eke7 eke8 eke9 eke10 eke11:Option Value}
  (a0:PySem.W.nsIn K mainGlobals "how_many_below"=some (some (.ref f0)))
  (l0:K.lookup f0=some ⟨oc0,od0,.func (PySem.W.fnOf "how_many_below" "how_many_below" (bb xg) (ax xg) (ah xg) .none kV0 dc0 pm0 an0 cd0 ct0),sl0⟩)
  (c0:PySem.W.codeIn K cd0 "how_many_below"=true)
  (k0:PySem.W.keepIn K (.ref f0)=true)
  (a1:PySem.W.nsIn K mainGlobals "place_behind"=some (some (.ref f1)))
  (l1:K.lookup f1=some ⟨oc1,od1,.func (PySem.W.fnOf "place_behind" "place_behind" (bb gv) (ax gv) (ah gv) .none kV1 dc1 pm1 an1 cd1 ct1),sl1⟩)
  (c1:PySem.W.codeIn K cd1 "place_behind"=true)
  (k1:PySem.W.keepIn K (.ref f1)=true)
  (a2:PySem.W.nsIn K mainGlobals "leaf_letter"=some (some (.ref f2)))
  (l2:K.lookup f2=some ⟨oc2,od2,.func (PySem.W.fnOf "leaf_letter" "leaf_letter" (bb m7) (ax m7) (ah m7) .none kV2 dc2 pm2 an2 cd2 ct2),sl2⟩)
  (c2:PySem.W.codeIn K cd2 "leaf_letter"=true)
  (k2:PySem.W.keepIn K (.ref f2)=true)
  (a3:PySem.W.nsIn K mainGlobals "lies_upon"=some (some (.ref f3)))
  (l3:K.lookup f3=some ⟨oc3,od3,.func (PySem.W.fnOf "lies_upon" "lies_upon" (bb n6) (ax n6) (ah n6) .none kV3 dc3 pm3 an3 cd3 ct3),sl3⟩)
  (c3:PySem.W.codeIn K cd3 "lies_upon"=true)
  (k3:PySem.W.keepIn K (.ref f3)=true)
  (a4:PySem.W.nsIn K mainGlobals "laid"=some (some (.ref f4)))
  (l4:K.lookup f4=some ⟨oc4,od4,.func (PySem.W.fnOf "laid" "laid" (bb oq) (ax oq) (ah oq) .none kV4 dc4 pm4 an4 cd4 ct4),sl4⟩)
  (c4:PySem.W.codeIn K cd4 "laid"=true)
  (k4:PySem.W.keepIn K (.ref f4)=true)
  (a5:PySem.W.nsIn K mainGlobals "holes_under"=some (some (.ref f5)))
  (l5:K.lookup f5=some ⟨oc5,od5,.func (PySem.W.fnOf "holes_under" "holes_under" (bb gr) (ax gr) (ah gr) .none kV5 dc5 pm5 an5 cd5 ct5),sl5⟩)
  (c5:PySem.W.codeIn K cd5 "holes_under"=true)
  (k5:PySem.W.keepIn K (.ref f5)=true)
  (a6:PySem.W.nsIn K mainGlobals "laid_rule"=some (some (.ref f6)))
  (l6:K.lookup f6=some ⟨oc6,od6,.func (PySem.W.fnOf "laid_rule" "laid_rule" (bb ji) (ax ji) (ah ji) .none kV6 dc6 pm6 an6 cd6 ct6),sl6⟩)
  (c6:PySem.W.codeIn K cd6 "laid_rule"=true)
  (k6:PySem.W.keepIn K (.ref f6)=true)
  (a7:PySem.W.nsIn K mainGlobals "last_hole_first"=some (some (.ref f7)))
  (l7:K.lookup f7=some ⟨oc7,od7,.func (PySem.W.fnOf "last_hole_first" "last_hole_first" (bb oh) (ax oh) (ah oh) .none kV7 dc7 pm7 an7 cd7 ct7),sl7⟩)
  (c7:PySem.W.codeIn K cd7 "last_hole_first"=true)
  (k7:PySem.W.keepIn K (.ref f7)=true)
  (a8:PySem.W.nsIn K mainGlobals "laid_cover"=some (some (.ref f8)))
  (l8:K.lookup f8=some ⟨oc8,od8,.func (PySem.W.fnOf "laid_cover" "laid_cover" (bb gz) (ax gz) (ah gz) .none kV8 dc8 pm8 an8 cd8 ct8),sl8⟩)
  (c8:PySem.W.codeIn K cd8 "laid_cover"=true)
  (k8:PySem.W.keepIn K (.ref f8)=true)
  (a9:PySem.W.nsIn K mainGlobals "cover_price"=some (some (.ref f9)))
  (l9:K.lookup f9=some ⟨oc9,od9,.func (PySem.W.fnOf "cover_price" "cover_price" (bb gy) (ax gy) (ah gy) .none kV9 dc9 pm9 an9 cd9 ct9),sl9⟩)
  (c9:PySem.W.codeIn K cd9 "cover_price"=true)
  (k9:PySem.W.keepIn K (.ref f9)=true)
  (a10:PySem.W.nsIn K mainGlobals "_law_next"=some (some (.ref f10)))
  (l10:K.lookup f10=some ⟨oc10,od10,.func (PySem.W.fnOf "_law_next" "_law_next" (bb oj) (ax oj) (ah oj) .none kV10 dc10 pm10 an10 cd10 ct10),sl10⟩)
  (c10:PySem.W.codeIn K cd10 "_law_next"=true)
  (k10:PySem.W.keepIn K (.ref f10)=true)
  (a11:PySem.W.nsIn K mainGlobals "_law_ends"=some (some (.ref f11)))
  (l11:K.lookup f11=some ⟨oc11,od11,.func (PySem.W.fnOf "_law_ends" "_law_ends" (bb nj) (ax nj) (ah nj) .none kV11 dc11 pm11 an11 cd11 ct11),sl11⟩)
  (c11:PySem.W.codeIn K cd11 "_law_ends"=true)
  (k11:PySem.W.keepIn K (.ref f11)=true)
  (a12:PySem.W.nsIn K mainGlobals "_law_laid"=some (some (.ref f12)))
  (l12:K.lookup f12=some ⟨oc12,od12,.func (PySem.W.fnOf "_law_laid" "_law_laid" (bb i7) (ax i7) (ah i7) .none kV12 dc12 pm12 an12 cd12 ct12),sl12⟩)
  (c12:PySem.W.codeIn K cd12 "_law_laid"=true)
  (k12:PySem.W.keepIn K (.ref f12)=true)
  (a13:PySem.W.nsIn K mainGlobals "_law_term"=some (some (.ref f13)))
  (l13:K.lookup f13=some ⟨oc13,od13,.func (PySem.W.fnOf "_law_term" "_law_term" (bb nk) (ax nk) (ah nk) .none kV13 dc13 pm13 an13 cd13 ct13),sl13⟩)
  (c13:PySem.W.codeIn K cd13 "_law_term"=true)
  (k13:PySem.W.keepIn K (.ref f13)=true)
  (a14:PySem.W.nsIn K mainGlobals "_law_shape"=some (some (.ref f14)))
  (l14:K.lookup f14=some ⟨oc14,od14,.func (PySem.W.fnOf "_law_shape" "_law_shape" (bb jl) (ax jl) (ah jl) .none kV14 dc14 pm14 an14 cd14 ct14),sl14⟩)
  (c14:PySem.W.codeIn K cd14 "_law_shape"=true)
  (k14:PySem.W.keepIn K (.ref f14)=true)
  (a15:PySem.W.nsIn K mainGlobals "_law_deeds"=some (some (.ref f15)))
  (l15:K.lookup f15=some ⟨oc15,od15,.func (PySem.W.fnOf "_law_deeds" "_law_deeds" (bb jd) (ax jd) (ah jd) .none kV15 dc15 pm15 an15 cd15 ct15),sl15⟩)
  (c15:PySem.W.codeIn K cd15 "_law_deeds"=true)
  (k15:PySem.W.keepIn K (.ref f15)=true)
  (a16:PySem.W.nsIn K mainGlobals "_law_book"=some (some (.ref f16)))
  (l16:K.lookup f16=some ⟨oc16,od16,.func (PySem.W.fnOf "_law_book" "_law_book" (bb nq) (ax nq) (ah nq) .none kV16 dc16 pm16 an16 cd16 ct16),sl16⟩)
  (c16:PySem.W.codeIn K cd16 "_law_book"=true)
  (k16:PySem.W.keepIn K (.ref f16)=true)
  (a17:PySem.W.nsIn K mainGlobals "_law_names"=some (some (.ref f17)))
  (l17:K.lookup f17=some ⟨oc17,od17,.func (PySem.W.fnOf "_law_names" "_law_names" (bb i6) (ax i6) (ah i6) .none kV17 dc17 pm17 an17 cd17 ct17),sl17⟩)
  (c17:PySem.W.codeIn K cd17 "_law_names"=true)
  (k17:PySem.W.keepIn K (.ref f17)=true)
  (a18:PySem.W.nsIn K mainGlobals "_law_holes"=some (some (.ref f18)))
  (l18:K.lookup f18=some ⟨oc18,od18,.func (PySem.W.fnOf "_law_holes" "_law_holes" (bb gx) (ax gx) (ah gx) .none kV18 dc18 pm18 an18 cd18 ct18),sl18⟩)
  (c18:PySem.W.codeIn K cd18 "_law_holes"=true)
  (k18:PySem.W.keepIn K (.ref f18)=true)
  (a19:PySem.W.nsIn K mainGlobals "_law_cover"=some (some (.ref f19)))
  (l19:K.lookup f19=some ⟨oc19,od19,.func (PySem.W.fnOf "_law_cover" "_law_cover" (bb gw) (ax gw) (ah gw) .none kV19 dc19 pm19 an19 cd19 ct19),sl19⟩)
  (c19:PySem.W.codeIn K cd19 "_law_cover"=true)
  (k19:PySem.W.keepIn K (.ref f19)=true)
  (a20:PySem.W.nsIn K mainGlobals "_law_price"=some (some (.ref f20)))
  (l20:K.lookup f20=some ⟨oc20,od20,.func (PySem.W.fnOf "_law_price" "_law_price" (bb i8) (ax i8) (ah i8) .none kV20 dc20 pm20 an20 cd20 ct20),sl20⟩)
  (c20:PySem.W.codeIn K cd20 "_law_price"=true)
  (k20:PySem.W.keepIn K (.ref f20)=true)
  (a21:PySem.W.nsIn K mainGlobals "_law_bent"=some (some (.ref f21)))
  (l21:K.lookup f21=some ⟨oc21,od21,.func (PySem.W.fnOf "_law_bent" "_law_bent" (bb o9) (ax o9) (ah o9) .none kV21 dc21 pm21 an21 cd21 ct21),sl21⟩)
  (c21:PySem.W.codeIn K cd21 "_law_bent"=true)
  (k21:PySem.W.keepIn K (.ref f21)=true)
  (a22:PySem.W.nsIn K mainGlobals "_law_asked"=some (some (.ref f22)))
  (l22:K.lookup f22=some ⟨oc22,od22,.func (PySem.W.fnOf "_law_asked" "_law_asked" (bb i9) (ax i9) (ah i9) .none kV22 dc22 pm22 an22 cd22 ct22),sl22⟩)
  (c22:PySem.W.codeIn K cd22 "_law_asked"=true)
  (k22:PySem.W.keepIn K (.ref f22)=true)
  (a23:PySem.W.nsIn K mainGlobals "law"=some (some (.ref f23)))
  (l23:K.lookup f23=some ⟨oc23,od23,.func (PySem.W.fnOf "law" "law" (bb sx) (ax sx) (ah sx) .none kV23 dc23 pm23 an23 cd23 ct23),sl23⟩)
  (c23:PySem.W.codeIn K cd23 "law"=true)
  (k23:PySem.W.keepIn K (.ref f23)=true)
  (z0:PySem.W.nsIn K mainGlobals "ValueError"=some none)
  (z1:PySem.W.nsIn K mainGlobals "bool"=some none)
  (z2:PySem.W.nsIn K mainGlobals "int"=some none)
  (z3:PySem.W.nsIn K mainGlobals "isinstance"=some none)
  (z4:PySem.W.nsIn K mainGlobals "len"=some none)
  (z5:PySem.W.nsIn K mainGlobals "list"=some none)
  (z6:PySem.W.nsIn K mainGlobals "min"=some none)
  (z7:PySem.W.nsIn K mainGlobals "range"=some none)
  (z8:PySem.W.nsIn K mainGlobals "reversed"=some none)
  (z9:PySem.W.nsIn K mainGlobals "str"=some none)
  (z10:PySem.W.nsIn K mainGlobals "sum"=some none)
  (z11:PySem.W.nsIn K mainGlobals "tuple"=some none)
  (z12:PySem.W.nsIn K mainGlobals "zip"=some none)
  (y0:PySem.W.nsIn K mainGlobals "PARTS_BELOW"=some (some (.ref g0)))
  (x0:K.lookup g0=some ⟨.type "dict",none,.dict #[⟨dh0x0,.str "add" dt0x0,.int 2 du0x0⟩,⟨dh0x1,.str "sub" dt0x1,.int 2 du0x1⟩,⟨dh0x2,.str "mul" dt0x2,.int 2 du0x2⟩,⟨dh0x3,.str "neg" dt0x3,.int 1 du0x3⟩] dp0,#[]⟩)
  (hh0x0:dh0x0=hashStr w "add")
  (hh0x1:dh0x1=hashStr w "sub")
  (hh0x2:dh0x2=hashStr w "mul")
  (hh0x3:dh0x3=hashStr w "neg")
  (ha0:(g0==sysModules)=false)
  (cn0:PySem.W.nsIn K mainGlobals "CoverError"=some (some (.ref e0)))
  (cl0:K.lookup e0=some (excClassObj enm0 eqn0 e0 eN0 ebs0 vbm true esn0 esu0 eab0 eco0 edd0 eka0 ekb0 ekc0 ekd0 eke0 "ValueError.__new__"))
  (ck0:PySem.W.keepIn K (.ref e0)=true)
  (cs0:PySem.W.findIn K (.ref e0) "__setattr__"=some (some (.builtin "object.__setattr__")))
  (cg0:PySem.W.findIn K (.ref e0) "__getattribute__"=some (some (.builtin "BaseException.__getattribute__")))
  (ch0:PySem.W.findIn K (.ref e0) "__getattr__"=some (none))
  (cc0:PySem.W.findIn K (.ref e0) "__class__"=some (some (.builtin "object.__class__")))
  (cn1:PySem.W.nsIn K mainGlobals "NoTerm"=some (some (.ref e1)))
  (cl1:K.lookup e1=some (excClassObj enm1 eqn1 e1 eN1 ebs1 (.ref e0::vbm) true esn1 esu1 eab1 eco1 edd1 eka1 ekb1 ekc1 ekd1 eke1 "ValueError.__new__"))
  (ck1:PySem.W.keepIn K (.ref e1)=true)
  (cs1:PySem.W.findIn K (.ref e1) "__setattr__"=some (some (.builtin "object.__setattr__")))
  (cg1:PySem.W.findIn K (.ref e1) "__getattribute__"=some (some (.builtin "BaseException.__getattribute__")))
  (ch1:PySem.W.findIn K (.ref e1) "__getattr__"=some (none))
  (cc1:PySem.W.findIn K (.ref e1) "__class__"=some (some (.builtin "object.__class__")))
  (cn2:PySem.W.nsIn K mainGlobals "NoBox"=some (some (.ref e2)))
  (cl2:K.lookup e2=some (excClassObj enm2 eqn2 e2 eN2 ebs2 (.ref e0::vbm) true esn2 esu2 eab2 eco2 edd2 eka2 ekb2 ekc2 ekd2 eke2 "ValueError.__new__"))
  (ck2:PySem.W.keepIn K (.ref e2)=true)
  (cs2:PySem.W.findIn K (.ref e2) "__setattr__"=some (some (.builtin "object.__setattr__")))
  (cg2:PySem.W.findIn K (.ref e2) "__getattribute__"=some (some (.builtin "BaseException.__getattribute__")))
  (ch2:PySem.W.findIn K (.ref e2) "__getattr__"=some (none))
  (cc2:PySem.W.findIn K (.ref e2) "__class__"=some (some (.builtin "object.__class__")))
  (cn3:PySem.W.nsIn K mainGlobals "BadCover"=some (some (.ref e3)))
  (cl3:K.lookup e3=some (excClassObj enm3 eqn3 e3 eN3 ebs3 (.ref e0::vbm) true esn3 esu3 eab3 eco3 edd3 eka3 ekb3 ekc3 ekd3 eke3 "ValueError.__new__"))
  (ck3:PySem.W.keepIn K (.ref e3)=true)
  (cs3:PySem.W.findIn K (.ref e3) "__setattr__"=some (some (.builtin "object.__setattr__")))
  (cg3:PySem.W.findIn K (.ref e3) "__getattribute__"=some (some (.builtin "BaseException.__getattribute__")))
  (ch3:PySem.W.findIn K (.ref e3) "__getattr__"=some (none))
  (cc3:PySem.W.findIn K (.ref e3) "__class__"=some (some (.builtin "object.__class__")))
  (cn4:PySem.W.nsIn K mainGlobals "NoCover"=some (some (.ref e4)))
  (cl4:K.lookup e4=some (excClassObj enm4 eqn4 e4 eN4 ebs4 (.ref e0::vbm) true esn4 esu4 eab4 eco4 edd4 eka4 ekb4 ekc4 ekd4 eke4 "ValueError.__new__"))
  (ck4:PySem.W.keepIn K (.ref e4)=true)
  (cs4:PySem.W.findIn K (.ref e4) "__setattr__"=some (some (.builtin "object.__setattr__")))
  (cg4:PySem.W.findIn K (.ref e4) "__getattribute__"=some (some (.builtin "BaseException.__getattribute__")))
  (ch4:PySem.W.findIn K (.ref e4) "__getattr__"=some (none))
  (cc4:PySem.W.findIn K (.ref e4) "__class__"=some (some (.builtin "object.__class__")))
  (cn5:PySem.W.nsIn K mainGlobals "BadRow"=some (some (.ref e5)))
  (cl5:K.lookup e5=some (excClassObj enm5 eqn5 e5 eN5 ebs5 (.ref e0::vbm) true esn5 esu5 eab5 eco5 edd5 eka5 ekb5 ekc5 ekd5 eke5 "ValueError.__new__"))
  (ck5:PySem.W.keepIn K (.ref e5)=true)
  (cs5:PySem.W.findIn K (.ref e5) "__setattr__"=some (some (.builtin "object.__setattr__")))
  (cg5:PySem.W.findIn K (.ref e5) "__getattribute__"=some (some (.builtin "BaseException.__getattribute__")))
  (ch5:PySem.W.findIn K (.ref e5) "__getattr__"=some (none))
  (cc5:PySem.W.findIn K (.ref e5) "__class__"=some (some (.builtin "object.__class__")))
  (cn6:PySem.W.nsIn K mainGlobals "NoValue"=some (some (.ref e6)))
  (cl6:K.lookup e6=some (excClassObj enm6 eqn6 e6 eN6 ebs6 (.ref e0::vbm) true esn6 esu6 eab6 eco6 edd6 eka6 ekb6 ekc6 ekd6 eke6 "ValueError.__new__"))
  (ck6:PySem.W.keepIn K (.ref e6)=true)
  (cs6:PySem.W.findIn K (.ref e6) "__setattr__"=some (some (.builtin "object.__setattr__")))
  (cg6:PySem.W.findIn K (.ref e6) "__getattribute__"=some (some (.builtin "BaseException.__getattribute__")))
  (ch6:PySem.W.findIn K (.ref e6) "__getattr__"=some (none))
  (cc6:PySem.W.findIn K (.ref e6) "__class__"=some (some (.builtin "object.__class__")))
  (cn7:PySem.W.nsIn K mainGlobals "Twice"=some (some (.ref e7)))
  (cl7:K.lookup e7=some (excClassObj enm7 eqn7 e7 eN7 ebs7 (.ref e0::vbm) true esn7 esu7 eab7 eco7 edd7 eka7 ekb7 ekc7 ekd7 eke7 "ValueError.__new__"))
  (ck7:PySem.W.keepIn K (.ref e7)=true)
  (cs7:PySem.W.findIn K (.ref e7) "__setattr__"=some (some (.builtin "object.__setattr__")))
  (cg7:PySem.W.findIn K (.ref e7) "__getattribute__"=some (some (.builtin "BaseException.__getattribute__")))
  (ch7:PySem.W.findIn K (.ref e7) "__getattr__"=some (none))
  (cc7:PySem.W.findIn K (.ref e7) "__class__"=some (some (.builtin "object.__class__")))
  (cn8:PySem.W.nsIn K mainGlobals "NoName"=some (some (.ref e8)))
  (cl8:K.lookup e8=some (excClassObj enm8 eqn8 e8 eN8 ebs8 (.ref e0::vbm) true esn8 esu8 eab8 eco8 edd8 eka8 ekb8 ekc8 ekd8 eke8 "ValueError.__new__"))
  (ck8:PySem.W.keepIn K (.ref e8)=true)
  (cs8:PySem.W.findIn K (.ref e8) "__setattr__"=some (some (.builtin "object.__setattr__")))
  (cg8:PySem.W.findIn K (.ref e8) "__getattribute__"=some (some (.builtin "BaseException.__getattribute__")))
  (ch8:PySem.W.findIn K (.ref e8) "__getattr__"=some (none))
  (cc8:PySem.W.findIn K (.ref e8) "__class__"=some (some (.builtin "object.__class__")))
  (cn9:PySem.W.nsIn K mainGlobals "BadShape"=some (some (.ref e9)))
  (cl9:K.lookup e9=some (excClassObj enm9 eqn9 e9 eN9 ebs9 (.ref e0::vbm) true esn9 esu9 eab9 eco9 edd9 eka9 ekb9 ekc9 ekd9 eke9 "ValueError.__new__"))
  (ck9:PySem.W.keepIn K (.ref e9)=true)
  (cs9:PySem.W.findIn K (.ref e9) "__setattr__"=some (some (.builtin "object.__setattr__")))
  (cg9:PySem.W.findIn K (.ref e9) "__getattribute__"=some (some (.builtin "BaseException.__getattribute__")))
  (ch9:PySem.W.findIn K (.ref e9) "__getattr__"=some (none))
  (cc9:PySem.W.findIn K (.ref e9) "__class__"=some (some (.builtin "object.__class__")))
  (cn10:PySem.W.nsIn K mainGlobals "BadDeed"=some (some (.ref e10)))
  (cl10:K.lookup e10=some (excClassObj enm10 eqn10 e10 eN10 ebs10 (.ref e0::vbm) true esn10 esu10 eab10 eco10 edd10 eka10 ekb10 ekc10 ekd10 eke10 "ValueError.__new__"))
  (ck10:PySem.W.keepIn K (.ref e10)=true)
  (cs10:PySem.W.findIn K (.ref e10) "__setattr__"=some (some (.builtin "object.__setattr__")))
  (cg10:PySem.W.findIn K (.ref e10) "__getattribute__"=some (some (.builtin "BaseException.__getattribute__")))
  (ch10:PySem.W.findIn K (.ref e10) "__getattr__"=some (none))
  (cc10:PySem.W.findIn K (.ref e10) "__class__"=some (some (.builtin "object.__class__")))
  (cn11:PySem.W.nsIn K mainGlobals "Unsound"=some (some (.ref e11)))
  (cl11:K.lookup e11=some (excClassObj enm11 eqn11 e11 eN11 ebs11 (.ref e0::vbm) true esn11 esu11 eab11 eco11 edd11 eka11 ekb11 ekc11 ekd11 eke11 "ValueError.__new__"))
  (ck11:PySem.W.keepIn K (.ref e11)=true)
  (cs11:PySem.W.findIn K (.ref e11) "__setattr__"=some (some (.builtin "object.__setattr__")))
  (cg11:PySem.W.findIn K (.ref e11) "__getattribute__"=some (some (.builtin "BaseException.__getattribute__")))
  (ch11:PySem.W.findIn K (.ref e11) "__getattr__"=some (none))
  (cc11:PySem.W.findIn K (.ref e11) "__class__"=some (some (.builtin "object.__class__")))
  (crd:PySem.W.readsIn K e0 (.type "type")=true)
  (cty:PySem.W.typeIn K (.ref e0)=some (.type "type"))
  (cfi:PySem.W.findCls K (.ref e0) (.type "type") "__init__"=some (.val (.builtin "ValueError.__init__")))
  (ndup:([e0,e1,e2,e3,e4,e5,e6,e7,e8,e9,e10,e11]:List Addr).Nodup)
  (ip3:PySem.W.findIn K (.ref e3) "__init__"=some (some (.builtin "ValueError.__init__"))):
  ∃fd:FuncData,(∀(s:Shared) (v:Value),BindsTo s fd ⟨[v],[]⟩ [("script",v)])∧∀base:Heap,K.In base→base.Ns mainGlobals mg→iz l.prog w K mg base CX0 8 fa fd ["script"] (zt K):=by
 have e:=hfa.symm.trans (PySem.W.mg_of X G a23);cases e
 have G0:Gs w K mg ⟨e0,e1,e2,e3,e4,e5,e6,e7,e8,e9,e10,e11⟩:=⟨⟨ndup,PySem.W.mg_of X G cn0,PySem.W.mg_of X G cn1,PySem.W.mg_of X G cn2,PySem.W.mg_of X G cn3,PySem.W.mg_of X G cn4,PySem.W.mg_of X G cn5,PySem.W.mg_of X G cn6,PySem.W.mg_of X G cn7,PySem.W.mg_of X G cn8,PySem.W.mg_of X G cn9,PySem.W.mg_of X G cn10,PySem.W.mg_of X G cn11,Xc.mk' cl0 ck0 cs0 cg0 ch0 cc0 (.inl rfl),Xc.mk' cl1 ck1 cs1 cg1 ch1 cc1 (.inr ⟨_,rfl⟩),Xc.mk' cl2 ck2 cs2 cg2 ch2 cc2 (.inr ⟨_,rfl⟩),Xc.mk' cl3 ck3 cs3 cg3 ch3 cc3 (.inr ⟨_,rfl⟩),Xc.mk' cl4 ck4 cs4 cg4 ch4 cc4 (.inr ⟨_,rfl⟩),Xc.mk' cl5 ck5 cs5 cg5 ch5 cc5 (.inr ⟨_,rfl⟩),Xc.mk' cl6 ck6 cs6 cg6 ch6 cc6 (.inr ⟨_,rfl⟩),Xc.mk' cl7 ck7 cs7 cg7 ch7 cc7 (.inr ⟨_,rfl⟩),Xc.mk' cl8 ck8 cs8 cg8 ch8 cc8 (.inr ⟨_,rfl⟩),Xc.mk' cl9 ck9 cs9 cg9 ch9 cc9 (.inr ⟨_,rfl⟩),Xc.mk' cl10 ck10 cs10 cg10 ch10 cc10 (.inr ⟨_,rfl⟩),Xc.mk' cl11 ck11 cs11 cg11 ch11 cc11 (.inr ⟨_,rfl⟩),crd,cty,cfi⟩,ip3,PySem.W.mg_none_of X G z0,PySem.W.mg_none_of X G z1,PySem.W.mg_none_of X G z2,PySem.W.mg_none_of X G z3,PySem.W.mg_none_of X G z4,PySem.W.mg_none_of X G z5,PySem.W.mg_none_of X G z6,PySem.W.mg_none_of X G z7,PySem.W.mg_none_of X G z8,PySem.W.mg_none_of X G z9,PySem.W.mg_none_of X G z10,PySem.W.mg_none_of X G z11,PySem.W.mg_none_of X G z12,⟨g0,PySem.W.mg_of X G y0,G1 [(dh0x0,"add",dt0x0,2,du0x0),(dh0x1,"sub",dt0x1,2,du0x1),(dh0x2,"mul",dt0x2,2,du0x2),(dh0x3,"neg",dt0x3,1,du0x3)] x0 ha0 (by intro e he;simp only[aag,aa4,or_false] at he;rcases he with rfl | rfl | rfl | rfl <;> assumption) (by show abp ([Sum.inr "add",Sum.inr "sub",Sum.inr "mul",Sum.inr "neg"]:List Key);decide+kernel)⟩⟩;have F0:=bx (st:=xg) l0 c0 k0;have D0:Def K mg "how_many_below" xg ["word"]:=⟨f0,_,F0,F0.binds (ps:=["word"]) (λ_ _ _ _ _ _ us hl=>by refine us1 (P:=λus=>bindArgs _ ⟨us,[]⟩=pure (ab5 _ us)) hl ?_;intros;rfl),PySem.W.mg_of X G a0⟩;have F1:=bx (st:=gv) l1 c1 k1;have D1:Def K mg "place_behind" gv ["words","place"]:=⟨f1,_,F1,F1.binds (ps:=["words","place"]) (λ_ _ _ _ _ _ us hl=>by refine us2 (P:=λus=>bindArgs _ ⟨us,[]⟩=pure (ab5 _ us)) hl ?_;intros;rfl),PySem.W.mg_of X G a1⟩;have F2:=bx (st:=m7) l2 c2 k2;have D2:Def K mg "leaf_letter" m7 ["word","kinds"]:=⟨f2,_,F2,F2.binds (ps:=["word","kinds"]) (λ_ _ _ _ _ _ us hl=>by refine us2 (P:=λus=>bindArgs _ ⟨us,[]⟩=pure (ab5 _ us)) hl ?_;intros;rfl),PySem.W.mg_of X G a2⟩;have F3:=bx (st:=n6) l3 c3 k3;have D3:Def K mg "lies_upon" n6 ["letter","shape_word","word"]:=⟨f3,_,F3,F3.binds (ps:=["letter","shape_word","word"]) (λ_ _ _ _ _ _ us hl=>by refine us3 (P:=λus=>bindArgs _ ⟨us,[]⟩=pure (ab5 _ us)) hl ?_;intros;rfl),PySem.W.mg_of X G a3⟩;have F4:=bx (st:=oq) l4 c4 k4;have D4:Def K mg "laid" oq ["shape","kinds","words","place"]:=⟨f4,_,F4,F4.binds (ps:=["shape","kinds","words","place"]) (λ_ _ _ _ _ _ us hl=>by refine us4 (P:=λus=>bindArgs _ ⟨us,[]⟩=pure (ab5 _ us)) hl ?_;intros;rfl),PySem.W.mg_of X G a4⟩;have F5:=bx (st:=gr) l5 c5 k5;have D5:Def K mg "holes_under" gr ["shape","kinds","under"]:=⟨f5,_,F5,F5.binds (ps:=["shape","kinds","under"]) (λ_ _ _ _ _ _ us hl=>by refine us3 (P:=λus=>bindArgs _ ⟨us,[]⟩=pure (ab5 _ us)) hl ?_;intros;rfl),PySem.W.mg_of X G a5⟩;have F6:=bx (st:=ji) l6 c6 k6;have D6:Def K mg "laid_rule" ji ["book","name","words","place","kind"]:=⟨f6,_,F6,F6.binds (ps:=["book","name","words","place","kind"]) (λ_ _ _ _ _ _ us hl=>by refine us5 (P:=λus=>bindArgs _ ⟨us,[]⟩=pure (ab5 _ us)) hl ?_;intros;rfl),PySem.W.mg_of X G a6⟩;have F7:=bx (st:=oh) l7 c7 k7;have D7:Def K mg "last_hole_first" oh ["book","step"]:=⟨f7,_,F7,F7.binds (ps:=["book","step"]) (λ_ _ _ _ _ _ us hl=>by refine us2 (P:=λus=>bindArgs _ ⟨us,[]⟩=pure (ab5 _ us)) hl ?_;intros;rfl),PySem.W.mg_of X G a7⟩;have F8:=bx (st:=gz) l8 c8 k8;have D8:Def K mg "laid_cover" gz ["book","words","place","kind","cover"]:=⟨f8,_,F8,F8.binds (ps:=["book","words","place","kind","cover"]) (λ_ _ _ _ _ _ us hl=>by refine us5 (P:=λus=>bindArgs _ ⟨us,[]⟩=pure (ab5 _ us)) hl ?_;intros;rfl),PySem.W.mg_of X G a8⟩;have F9:=bx (st:=gy) l9 c9 k9;have D9:Def K mg "cover_price" gy ["book","words","place","kind","cover"]:=⟨f9,_,F9,F9.binds (ps:=["book","words","place","kind","cover"]) (λ_ _ _ _ _ _ us hl=>by refine us5 (P:=λus=>bindArgs _ ⟨us,[]⟩=pure (ab5 _ us)) hl ?_;intros;rfl),PySem.W.mg_of X G a9⟩;have F10:=bx (st:=oj) l10 c10 k10;have D10:Def K mg "_law_next" oj ["deck"]:=⟨f10,_,F10,F10.binds (ps:=["deck"]) (λ_ _ _ _ _ _ us hl=>by refine us1 (P:=λus=>bindArgs _ ⟨us,[]⟩=pure (ab5 _ us)) hl ?_;intros;rfl),PySem.W.mg_of X G a10⟩;have F11:=bx (st:=nj) l11 c11 k11;have D11:Def K mg "_law_ends" nj ["words"]:=⟨f11,_,F11,F11.binds (ps:=["words"]) (λ_ _ _ _ _ _ us hl=>by refine us1 (P:=λus=>bindArgs _ ⟨us,[]⟩=pure (ab5 _ us)) hl ?_;intros;rfl),PySem.W.mg_of X G a11⟩;have F12:=bx (st:=i7) l12 c12 k12;have D12:Def K mg "_law_laid" i7 ["kinds","shape","words","ends","place"]:=⟨f12,_,F12,F12.binds (ps:=["kinds","shape","words","ends","place"]) (λ_ _ _ _ _ _ us hl=>by refine us5 (P:=λus=>bindArgs _ ⟨us,[]⟩=pure (ab5 _ us)) hl ?_;intros;rfl),PySem.W.mg_of X G a12⟩;have F13:=bx (st:=nk) l13 c13 k13;have D13:Def K mg "_law_term" nk ["deck","names","most"]:=⟨f13,_,F13,F13.binds (ps:=["deck","names","most"]) (λ_ _ _ _ _ _ us hl=>by refine us3 (P:=λus=>bindArgs _ ⟨us,[]⟩=pure (ab5 _ us)) hl ?_;intros;rfl),PySem.W.mg_of X G a13⟩;have F14:=bx (st:=jl) l14 c14 k14;have D14:Def K mg "_law_shape" jl ["deck","kinds"]:=⟨f14,_,F14,F14.binds (ps:=["deck","kinds"]) (λ_ _ _ _ _ _ us hl=>by refine us2 (P:=λus=>bindArgs _ ⟨us,[]⟩=pure (ab5 _ us)) hl ?_;intros;rfl),PySem.W.mg_of X G a14⟩;have F15:=bx (st:=jd) l15 c15 k15;have D15:Def K mg "_law_deeds" jd ["kinds","shape"]:=⟨f15,_,F15,F15.binds (ps:=["kinds","shape"]) (λ_ _ _ _ _ _ us hl=>by refine us2 (P:=λus=>bindArgs _ ⟨us,[]⟩=pure (ab5 _ us)) hl ?_;intros;rfl),PySem.W.mg_of X G a15⟩;have F16:=bx (st:=nq) l16 c16 k16;have D16:Def K mg "_law_book" nq ["deck","names"]:=⟨f16,_,F16,F16.binds (ps:=["deck","names"]) (λ_ _ _ _ _ _ us hl=>by refine us2 (P:=λus=>bindArgs _ ⟨us,[]⟩=pure (ab5 _ us)) hl ?_;intros;rfl),PySem.W.mg_of X G a16⟩;have F17:=bx (st:=i6) l17 c17 k17;have D17:Def K mg "_law_names" i6 ["deck"]:=⟨f17,_,F17,F17.binds (ps:=["deck"]) (λ_ _ _ _ _ _ us hl=>by refine us1 (P:=λus=>bindArgs _ ⟨us,[]⟩=pure (ab5 _ us)) hl ?_;intros;rfl),PySem.W.mg_of X G a17⟩;have F18:=bx (st:=gx) l18 c18 k18;have D18:Def K mg "_law_holes" gx ["kinds","shape"]:=⟨f18,_,F18,F18.binds (ps:=["kinds","shape"]) (λ_ _ _ _ _ _ us hl=>by refine us2 (P:=λus=>bindArgs _ ⟨us,[]⟩=pure (ab5 _ us)) hl ?_;intros;rfl),PySem.W.mg_of X G a18⟩;have F19:=bx (st:=gw) l19 c19 k19;have D19:Def K mg "_law_cover" gw ["deck","book","words","place","kind","most"]:=⟨f19,_,F19,F19.binds (ps:=["deck","book","words","place","kind","most"]) (λ_ _ _ _ _ _ us hl=>by refine us6 (P:=λus=>bindArgs _ ⟨us,[]⟩=pure (ab5 _ us)) hl ?_;intros;rfl),PySem.W.mg_of X G a19⟩;have F20:=bx (st:=i8) l20 c20 k20;have D20:Def K mg "_law_price" i8 ["book","words","place","kind","cover"]:=⟨f20,_,F20,F20.binds (ps:=["book","words","place","kind","cover"]) (λ_ _ _ _ _ _ us hl=>by refine us5 (P:=λus=>bindArgs _ ⟨us,[]⟩=pure (ab5 _ us)) hl ?_;intros;rfl),PySem.W.mg_of X G a20⟩;have F21:=bx (st:=o9) l21 c21 k21;have D21:Def K mg "_law_bent" o9 ["deck","cover","book","names"]:=⟨f21,_,F21,F21.binds (ps:=["deck","cover","book","names"]) (λ_ _ _ _ _ _ us hl=>by refine us4 (P:=λus=>bindArgs _ ⟨us,[]⟩=pure (ab5 _ us)) hl ?_;intros;rfl),PySem.W.mg_of X G a21⟩;have F22:=bx (st:=i9) l22 c22 k22;have D22:Def K mg "_law_asked" i9 ["book","words","place","kind","cover"]:=⟨f22,_,F22,F22.binds (ps:=["book","words","place","kind","cover"]) (λ_ _ _ _ _ _ us hl=>by refine us5 (P:=λus=>bindArgs _ ⟨us,[]⟩=pure (ab5 _ us)) hl ?_;intros;rfl),PySem.W.mg_of X G a22⟩;have F23:=bx (st:=sx) l23 c23 k23;refine ⟨PySem.W.fnOf "law" "law" (bb sx) (ax sx) (ah sx) .none kV23 dc23 pm23 an23 cd23 ct23,λs v=>.of_eq rfl,λbase _ _=>?_⟩;have H0:Has l.prog w K mg base 1 "how_many_below" ["word"] my:=hasHow (k:=0) G0   D0;have H1:Has l.prog w K mg base 2 "place_behind" ["words","place"] (pe K):=Aq (k:=1) G0 (H0.up (by decide))  D1;have H2:Has l.prog w K mg base 1 "leaf_letter" ["word","kinds"] (gm K):=Fw (k:=0) G0   D2;have H3:Has l.prog w K mg base 2 "lies_upon" ["letter","shape_word","word"] tj:=Ho (k:=1) G0 (H0.up (by decide))  D3;have H4:Has l.prog w K mg base 3 "laid" ["shape","kinds","words","place"] (ur K):=Gv (k:=2) G0 (H2.up (by decide)) (H3.up (by decide)) (H1.up (by decide))  D4;have H5:Has l.prog w K mg base 2 "holes_under" ["shape","kinds","under"] (j3 K):=Am (k:=1) G0 (H2.up (by decide))  D5;have H6:i4 l.prog w K mg base 4 "laid_rule" ["book","name","words","place","kind"] (jm (Cl.mk e0 e1 e2 e3 e4 e5 e6 e7 e8 e9 e10 e11)):=Fd (k:=3) G0 (H4.up (by decide))  D6;have H7:Has l.prog w K mg base 3 "last_hole_first" ["book","step"] sd:=Iq (k:=2) G0 (H5.up (by decide))  D7;have H8:i4 l.prog w K mg base 5 "laid_cover" ["book","words","place","kind","cover"] (kb (Cl.mk e0 e1 e2 e3 e4 e5 e6 e7 e8 e9 e10 e11)):=Aw (k:=4) G0 (H6.up (by decide)) (H7.up (by decide))  D8;have H9:i4 l.prog w K mg base 6 "cover_price" ["book","words","place","kind","cover"] (j4 (Cl.mk e0 e1 e2 e3 e4 e5 e6 e7 e8 e9 e10 e11)):=Bf (k:=5) G0 (H8.up (by decide))  D9;have H10:Has l.prog w K mg base 1 "_law_next" ["deck"] fi:=hasNext (k:=0) G0   D10;have H11:Has l.prog w K mg base 1 "_law_ends" ["words"] (pf K):=Gi (k:=0) G0   D11;have H12:Has l.prog w K mg base 1 "_law_laid" ["kinds","shape","words","ends","place"] (j8 K):=Cd (k:=0) G0   D12;have H13:Has l.prog w K mg base 2 "_law_term" ["deck","names","most"] mq:=Im (k:=1) G0 (H10.up (by decide))  D13;have H14:Has l.prog w K mg base 2 "_law_shape" ["deck","kinds"] mf:=E7 (k:=1) G0 (H10.up (by decide))  D14;have H15:Has l.prog w K mg base 1 "_law_deeds" ["kinds","shape"] (mi K):=Fi (k:=0) G0   D15;have H16:Has l.prog w K mg base 3 "_law_book" ["deck","names"] rq:=Hw (k:=2) G0 (H15.up (by decide)) (H10.up (by decide)) (H14.up (by decide))  D16;have H17:Has l.prog w K mg base 2 "_law_names" ["deck"] ju:=Eg (k:=1) G0 (H10.up (by decide))  D17;have H18:Has l.prog w K mg base 1 "_law_holes" ["kinds","shape"] (ib K):=Av (k:=0) G0   D18;have H19:Has l.prog w K mg base 2 "_law_cover" ["deck","book","words","place","kind","most"] mv:=Bc (k:=1) G0 (H11.up (by decide)) (H18.up (by decide)) (H12.up (by decide)) (H10.up (by decide))  D19;have H20:Has l.prog w K mg base 2 "_law_price" ["book","words","place","kind","cover"] mr:=By (k:=1) G0 (H11.up (by decide)) (H18.up (by decide)) (H12.up (by decide))  D20;have H21:Has l.prog w K mg base 2 "_law_bent" ["deck","cover","book","names"] ue:=Fy (k:=1) G0 (H10.up (by decide))  D21;have H22:Has l.prog w K mg base 7 "_law_asked" ["book","words","place","kind","cover"] mj:=E1 (k:=6) G0 (H20.up (by decide)) (H9.up (by decide))  D22;exact hasLaw (k:=7) G0 (H22.up (by decide)) (H21.up (by decide)) (H16.up (by decide)) (H19.up (by decide)) (H17.up (by decide)) (H10.up (by decide)) (H13.up (by decide))  F23
theorem walk {l:PySem.W.OpenLaw} {q:Program} {loose:List Str} {XP:(Str→Option Value)→Heap→Prop} {YP:World→Heap→Prop} {d:DefRec} {K:Params→PySem.W.Frag} (hn:l.most=some 63) (hdf:d.params.defaults=[])
  (hY:∀(w:World) (h:Heap),YP w h→(K w.params).In h)
  (F:∀(w:World) (mg:Str→Option Value) (fa:Addr) (h:Heap),(K w.params).In h→h.Ns mainGlobals mg→mg d.name=some (.ref fa)→
   ∃fd:FuncData,(∀(s:Shared) (u:Value),BindsTo s fd ⟨[u],[]⟩ [("script",u)])∧∀base:Heap,(K w.params).In base→base.Ns mainGlobals mg→iz l.prog w (K w.params) mg base CX0 8 fa fd ["script"] (zt (K w.params))):
  PySem.W.WalkO q loose XP YP l.row.toRowW d [] (λf vs=>PySem.call f vs):=
 L2.Ge (n:=63) (k:=8) (x:="script") (CX:=λ_=>CX0) (sp:=λw=>zt (K w.params)) hn (by decide) hdf ⟨rfl,by decide,by decide⟩ hY F (λ_ _ a ns hl _ hS=>⟨a,ns,rfl,hS,hl,λ_=>rfl⟩) λ_ _ _ _ _ z=>z
end K51
namespace PySem.W.Fast
def tw2543765089904831433:=()
def tw6185807392443406197:=()
def tw17253907935551785872:=()
def tw18015768816599874829:=()
def tw1961372479644103418:=()
def tw17353285488405014401:=()
def tw15906737730463476667:=()
def tw5357872130155767247:=()
def tw4758434085482749225:=()
def tw703893698548247640:=()
def tw17900625803761786524:=()
def tw1936718404157625346:=()
def tw13638770366955869446:=()
def tw11335558583329843111:=()
def tw15925645127082819732:=()
def tw14683614739134973001:=()
def tw372434183108747210:=()
def tw9355069034589636256:=()
def tw6831866108037509185:=()
def tw17200686613903091130:=()
def tw13514728708387262774:=()
def tw13672545655555962735:=()
def tw2117710819184898016:=()
def tw6999486259834128391:=()
def tw14590825831035893362:=()
def tw17425644782743599136:=()
def tw16599201266169898360:=()
def tw18103644035752218968:=()
def tw18167824866544635926:=()
def tw8090476158518080112:=()
def tw17055975582034558838:=()
def tw15951574271774379681:=()
def tw8794986820330151449:=()
def tw2442924995888842890:=()
def tw3754207495551410471:=()
def tw2906896463838430302:=()
def tw18021065711977390552:=()
def tw1795172825592871972:=()
def tw9702823352059344949:=()
def tw3191850006308208477:=()
def tw2113952352636635139:=()
def tw10706977210919652845:=()
def tw1547051074567208117:=()
def tw11176266127871690785:=()
def tw5549851381991030148:=()
def tw15992739964206571052:=()
def tw3385800159155250292:=()
def tw16093731088242593102:=()
def tw13367688157823762063:=()
def tw5988643626411265643:=()
def tw6091439930337705102:=()
def tw9408979563728425207:=()
def tw5046609056870677691:=()
def tw13790551298197227692:=()
def tw945748437233192898:=()
def tw14479607660246526218:=()
def tw1822639474310617454:=()
def tw1672751564708091353:=()
def tw3129503204309569068:=()
def tw12477856422505834464:=()
def tw17776330666855601533:=()
def tw6945092736232017065:=()
def tw17581707651751031512:=()
def tw7253998304823421000:=()
def tw2070761865870515714:=()
def tw11107010654316476660:=()
def tw10252446965125810056:=()
def tw16318839333309636104:=()
def tw9059821790699553375:=()
def tw5499629981191817582:=()
def tw15817407496469691986:=()
def tw2860448865756892916:=()
def tw3686853899680704470:=()
def tw17245359891293176558:=()
def tw16708027632762006074:=()
def tw9549010049632297897:=()
def tw1197596949726941849:=()
def tw4884080743471086835:=()
def tw13073769392125683322:=()
def tw17291361466090508579:=()
def tw17333268327133223829:=()
def tw8481405618907042498:=()
def tw6614361601564138280:=()
def tw1895330753048918491:=()
def tw15993434447130864414:=()
def tw9669625030179316670:=()
def tw11993858786693124427:=()
def tw10517346217337896116:=()
def tw1667696246961860327:=()
def tw16220258307715868234:=()
def tw11802321005604744910:=()
def tw7090470768058060571:=()
def tw8643496424117718517:=()
def tw8380512373836156515:=()
def tw14934376417169147587:=()
def tw53418458409536417:=()
def tw14269197558786306975:=()
def tw18080552794467089908:=()
def tw1742741486236486869:=()
def tw10971439504126622583:=()
def tw8407505233405736370:=()
def tw8359126542218096125:=()
def tw14410665163165259488:=()
def tw17663931115905368203:=()
def tw14454407959326666071:=()
def tw10290551548979859392:=()
def tw4688277528561889798:=()
def tw10740047049718513203:=()
def tw6199284829083483648:=()
def tw12671643084671455120:=()
def tw10827848117033647552:=()
def tw2476409845977878870:=()
def tw571353140091037498:=()
def tw1956474168834802039:=()
def tw1909288515991107981:=()
def tw16635712156322148040:=()
def tw4070633308383640494:=()
def tw15632117220946397001:=()
def tw11856270139551589861:=()
def tw14983709613868052645:=()
def tw13385152215858875202:=()
def tw7558267004046661213:=()
def tw8885329498176642795:=()
def tw15806435995637837433:=()
def tw8947501668745400093:=()
def tw14904212967829423327:=()
def tw2862098734077628838:=()
def tw1611740265319278038:=()
def tw16039326998326198300:=()
def tw12832026114362663595:=()
def tw3014772499932607452:=()
def tw7196171775837674464:=()
def tw290170698544570099:=()
def tw432844643540925361:=()
def tw14881119613841893934:=()
def tw14085452067726407409:=()
def tw14307088525836078190:=()
def tw4416528700522948586:=()
def tw15924399148243075454:=()
def tw1212292270525399091:=()
def tw14055738864860420087:=()
def tw4797946717033241025:=()
def tw14525664733530640238:=()
def tw6397055919234377427:=()
def tw11099809957082599260:=()
def tw843700178253618245:=()
def tw1962269401168183276:=()
def tw1707600371279326739:=()
def tw5824718945381981007:=()
def tw14930331361008613168:=()
def tw293169530699092288:=()
def tw3556270403489760081:=()
def tw7298450011080361210:=()
def tw4929152431670695044:=()
def tw11521783712664504371:=()
def tw7983236956042746142:=()
def tw15970847230677526425:=()
def tw13197868807446983156:=()
def tw10797835535295258033:=()
def tw3494343445922603597:=()
def tw13601834919704571188:=()
def tw2640237893662053018:=()
def tw14063147381093867367:=()
def tw4105261504556869263:=()
def tw8733887306180077745:=()
def tw1065756283312381971:=()
def tw7796252526188259157:=()
def tw18191940030660392164:=()
def tw12470658622588870186:=()
def tw15679861513034454004:=()
def tw17697520546253601497:=()
def tw10572929429255256940:=()
def tw7937111057439623933:=()
def tw1706228831649733282:=()
def tw11066411159195693161:=()
def tw4584202850059062276:=()
def tw1019284633181229203:=()
def tw10573487083084190821:=()
def tw15181322705476847282:=()
def tw9456993187768193097:=()
def tw3396072925006910264:=()
def tw8972576701538320243:=()
def tw3741467525660964948:=()
def tw2936017210568475872:=()
def tw6820620993539730135:=()
def tw13086898154943083636:=()
def tw13053037858823714799:=()
def tw857200194698041801:=()
def tw16244446603077373196:=()
def tw7102480226146789132:=()
def tw741658543407617632:=()
def tw6969055007528278048:=()
def tw6570855157739496559:=()
def tw17414655271384638033:=()
def tw17169528088579194594:=()
def tw9082768978156279078:=()
def tw16405027547998768302:=()
def tw13018940698118536507:=()
def tw15975588267931026114:=()
def tw11090077613221167842:=()
def tw11204374188624740527:=()
def tw11114994309670343250:=()
def tw10387865055149827013:=()
def tw12740684601877735490:=()
def tw18113093691685127:=()
def tw385553052964851384:=()
def tw12948633771410006358:=()
def tw410398528025979716:=()
def tw16043590137221388269:=()
def tw13396119784676457138:=()
def tw7518860303078344686:=()
def tw9594608316873093677:=()
def tw17131883389878602054:=()
def tw15518248193912649324:=()
def tw17544651728877247589:=()
def tw16862996246337816216:=()
def tw14659345518399216445:=()
def tw16502296970595071653:=()
def tw2401087483568796367:=()
def tw15546164656179788955:=()
def tw12142525513658159958:=()
def tw11530290410231631154:=()
def tw3212638070005325575:=()
def tw13343516944501973920:=()
def tw9340319154313338976:=()
def tw17143887412682119283:=()
def tw14315313711057107421:=()
def tw2718550584228111609:=()
def tw1261789324963365144:=()
def tw10372364852856163945:=()
def tw14510971163420301524:=()
def tw804151349730532625:=()
def tw15873621968764903363:=()
def tw12277659642773505553:=()
def tw13720458566139039031:=()
def tw842943259489767678:=()
def tw8312099777138273717:=()
def tw16512837963166714112:=()
def tw2031220274690969973:=()
def tw11774840098957891903:=()
def tw15637199310461719171:=()
def tw12051053074739130273:=()
def tw8719754929405017889:=()
def tw3882364390637045573:=()
def tw18012739239580237267:=()
def tw7937330457889621381:=()
def tw6335773735984963930:=()
def tw6337551801483638267:=()
def tw4218154483218552475:=()
def tw2016715587642079203:=()
def tw16440797970741750239:=()
def tw2389560900518687152:=()
def tw14016920461312299443:=()
def tw4233205958154411035:=()
def tw14433996905611368393:=()
def tw252425420642123879:=()
def tw6265349855021901824:=()
def tw15200992223596227817:=()
def tw4406710945764805728:=()
def tw17031198946242734037:=()
def tw8964329054948672677:=()
def tw15460357382655105839:=()
def tw17882307090672332414:=()
def tw13904972218853568832:=()
def tw15848362703831415238:=()
def tw8318813557469439989:=()
def tw8013770641400430805:=()
def tw15648588007331806784:=()
def tw3271790335522356160:=()
def tw10957180620617681050:=()
def tw12493954228783551294:=()
def tw12237752229319611369:=()
def tw1134883936510326653:=()
def tw3561816403770965892:=()
def tw16475265505872603053:=()
def tw6346663818429007806:=()
def tw2077277646058364439:=()
def tw8319912390195131870:=()
def tw9956297904013048902:=()
def tw15199743734568368871:=()
def tw16954141199577961833:=()
def tw18325730433655887000:=()
def tw7864209564227465414:=()
def tw10662629033996729928:=()
def tw8899714543501412008:=()
def tw14322619708131034265:=()
def tw17069013687141215522:=()
def tw14614170205394620881:=()
def tw8369634699732869584:=()
def tw16099071489236361063:=()
def tw18195466248109608595:=()
def tw4638593039094986450:=()
def tw16501393666581288829:=()
def tw11371007309682893539:=()
def tw9623764485767135649:=()
def tw14725008545523462008:=()
def tw12955741533252878469:=()
def tw6912946117329501707:=()
def tw16171154299592306094:=()
def tw1148013939493764072:=()
def tw3247979951259924130:=()
def tw4250866359741266679:=()
def tw3989581878148342873:=()
def tw14999803770536907063:=()
def tw8314323923548441399:=()
def tw6652978141566368161:=()
def tw11200601609113093120:=()
def tw6802122061590364083:=()
def tw4227945486593735085:=()
def tw2492590604557576308:=()
def tw19880079122298767:=()
def tw14659996158988844688:=()
def tw1642065285868985913:=()
def tw2992146250963687578:=()
def tw13564344559142521080:=()
def tw9245513855015056631:=()
def tw10795832209082865976:=()
def tw12216035775140730021:=()
def tw7664195701440622456:=()
def tw5705165661342167594:=()
def tw494297342165550822:=()
def tw694633104760888565:=()
def tw3971775587666466139:=()
def tw9653155993925918209:=()
def tw18369168290097988564:=()
def tw15286274833994160507:=()
def tw2347789039736521479:=()
def tw15622146016661530414:=()
def tw12754153975997994958:=()
def tw1606982285013290452:=()
def tw1168454504374543739:=()
def tw14613641328914826601:=()
def tw2689774013443807905:=()
def tw14711557767423474926:=()
def tw17165233811973666482:=()
def tw13921240600380351297:=()
def tw6118918655273391126:=()
def tw9987358991440369557:=()
def tw12921731933711728149:=()
def tw10482772020732567350:=()
def tw5863327846268903102:=()
def tw6534523744151423074:=()
def tw6758873378248296063:=()
def tw6318368196636069424:=()
def tw16031903246219362536:=()
def tw8671283082482497465:=()
def tw12639230767273275318:=()
def tw10534074421376353408:=()
def tw14679003007418921660:=()
def tw5702238404683713676:=()
def tw8796297018427634421:=()
def tw12801757225509024103:=()
def tw11323202573174720388:=()
def tw2608258208361737387:=()
def tw13550065342415000602:=()
def tw7822974154097339544:=()
def tw14387212806765646963:=()
def tw16893751579487509904:=()
def tw8921661767829489513:=()
def tw3989892357096161017:=()
def tw3094887534925636955:=()
def tw5428718288363717470:=()
def tw15573974261428197259:=()
def tw4794018380810751401:=()
def tw14382607267428846088:=()
def tw9455083497312589864:=()
def tw10556815613953286864:=()
def tw14184043983764871507:=()
end PySem.W.Fast
open PySem PySem.W PyProof.Rows
set_option maxRecDepth 100000 in
set_option maxHeartbeats 0 in
theorem PySem.Challenge.cw_pricecover_k51_cover_price_holds : PySem.Challenge.rw_pricecover_k51_cover_price.Holds := by
 w_on;o_law;k_head;(case hw=>w_witness2)
 k_fill
 refine K51.walk (l:=PySem.Challenge.rw_pricecover_k51_cover_price) rfl rfl (fun w h Y=>PySem.W.kIn_of Y) ?F
 case F=>
  intro w mg fa h KX G hmg
  refine' K51.all_mk KX G hmg ?a0 ?l0 ?c0 ?k0 ?a1 ?l1 ?c1 ?k1 ?a2 ?l2 ?c2 ?k2 ?a3 ?l3 ?c3 ?k3 ?a4 ?l4 ?c4 ?k4 ?a5 ?l5 ?c5 ?k5 ?a6 ?l6 ?c6 ?k6 ?a7 ?l7 ?c7 ?k7 ?a8 ?l8 ?c8 ?k8 ?a9 ?l9 ?c9 ?k9 ?a10 ?l10 ?c10 ?k10 ?a11 ?l11 ?c11 ?k11 ?a12 ?l12 ?c12 ?k12 ?a13 ?l13 ?c13 ?k13 ?a14 ?l14 ?c14 ?k14 ?a15 ?l15 ?c15 ?k15 ?a16 ?l16 ?c16 ?k16 ?a17 ?l17 ?c17 ?k17 ?a18 ?l18 ?c18 ?k18 ?a19 ?l19 ?c19 ?k19 ?a20 ?l20 ?c20 ?k20 ?a21 ?l21 ?c21 ?k21 ?a22 ?l22 ?c22 ?k22 ?a23 ?l23 ?c23 ?k23 ?z0 ?z1 ?z2 ?z3 ?z4 ?z5 ?z6 ?z7 ?z8 ?z9 ?z10 ?z11 ?z12 ?y0 ?x0 ?hh0x0 ?hh0x1 ?hh0x2 ?hh0x3 ?ha0 ?cn0 ?cl0 ?ck0 ?cs0 ?cg0 ?ch0 ?cc0 ?cn1 ?cl1 ?ck1 ?cs1 ?cg1 ?ch1 ?cc1 ?cn2 ?cl2 ?ck2 ?cs2 ?cg2 ?ch2 ?cc2 ?cn3 ?cl3 ?ck3 ?cs3 ?cg3 ?ch3 ?cc3 ?cn4 ?cl4 ?ck4 ?cs4 ?cg4 ?ch4 ?cc4 ?cn5 ?cl5 ?ck5 ?cs5 ?cg5 ?ch5 ?cc5 ?cn6 ?cl6 ?ck6 ?cs6 ?cg6 ?ch6 ?cc6 ?cn7 ?cl7 ?ck7 ?cs7 ?cg7 ?ch7 ?cc7 ?cn8 ?cl8 ?ck8 ?cs8 ?cg8 ?ch8 ?cc8 ?cn9 ?cl9 ?ck9 ?cs9 ?cg9 ?ch9 ?cc9 ?cn10 ?cl10 ?ck10 ?cs10 ?cg10 ?ch10 ?cc10 ?cn11 ?cl11 ?ck11 ?cs11 ?cg11 ?ch11 ?cc11 ?crd ?cty ?cfi ?ndup ?ip3
  (case a0=>k_is)
  (case l0=>k_is)
  (case c0=>k_is)
  (case k0=>k_is)
  (case a1=>k_is)
  (case l1=>k_is)
  (case c1=>k_is)
  (case k1=>k_is)
  (case a2=>k_is)
  (case l2=>k_is)
  (case c2=>k_is)
  (case k2=>k_is)
  (case a3=>k_is)
  (case l3=>k_is)
  (case c3=>k_is)
  (case k3=>k_is)
  (case a4=>k_is)
  (case l4=>k_is)
  (case c4=>k_is)
  (case k4=>k_is)
  (case a5=>k_is)
  (case l5=>k_is)
  (case c5=>k_is)
  (case k5=>k_is)
  (case a6=>k_is)
  (case l6=>k_is)
  (case c6=>k_is)
  (case k6=>k_is)
  (case a7=>k_is)
  (case l7=>k_is)
  (case c7=>k_is)
  (case k7=>k_is)
  (case a8=>k_is)
  (case l8=>k_is)
  (case c8=>k_is)
  (case k8=>k_is)
  (case a9=>k_is)
  (case l9=>k_is)
  (case c9=>k_is)
  (case k9=>k_is)
  (case a10=>k_is)
  (case l10=>k_is)
  (case c10=>k_is)
  (case k10=>k_is)
  (case a11=>k_is)
  (case l11=>k_is)
  (case c11=>k_is)
  (case k11=>k_is)
  (case a12=>k_is)
  (case l12=>k_is)
  (case c12=>k_is)
  (case k12=>k_is)
  (case a13=>k_is)
  (case l13=>k_is)
  (case c13=>k_is)
  (case k13=>k_is)
  (case a14=>k_is)
  (case l14=>k_is)
  (case c14=>k_is)
  (case k14=>k_is)
  (case a15=>k_is)
  (case l15=>k_is)
  (case c15=>k_is)
  (case k15=>k_is)
  (case a16=>k_is)
  (case l16=>k_is)
  (case c16=>k_is)
  (case k16=>k_is)
  (case a17=>k_is)
  (case l17=>k_is)
  (case c17=>k_is)
  (case k17=>k_is)
  (case a18=>k_is)
  (case l18=>k_is)
  (case c18=>k_is)
  (case k18=>k_is)
  (case a19=>k_is)
  (case l19=>k_is)
  (case c19=>k_is)
  (case k19=>k_is)
  (case a20=>k_is)
  (case l20=>k_is)
  (case c20=>k_is)
  (case k20=>k_is)
  (case a21=>k_is)
  (case l21=>k_is)
  (case c21=>k_is)
  (case k21=>k_is)
  (case a22=>k_is)
  (case l22=>k_is)
  (case c22=>k_is)
  (case k22=>k_is)
  (case a23=>k_is)
  (case l23=>k_is)
  (case c23=>k_is)
  (case k23=>k_is)
  (case z0=>k_is)
  (case z1=>k_is)
  (case z2=>k_is)
  (case z3=>k_is)
  (case z4=>k_is)
  (case z5=>k_is)
  (case z6=>k_is)
  (case z7=>k_is)
  (case z8=>k_is)
  (case z9=>k_is)
  (case z10=>k_is)
  (case z11=>k_is)
  (case z12=>k_is)
  (case y0=>k_is)
  (case x0=>k_is)
  (case hh0x0=>first | rfl | k_is)
  (case hh0x1=>first | rfl | k_is)
  (case hh0x2=>first | rfl | k_is)
  (case hh0x3=>first | rfl | k_is)
  (case ha0=>first | rfl | decide | k_is)
  (case cn0=>k_is)
  (case cl0=>k_is)
  (case ck0=>k_is)
  (case cs0=>k_is)
  (case cg0=>k_is)
  (case ch0=>k_is)
  (case cc0=>k_is)
  (case cn1=>k_is)
  (case cl1=>k_is)
  (case ck1=>k_is)
  (case cs1=>k_is)
  (case cg1=>k_is)
  (case ch1=>k_is)
  (case cc1=>k_is)
  (case cn2=>k_is)
  (case cl2=>k_is)
  (case ck2=>k_is)
  (case cs2=>k_is)
  (case cg2=>k_is)
  (case ch2=>k_is)
  (case cc2=>k_is)
  (case cn3=>k_is)
  (case cl3=>k_is)
  (case ck3=>k_is)
  (case cs3=>k_is)
  (case cg3=>k_is)
  (case ch3=>k_is)
  (case cc3=>k_is)
  (case cn4=>k_is)
  (case cl4=>k_is)
  (case ck4=>k_is)
  (case cs4=>k_is)
  (case cg4=>k_is)
  (case ch4=>k_is)
  (case cc4=>k_is)
  (case cn5=>k_is)
  (case cl5=>k_is)
  (case ck5=>k_is)
  (case cs5=>k_is)
  (case cg5=>k_is)
  (case ch5=>k_is)
  (case cc5=>k_is)
  (case cn6=>k_is)
  (case cl6=>k_is)
  (case ck6=>k_is)
  (case cs6=>k_is)
  (case cg6=>k_is)
  (case ch6=>k_is)
  (case cc6=>k_is)
  (case cn7=>k_is)
  (case cl7=>k_is)
  (case ck7=>k_is)
  (case cs7=>k_is)
  (case cg7=>k_is)
  (case ch7=>k_is)
  (case cc7=>k_is)
  (case cn8=>k_is)
  (case cl8=>k_is)
  (case ck8=>k_is)
  (case cs8=>k_is)
  (case cg8=>k_is)
  (case ch8=>k_is)
  (case cc8=>k_is)
  (case cn9=>k_is)
  (case cl9=>k_is)
  (case ck9=>k_is)
  (case cs9=>k_is)
  (case cg9=>k_is)
  (case ch9=>k_is)
  (case cc9=>k_is)
  (case cn10=>k_is)
  (case cl10=>k_is)
  (case ck10=>k_is)
  (case cs10=>k_is)
  (case cg10=>k_is)
  (case ch10=>k_is)
  (case cc10=>k_is)
  (case cn11=>k_is)
  (case cl11=>k_is)
  (case ck11=>k_is)
  (case cs11=>k_is)
  (case cg11=>k_is)
  (case ch11=>k_is)
  (case cc11=>k_is)
  (case crd=>k_is)
  (case cty=>k_is)
  (case cfi=>k_is)
  (case ndup=>decide)
  (case ip3=>k_is)
#print axioms PySem.Challenge.cw_pricecover_k51_cover_price_holds
