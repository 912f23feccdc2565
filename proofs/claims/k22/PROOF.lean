import PyProof.Rows.All
import Wide.All
import OpenK.AllK
import Wide.FinOn
import Lean
import PyProof.EqAt
import PyProof.EqKinds
import PyProof.TupleCall
import KE.KSortTup
import PyProof.EnumMake
import PyProof.EnumStmt
import PyProof.ListRange
import KE.KDictList
import PyProof.Toks
import PyProof.FString4
import PyProof.StrLawsRepr
import PyProof.FitsReplace
import PyProof.ExcClass3
import PyProof.RulesAs
import PyProof.RaisesMany
import PyProof.InstStore
import PyProof.InstStoreFacts
import PyProof.ExcBaseAll.ValueError
import PyProof.ExcArgs
import PyProof.InstLoad
import PyProof.ExcAttrAll.ValueError
import KE.KIsAll
import PyProof.Rows.SetFrom
import PySem.Challenge.RW_pricecover_k22_no_box_no_value
set_option Elab.async false
set_option bootstrap.genMatcherCode false
set_option linter.all false
set_option maxRecDepth 100000
set_option maxHeartbeats 4000000
open Or renaming inr → aa0,inl → aa1
open List renaming length_map → aa2,getElem?_eq_getElem → aa4,size_toArray → aa5,mem_cons_self → aa7,length_append → aa8,mem_cons_of_mem → aad,length_take → aaf,getElem?_map → aag,mem_append_right → aah,length_cons → aai,getElem?_append_right → aaj,getElem?_append_left → aal,not_mem_nil → aam,map_cons → aan,contains_cons → aap,range → aaq,map_append → aat,length_range → aau,mem_cons → aav,length_drop → aax,length_singleton → aay,lookup_cons → ab1,getElem?_take_of_lt → ab4,append_nil → ab6,eq_nil_of_length_eq_zero → ab7,replicate → ab8,find?_cons → ab9,take_length → abd,mem_of_getElem? → abf,length_nil → abg,append_assoc → abi,length_replicate → abl,take_of_length_le → abm,map_map → abn,mem_append_left → abp,getElem_mem → abq,any_cons → abt,getD_eq_getElem?_getD → abu,getElem_range → abz,map_singleton → ac2,Nodup → ac3,take_add_one → ac5,getElem?_set_self → ac6,map → ac7,getElem?_toArray → ac8,getElem?_set_ne → ac9,mem_of_mem_take → ace,take_append_of_le_length → acf,filterMap_cons → acg,nodup_nil → ach,all_cons → aci,getElem_inj → ack,map_nil → acn,cons_append → aco,all_eq_true → acr,getElem?_replicate → acs,eraseIdx_cons_succ → acu,getElem?_cons_succ → acv,of_mem_zip → acw,foldl_cons → acy,drop_of_length_le → ad0,drop_zero → ad1,length_eraseIdx → ad3,map_take → ad5,replicate_succ → ad6,getElem?_drop → ad8,any_eq_false → adb,ext_getElem? → adf,foldl_append → adg,ext_getElem → adj,getElem_map → adk,take_left' → adm,nil_append → adn,mem_filter → ado
open Nat renaming le_refl → aa3,lt_of_lt_of_le → aa6,ne_of_lt → aab,le_trans → aar,lt_of_succ_lt → aas,ne_of_gt → aaw,zero_le → ab0,lt_irrefl → ab3,le_of_lt → abb,le_of_ble_eq_true → abe,le_succ → abk,sub_self → abo,not_lt_zero → abx,min_eq_left → aby,eq_zero_or_pos → ac0,lt_succ_of_lt → ac4,lt_or_ge → acd,lt_trichotomy → acj,lt_trans → acp,pow_le_pow_right → ad2,sub_zero → ad7,le_of_not_lt → adi,min_eq_right → adl
open Option.some renaming inj → aa9
open Bool renaming false_ne_true → aaa,or_true → abh,and_eq_true → abj,eq_iff_iff → abv,false_eq_true → ac1,true_or → aca,noConfusion → acq,or_eq_true → acx,or_false → ad4
open And renaming intro → aac
open Array renaming length_toList → aae,getElem?_eq_getElem → aak,getElem?_toList → ab5,getD_eq_getD_getElem? → aba,eq_empty_of_size_eq_zero → acb,getElem?_eq_none → acz,toList_push → adh
open Int renaming emod_nonneg → aao,emod_lt_of_pos → aaz,toNat → ab2
open Option renaming bind_some → abr,map_some → abw,getD_none → acm,toList_some → ad9,isSome_map → ade
open Exists renaming intro → ada
local macro_rules | `(tactic| omega)=>`(tactic| first | lia | omega +splitNatSub)
namespace L2
open PySem PySem.Spec PyProof.Rows
abbrev Key:=Sum Int Str
noncomputable def ny:Key→Value→Bool
 | .inl k,v=>Value.isInt k v
 | .inr x,v=>Value.isStrOf x v
noncomputable def keyH (w:World):Key→Int
 | .inl k=>hashInt k
 | .inr x=>hashStr w x
theorem bc:∀{k:Key} {v:Value},ny k v=true→(∃i t,k=Sum.inl i∧v=Value.int i t)∨(∃x t,k=Sum.inr x∧v=Value.str x t)
 | .inl i,v,h=>by
  obtain ⟨t,e⟩:=Value.isInt_shape (k:=i) (v:=v) h;exact .inl ⟨i,t,rfl,e⟩
 | .inr x,v,h=>by
  obtain ⟨t,e⟩:=Value.isStrOf_shape (x:=x) (v:=v) h;exact .inr ⟨x,t,rfl,e⟩
theorem yn (i:Int) (t:Tok):ny (.inl i) (.int i t)=true:=by simp[ny,Value.isInt]
theorem ym (x:Str) (t:Tok):ny (.inr x) (.str x t)=true:=by simp[ny,Value.isStrOf]
theorem key_ll (a b:Int):decide ((Sum.inl a:Key)=Sum.inl b)=(a==b):=by
 by_cases e:a=b
 ·subst e;simp
 ·have h:¬(Sum.inl a:Key)=Sum.inl b:=λq=>e (Sum.inl.inj q);rw[decide_eq_false h];exact (beq_eq_false_iff_ne.mpr e).symm
theorem key_rr (a b:Str):decide ((Sum.inr a:Key)=Sum.inr b)=decide (a=b):=by
 by_cases e:a=b
 ·subst e;simp
 ·have h:¬(Sum.inr a:Key)=Sum.inr b:=λq=>e (Sum.inr.inj q);rw[decide_eq_false h,decide_eq_false e]
theorem key_lr (a:Int) (b:Str):decide ((Sum.inl a:Key)=Sum.inr b)=false:=decide_eq_false (λq=>nomatch q)
theorem key_rl (a:Str) (b:Int):decide ((Sum.inr a:Key)=Sum.inl b)=false:=decide_eq_false (λq=>nomatch q)
noncomputable def bb (prog:Program) (w:World):PySem.KeyKind prog w Key where
 is:=ny
 hash:=keyH w
 inj:=λv a b ha hb=>by
  rcases bc ha with ⟨i,t,rfl,rfl⟩ | ⟨x,t,rfl,rfl⟩
  ·rcases bc hb with ⟨j,u,rfl,e⟩ | ⟨y,u,rfl,e⟩
   ·injection e with e1 _;rw[e1]
   ·exact nomatch e
  ·rcases bc hb with ⟨j,u,rfl,e⟩ | ⟨y,u,rfl,e⟩
   ·exact nomatch e
   ·injection e with e1 _;rw[e1]
 byValue:=λk v h=>by
  rcases bc h with ⟨i,t,rfl,rfl⟩ | ⟨x,t,rfl,rfl⟩ <;> rfl
 pyHash:=λhv h=>by
  rcases bc hv with ⟨i,t,rfl,rfl⟩ | ⟨x,t,rfl,rfl⟩
  ·exact wpAny_pyHash_int h
  ·exact wpAny_pyHash_str h
 eqBool:=λhu hv h=>by
  rcases bc hu with ⟨i,t,rfl,rfl⟩ | ⟨x,t,rfl,rfl⟩
  ·rcases bc hv with ⟨j,u,rfl,rfl⟩ | ⟨y,u,rfl,rfl⟩
   ·rw[key_ll] at h;exact wpAny_eqBool_int h
   ·rw[key_lr] at h;exact SeqAt.EqAt.int_str i t y u _ _ _ _ h
  ·rcases bc hv with ⟨j,u,rfl,rfl⟩ | ⟨y,u,rfl,rfl⟩
   ·rw[key_rl] at h;exact SeqAt.EqAt.str_int x t j u _ _ _ _ h
   ·rw[key_rr] at h;exact wpAny_eqBool_str h
 «strs»:=λk x t v h=>by
  rcases bc h with ⟨i,u,rfl,e⟩ | ⟨y,u,rfl,e⟩
  ·exact nomatch e
  ·injection e with e1 _
   subst e1;cases v <;> rfl
theorem tw (prog:Program) (w:World) (i:Int) (t:Tok):(bb prog w).is (.inl i) (.int i t)=true:=yn i t
theorem ti (prog:Program) (w:World) (x:Str) (t:Tok):(bb prog w).is (.inr x) (.str x t)=true:=ym x t
inductive V where
 | non | bl (b:Bool) | int (i:Int) | str (x:Str) | byt (b:Array UInt8) | flt (b:UInt64) | ref (a:Addr) | ty (n:String)
 deriving DecidableEq
def RelV:V→Value→Prop
 | .non,u=>u=Value.none
 | .bl b,u=>u=Value.bool b
 | .int i,u=>∃t,u=Value.int i t
 | .str x,u=>∃t,u=Value.str x t
 | .byt b,u=>∃t,u=Value.bytes b t
 | .flt b,u=>∃t,u=Value.float b t
 | .ref a,u=>u=Value.ref a
 | .ty n,u=>u=Value.type n
abbrev Vals:List V→List Value→Prop:=Paired RelV
theorem Vals.length {xs:List V} {us:List Value} (r:Vals xs us):xs.length=us.length:=Paired.length r
theorem Vals.get:∀{xs:List V} {us:List Value} {i:Nat} {x:V},Vals xs us→xs[i]?=some x→∃u,us[i]?=some u∧RelV x u
 | _,_,_,_,.nil,e=>by simp at e
 | _,_,0,_,.cons r _,e=>by simp at e;subst e;exact ⟨_,rfl,r⟩
 | _,_,i+1,x,.cons _ t,e=>by
  obtain ⟨u,h1,h2⟩:=Vals.get (i:=i) (x:=x) t (by simpa using e);exact ⟨u,by simpa using h1,h2⟩
theorem Vals.append:∀{xs ys:List V} {us ws:List Value},Vals xs us→Vals ys ws→Vals (xs++ys) (us++ws)
 | _,_,_,_,.nil,s=>s
 | _,_,_,_,.cons r t,s=>.cons r (Vals.append t s)
theorem Vals.take:∀{xs:List V} {us:List Value} (n:Nat),Vals xs us→Vals (xs.take n) (us.take n)
 | _,_,0,_=>.nil
 | _,_,_+1,.nil=>.nil
 | _,_,n+1,.cons r t=>.cons r (Vals.take n t)
theorem Vals.drop:∀{xs:List V} {us:List Value} (n:Nat),Vals xs us→Vals (xs.drop n) (us.drop n)
 | _,_,0,r=>r
 | _,_,_+1,.nil=>.nil
 | _,_,n+1,.cons _ t=>Vals.drop n t
theorem Vals.none_of:∀{xs:List V} {us:List Value} {i:Nat},Vals xs us→xs[i]?=none→us[i]?=none:=λ{xs us i} r e=>by
 have h1:=r.length;have h2:xs.length≤i:=List.getElem?_eq_none_iff.mp e;exact List.getElem?_eq_none_iff.mpr (by omega)
def d9:Option V→Option Value→Prop
 | some v,some u=>RelV v u
 | none,none=>True
 | _,_=>False
def KV {κ:Type}:List (κ×V)→List (κ×Value)→Prop:=Paired λ(p:κ×V) (q:κ×Value)=>p.1=q.1∧RelV p.2 q.2
noncomputable def kV:Key→V
 | .inl i=>.int i
 | .inr x=>.str x
inductive HO where
  | lst (xs:List V)
  | tup (xs:List V)
  | dK (kvs:List (Key×V)) | dT (kvs:List (List Key×V))
  | set (S:Int→Bool) (n:Nat)
  | ins (C dx:Addr) (fs:List (Str×V))
  | own (x:Addr)
  | xd (fs:List (Str×V))
  | met (f x:Addr)
  | rng (lo hi:Int)
  | frz (o:Obj) (u:HO)
  | tbl (ps:Array Value)
  | ext (φ:Heap→Prop)
abbrev Hp:=Addr→Option HO
noncomputable def upd (H:Hp) (a:Addr) (o:HO):Hp:=λb=>if b=a then some o else H b
theorem aa {H:Hp} {a:Addr} {o:HO}:upd H a o a=some o:=by unfold upd;rw[if_pos rfl]
theorem ag {H:Hp} {a b:Addr} {o:HO} (h:b≠a):upd H a o b=H b:=by unfold upd;rw[if_neg h]
theorem ne_of {H:Hp} {a b:Addr} {o u:HO} (h:H a=some o) (h':H b=some u) (d:o≠u):a≠b:=by
 intro e;subst e;rw[h] at h';exact d (aa9 h')
theorem aj {H:Hp} {a b:Addr} {o:HO} (h:H a=some o) (h':H b=none):a≠b:=by
 intro e;subst e;rw[h] at h';cases h'
section
variable (P:Program) (w:World)
def vi (h:Heap) (a:Addr) (its:Array Value):Prop:=∃o,h.get? a=some o∧o.cls=.type "tuple"∧∃n,o.data=.seq its n∧o.dict=none
theorem vi.tup {h:Heap} {a:Addr} {its:Array Value} (x:vi h a its):IsTup h a its:=let ⟨o,h1,h2,n,h3,_⟩:=x;⟨o,h1,h2,n,h3⟩
def ay (H:Hp) (h:Heap) (a:Addr):HO→Prop
 | .lst xs=>xs.length≤sizeLine∧∃(its:List Value) (n:Nat),Vals xs its∧h.get? a=some { cls:=.type "list",data:=.seq its.toArray n }
 | .tup xs=>xs.length≤sizeLine∧∃its:List Value,Vals xs its∧vi h a its.toArray
 | .dK kvs=>kvs.length≤sizeLine∧(a==sysModules)=false∧∃vs,KV kvs vs∧h.DictOf (bb P w) a vs
 | .dT kvs=>kvs.length≤sizeLine∧(a==sysModules)=false∧∃xs:List (List Key×Addr×Value),
   Paired (λ(p:List Key×V) (q:List Key×Addr×Value)=>p.1=q.1∧H q.2.1=some (.tup (p.1.map kV))∧RelV p.2 q.2.2) kvs xs∧
   ∃o es ep,h.get? a=some o∧o.ExactDict∧o.data=.dict es ep∧es.toList=xs.map (entryOfKey (tupleKind (bb P w)))∧(xs.map (·.1)).Nodup
 | .set S n=>h.SetOf (intKind P w) a S n
 | .ins C dx fs=>H dx=some (.own a)∧fs.length≤1000∧dx≠a∧h.get? a=some (PySem.W.instObj C dx)∧
   ∃mA,h.Ns1 dx mA∧(∀f,d9 (fs.lookup f) (mA f))∧PySem.Within mA (fs.map (·.1))
 | .own _=>∃o,h.get? a=some o
 | .xd fs=>∃mA,h.Ns1 a mA∧∀f,d9 (fs.lookup f) (mA f)
 | .rng lo hi=>∃t u v,h.get? a=some { cls:=.type "range",data:=.fields #[.int lo t,.int hi u,.int 1 v] }
 | .frz o u=>h.get? a=some o∧ay H h a u
 | .tbl ps=>h.get? a=some { cls:=.none,data:=.fields ps }
 | .met f x=>h.get? a=some (PySem.W.methodObj (.ref f) (.ref x))
 | .ext φ=>φ h∧(∃o,h.get? a=some o)∧∀h1 h2:Heap,φ h1→(∀o,h1.get? a=some o→h2.get? a=some o)→φ h2
def HOk (H:Hp) (h:Heap):Prop:=∀a o,H a=some o→ay P w H h a o
end
section
variable {P:Program} {w:World} {H H':Hp} {h h':Heap} {a:Addr} {o:HO}
theorem ay.lt (x:ay P w H h a o):a < h.objs.size:=by
 cases o with
 | lst xs=>obtain ⟨_,_,_,_,e⟩:=x;exact Heap.lt_size e
 | tup xs=>obtain ⟨_,_,_,p⟩:=x;exact p.tup.lt
 | dK kvs=>obtain ⟨_,_,_,_,o,_,_,e,_⟩:=x;exact Heap.lt_size e
 | dT kvs=>obtain ⟨_,_,_,_,o,_,_,e,_⟩:=x;exact Heap.lt_size e
 | set S n=>obtain ⟨o,_,_,_,e,_⟩:=x;exact Heap.lt_size e
 | ins C dx fs=>obtain ⟨_,_,_,e,_⟩:=x;exact Heap.lt_size e
 | own y=>obtain ⟨_,e⟩:=x;exact Heap.lt_size e
 | xd fs=>obtain ⟨_,⟨_,_,_,e,_⟩,_⟩:=x;exact Heap.lt_size e
 | rng lo hi=>obtain ⟨_,_,_,e⟩:=x;exact Heap.lt_size e
 | frz ob u=>obtain ⟨e,_⟩:=x;exact Heap.lt_size e
 | tbl ps=>exact Heap.lt_size (show h.get? a=some _ from x)
 | met f y=>exact Heap.lt_size (show h.get? a=some _ from x)
 | ext φ=>obtain ⟨_,⟨_,e⟩,_⟩:=x;exact Heap.lt_size e
theorem Paired.mapP {α β:Type} {F G:α→β→Prop}:∀{l₁:List α} {l₂:List β},Paired F l₁ l₂→(∀a b,F a b→G a b)→Paired G l₁ l₂
 | _,_,.nil,_=>.nil
 | _,_,.cons r t,f=>.cons (f _ _ r) (Paired.mapP t f)
theorem ay.qi (x:ay P w H h a o) (k:∀b u,(b=a∨H b=some (.own a))→h.get? b=some u→h'.get? b=some u)
  (ho:∀b,H b=some (.own a)→H' b=some (.own a)) (ht:∀b xs,H b=some (.tup xs)→H' b=some (.tup xs)):ay P w H' h' a o:=by
 induction o with
 | lst xs=>obtain ⟨z,its,n,r,e⟩:=x;exact ⟨z,its,n,r,k _ _ (.inl rfl) e⟩
 | tup xs=>obtain ⟨z,its,r,ob,e,c⟩:=x;exact ⟨z,its,r,ob,k _ _ (.inl rfl) e,c⟩
 | dK kvs=>obtain ⟨z,y,vs,r,ob,es,ep,e,c⟩:=x;exact ⟨z,y,vs,r,ob,es,ep,k _ _ (.inl rfl) e,c⟩
 | dT kvs=>
  obtain ⟨z,y,xs,r,ob,es,ep,e,c⟩:=x;exact ⟨z,y,xs,Paired.mapP r λp q z=>⟨z.1,ht _ _ z.2.1,z.2.2⟩,ob,es,ep,k _ _ (.inl rfl) e,c⟩
 | set S n=>obtain ⟨ob,es,ep,t,e,c⟩:=x;exact ⟨ob,es,ep,t,k _ _ (.inl rfl) e,c⟩
 | ins C dx fs=>
  obtain ⟨d,z,ne,e,mA,⟨od,es,ep,e2,c⟩,r⟩:=x;exact ⟨ho _ d,z,ne,k _ _ (.inl rfl) e,mA,⟨od,es,ep,k _ _ (.inr d) e2,c⟩,r⟩
 | own y=>obtain ⟨ob,e⟩:=x;exact ⟨ob,k _ _ (.inl rfl) e⟩
 | xd fs=>obtain ⟨mA,⟨od,es,ep,e,c⟩,r⟩:=x;exact ⟨mA,⟨od,es,ep,k _ _ (.inl rfl) e,c⟩,r⟩
 | rng lo hi=>obtain ⟨t,u,v,e⟩:=x;exact ⟨t,u,v,k _ _ (.inl rfl) e⟩
 | frz ob u ih=>obtain ⟨e,q⟩:=x;exact ⟨k _ _ (.inl rfl) e,ih q⟩
 | tbl ps=>
  have e:h.get? a=some { cls:=.none,data:=.fields ps }:=x;show h'.get? a=some { cls:=.none,data:=.fields ps }
  exact k a _ (.inl rfl) e
 | met f y=>
  have e:h.get? a=some (PySem.W.methodObj (.ref f) (.ref y)):=x;show h'.get? a=some (PySem.W.methodObj (.ref f) (.ref y))
  exact k a _ (.inl rfl) e
 | ext φ=>obtain ⟨p,⟨o,e⟩,st⟩:=x;exact ⟨st _ _ p λo q=>k _ _ (.inl rfl) q,⟨o,k _ _ (.inl rfl) e⟩,st⟩
theorem HOk.lt (x:HOk P w H h) (e:H a=some o):a < h.objs.size:=(x a o e).lt
theorem HOk.fresh (x:HOk P w H h) (e:h.objs.size≤a):H a=none:=by
 cases q:H a with
 | none=>rfl
 | some u=>exact absurd (aa6 (x.lt q) e) (ab3 _)
theorem HOk.kept (x:HOk P w H h) (k:∀b u,h.get? b=some u→h'.get? b=some u):HOk P w H h':=λa o e=>
 (x a o e).qi (λb u _ q=>k b u q) (λ_ q=>q) λ_ _ q=>q
theorem HOk.laid (x:HOk P w H h) (k:∀b u,h.get? b=some u→h'.get? b=some u) (hp:h.objs.size≤a) (new:ay P w (upd H a o) h' a o):HOk P w (upd H a o) h':=λb u e=>by
 have hn:=x.fresh hp;by_cases hb:b=a
 ·subst hb;rw[aa] at e;cases e;exact new
 ·rw[ag hb] at e;exact (x b u e).qi (λc v _ q=>k c v q) (λc q=>by rw[ag (aj q hn)];exact q) λc xs q=>by rw[ag (aj q hn)];exact q
end
def Rd (H:Hp) (a:Addr) (u:HO):Prop:=H a=some u∨∃o,H a=some (.frz o u)
theorem Rd.ok {P:Program} {w:World} {H:Hp} {h:Heap} {a:Addr} {u:HO} (r:Rd H a u) (x:HOk P w H h):ay P w H h a u:=by
 rcases r with r | ⟨o,r⟩
 ·exact x a u r
 ·obtain ⟨_,q⟩:=x a _ r;exact q
def Mut:Option HO→Prop
 | some (.lst _)=>True
 | some (.dK _)=>True
 | some (.dT _)=>True
 | some (.set _ _)=>True
 | some (.ins _ _ _)=>True
 | some (.ext _)=>True
 | _=>False
section
variable {P:Program} {w:World} {H:Hp} {h h':Heap} {x e:Addr} {o':HO}
theorem HOk.write (ok:HOk P w H h) (mu:Mut (H x)) (he:e=x∨H e=some (.own x)) (k:∀b u,b≠e→h.get? b=some u→h'.get? b=some u) (heo:∃u,h'.get? e=some u)
  (new:ay P w (upd H x o') h' x o'):HOk P w (upd H x o') h':=λb u q=>by
 have nown:∀c y,H c=some (.own y)→c≠x:=λc y r z=>by subst z;rw[r] at mu;exact mu
 have ntup:∀c xs,H c=some (.tup xs)→c≠x:=λc xs r z=>by subst z;rw[r] at mu;exact mu
 by_cases hb:b=x
 ·subst hb;rw[aa] at q;cases q;exact new
 ·rw[ag hb] at q;by_cases hbe:b=e
  ·have q':H b=some (.own x):=by
    rcases he with z | z
    ·exact absurd (hbe.trans z) hb
    ·rw[hbe];exact z
   rw[q] at q';cases q';obtain ⟨v,hv⟩:=heo;exact ⟨v,by rw[hbe];exact hv⟩
  ·refine (ok b u q).qi (λc v hc r=>k c v ?_ r) (λc r=>by rw[ag (nown c b r)];exact r) λc xs r=>by rw[ag (ntup c xs r)];exact r
   rcases hc with rfl | hc
   ·exact hbe
   ·rintro rfl;rcases he with z | z
    ·exact nown c b hc z
    ·rw[hc] at z;cases z;exact hb rfl
end
structure Un (fs ex:List Addr) (H H':Hp) (h h':Heap):Prop where
 keep:∀b o,h.get? b=some o→H b=none→b∉fs→b∉ex→h'.get? b=some o
 slot:∀b o,h.get? b=some o→H b=none→b∈fs→b∉ex→∃sl,h'.get? b=some { o with slots:=sl }
 free:∀b o,h.get? b=some o→H b=none→b∉ex→H' b=none
 there:∀b o,h.get? b=some o→b∉ex→∃o',h'.get? b=some o'
 tups:∀b xs,H b=some (.tup xs)→H' b=some (.tup xs)
 frzs:∀b o u,H b=some (.frz o u)→H' b=some (.frz o u)
 tbls:∀b ps,H b=some (.tbl ps)→∃more,H' b=some (.tbl (ps++more))
section
variable {fs fs' ex ex':List Addr} {H H1 H2:Hp} {h h1 h2 h':Heap} {a x e:Addr} {o:HO}
theorem Un.any (u:Un fs ex H H1 h h1) {b:Addr} {ob:Obj} (q:h.get? b=some ob) (n:H b=none) (hx:b∉ex):∃sl,h1.get? b=some { ob with slots:=sl }:=by
 by_cases hb:b∈fs
 ·exact u.slot b ob q n hb hx
 ·exact ⟨ob.slots,u.keep b ob q n hb hx⟩
theorem Un.kept (k:∀b u,h.get? b=some u→h'.get? b=some u):Un fs ex H H h h':=
 ⟨λb ob q _ _ _=>k b ob q,λb ob q _ _ _=>⟨ob.slots,k b ob q⟩,λ_ _ _ n _=>n,λb ob q _=>⟨ob,k b ob q⟩,λ_ _ q=>q,λ_ _ _ q=>q,λ_ ps q=>⟨#[],by rw[q];simp⟩⟩
theorem Un.refl:Un fs ex H H h h:=Un.kept λ_ _ q=>q
theorem Un.laid (k:∀b u,h.get? b=some u→h'.get? b=some u) (hp:h.objs.size≤a) (hn:H a=none):Un fs ex H (upd H a o) h h' where
 keep:=λb u q _ _ _=>k b u q
 slot:=λb u q _ _ _=>⟨u.slots,k b u q⟩
 free:=λb u q n _=>by rw[ag (aab (aa6 (Heap.lt_size q) hp))];exact n
 there:=λb u q _=>⟨u,k b u q⟩
 tups:=λb xs q=>by rw[ag (aj q hn)];exact q
 frzs:=λb u xs q=>by rw[ag (aj q hn)];exact q
 tbls:=λb ps q=>⟨#[],by rw[ag (aj q hn),q];simp⟩
theorem Un.write (mu:Mut (H x)) (he:e=x∨H e=some (.own x)) (k:∀b u,b≠e→h.get? b=some u→h'.get? b=some u) (heo:∃u,h'.get? e=some u):Un fs ex H (upd H x o) h h':=by
 have hx:∀b,H b=none→b≠x:=λb n z=>by subst z;rw[n] at mu;exact mu
 have hb:∀b,H b=none→b≠e:=λb n z=>by
  subst z;rcases he with r | r
  ·exact hx b n r
  ·rw[n] at r;cases r
 have hm:∀b u,H b=some u→¬Mut (some u)→b≠x:=λb u q nm z=>by subst z;rw[q] at mu;exact nm mu
 refine ⟨λb u q n _ _=>k b u (hb b n) q,λb u q n _ _=>⟨u.slots,k b u (hb b n) q⟩,λb u q n _=>by rw[ag (hx b n)];exact n,λb u q _=>?_,
  λb xs q=>by rw[ag (hm b _ q λz=>z)];exact q,λb u xs q=>by rw[ag (hm b _ q λz=>z)];exact q,λb ps q=>⟨#[],by rw[ag (hm b _ q λz=>z),q];simp⟩⟩
 by_cases hbe:b=e
 ·subst hbe;exact heo
 ·exact ⟨u,k b u hbe q⟩
end
noncomputable def trk (h:Heap) (H:Hp):List Addr:=(aaq h.objs.size).filter λa=>(H a).isSome
noncomputable def qk (h:Heap) (H:Hp):Heap:=PySem.W.hideAll h (trk h H)
theorem yl (h:Heap) (H:Hp):(qk h H).objs.size=h.objs.size:=PySem.W.hideAll_size _ _
theorem Bm {h:Heap} {H:Hp} {b:Addr} {o:Obj} (e:h.get? b=some o) (n:H b=none):(qk h H).get? b=some o:=
 PySem.W.hideAll_get _ e λhm=>by
  have q:(H b).isSome=true:=(List.mem_filter.mp hm).2;rw[n] at q;simp at q
theorem Es {h:Heap} {H:Hp} {b:Addr} {o:Obj} (e:(qk h H).get? b=some o):h.get? b=some o∧H b=none:=by
 have e':h.get? b=some o:=PySem.W.of_hideAll (trk h H) e;refine ⟨e',?_⟩;cases q:H b with
 | none=>rfl
 | some x=>
  have hm:b∈trk h H:=List.mem_filter.mpr ⟨List.mem_range.mpr (Heap.lt_size e'),by simp[q]⟩;have z:(qk h H).get? b=none:=PySem.W.hideAll_none (trk h H) hm;rw[z] at e;cases e
noncomputable def Cu (g h:Heap) (L:Addr):List (Addr×Obj):=(aaq h.objs.size).filterMap λa=>if a=L∨(g.get? a).isSome=true then none else (h.get? a).map λo=>(a,o)
noncomputable def rest (g h:Heap) (L d:Addr):List (Addr×Obj):=(Cu g h L).filter λp=>decide (p.1≠d)
structure Mod (K:PySem.W.Frag) (mg:Str→Option Value) (base:Heap):Prop where
 kin:K.In base
 glob:base.Ns mainGlobals mg
 blt:∃mb,base.Ns builtinsNs mb∧∀x:Str,x≠"__name__"→mb x=bootBuiltins x
 nolimit:base.NoLimit
structure Cx where
 prog:Program
 w:World
 K:PySem.W.Frag
 mg:Str→Option Value
 base:Heap
 A:Around
 N:List Str
 s₀:Shared
 H₀:Hp
 env:Env
 outer:List Env
 stack:List Env
 ex:List Addr
 fn:Str→Bool
 calm:Bool
 pn:List (Addr×Obj)
 xe:Value→Shared→Prop
noncomputable def frs (l:List Env):List Addr:=l.filterMap (·.frame)
noncomputable abbrev Cx.fs (X:Cx):List Addr:=frs X.outer
def Vis (sc:Scope) (x:Str):Prop:=sc.names.lookup x=some .local∨sc.names.lookup x=some .cell∨sc.names.lookup x=some .free
def Loc (sc:Scope) (x:Str):Prop:=sc.names.lookup x=some .local∨sc.names.lookup x=some .cell
def Look (env:Env) (h:Heap) (m:Str→Option Value) (x:Str) (u:Value):Prop:=
 (env.kindOf x=some .local∧m x=some u)∨((env.kindOf x=some .cell∨env.kindOf x=some .free)∧∃c,env.cells.lookup x=some c∧h.IsCell c (some u))
structure Cx.Ok (X:Cx):Prop where
 mod:Mod X.K X.mg X.base
 kind:X.env.scope.kind=.function
 glob:X.env.globals=mainGlobals
 blt:X.env.builtins=builtinsNs
 above:X.s₀.heap.objs.size≤X.env.locals
 inj:∀x y c,X.env.cells.lookup x=some c→X.env.cells.lookup y=some c→x=y
 has:∀x,(X.env.kindOf x=some .cell∨X.env.kindOf x=some .free)→∃c,X.env.cells.lookup x=some c
 cab:∀x c,X.fn x=true→X.env.cells.lookup x=some c→X.s₀.heap.objs.size≤c
 hd:X.calm=true→X.A.handled=none
 frames:X.A.frames=some X.stack
 stk:X.stack=X.outer∨(X.stack=X.env::X.outer∧X.env.frame=some X.env.locals)
 exf:∀b∈X.ex,b≠X.env.locals∧∀x c,X.env.cells.lookup x=some c→c≠b
 bs:∀b o,X.base.get? b=some o→X.s₀.heap.get? b=some o∧X.H₀ b=none
 bsz:X.base.objs.size≤X.s₀.heap.objs.size
 noex:∀b o,X.base.get? b=some o→b∉X.ex
 exfs:∀b∈X.ex,b∉X.fs
 jk:X.s₀.heap.FunFrames X.base X.outer
 frf:∀b∈X.fs,X.H₀ b=none
structure Inv (X:Cx) (pins:List (Addr×Obj)) (σ:List (Option V)) (H:Hp) (s:Shared):Prop where
 ok:X.Ok
 os:s.os=X.s₀.os
 bare:AllBare s.gens
 base:Un X.fs X.ex X.H₀ H X.s₀.heap s.heap
 loc:∃m,s.heap.Ns X.env.locals m∧∀(i:Nat) (x:Str) (v:V),X.N[i]?=some x→σ[i]?=some (some v)→Vis X.env.scope x→∃u,RelV v u∧Look X.env s.heap m x u
 cell:∀x c,X.env.cells.lookup x=some c→∃v,s.heap.IsCell c v
 free:H X.env.locals=none
 freeC:∀x c,X.env.cells.lookup x=some c→H c=none
 pin:∀p∈X.pn++pins,s.heap.get? p.1=some p.2∧H p.1=none∧p.1≠X.env.locals∧p.1∉X.fs∧∀v,p.2.data≠.cell v
 hok:HOk X.prog X.w H s.heap
 len:σ.length=X.N.length
section
variable {X:Cx} {pins:List (Addr×Obj)} {σ:List (Option V)} {H H':Hp} {s:Shared} {h':Heap}
theorem Cx.Ok.nofr (ok:X.Ok) {b:Addr} {o:Obj} (e:X.base.get? b=some o):b∉X.fs:=λhb=>by
 have:=(ok.jk.mem hb).1;rw[e] at this;cases this
theorem Inv.bs (I:Inv X pins σ H s):∀b o,X.base.get? b=some o→s.heap.get? b=some o∧H b=none:=λb o e=>
 ⟨I.base.keep b o (I.ok.bs b o e).1 (I.ok.bs b o e).2 (I.ok.nofr e) (I.ok.noex b o e),I.base.free b o (I.ok.bs b o e).1 (I.ok.bs b o e).2 (I.ok.noex b o e)⟩
theorem Inv.bk (I:Inv X pins σ H s):∀b o,X.base.get? b=some o→s.heap.get? b=some o:=λb o e=>(I.bs b o e).1
theorem Inv.mod (I:Inv X pins σ H s):Mod X.K X.mg X.base:=I.ok.mod
theorem Inv.kIn (I:Inv X pins σ H s):X.K.In s.heap:=I.ok.mod.kin.keeps I.bk
theorem Inv.lt (I:Inv X pins σ H s):X.env.locals < s.heap.objs.size:=let ⟨_,hn,_⟩:=I.loc;hn.lt
theorem Inv.sz (I:Inv X pins σ H s):X.s₀.heap.objs.size≤s.heap.objs.size:=aar I.ok.above (abb I.lt)
theorem Inv.nofs (I:Inv X pins σ H s) {a:Addr} (h:s.heap.objs.size≤a):a∉X.fs:=λhb=>by
 obtain ⟨_,o,ho,_⟩:=I.ok.jk.mem hb;exact absurd (aa6 (Heap.lt_size ho) (aar I.sz h)) (ab3 _)
theorem Inv.cne (I:Inv X pins σ H s):∀x c,X.env.cells.lookup x=some c→c≠X.env.locals:=λx c e z=>by
 obtain ⟨v,o,ho,hd⟩:=I.cell x c e;obtain ⟨m,⟨o',es,ep,ho',hd',_⟩,_⟩:=I.loc;rw[z,ho'] at ho;cases ho;rw[hd'] at hd;cases hd
theorem Inv.jk (I:Inv X pins σ H s):s.heap.FunFrames X.base X.outer:=by
 have all:∀(l:List Env),(∀b∈frs l,b∈X.fs)→X.s₀.heap.FunFrames X.base l→s.heap.FunFrames X.base l:=by
  intro l;induction l with
  | nil=>intro _ _;trivial
  | cons env r ih=>
   intro hs hl;obtain ⟨hk,⟨L,o,hf,hn,ho,hd⟩,hr⟩:=hl;have hL:L∈X.fs:=hs L (by unfold frs;rw[acg,hf];exact aa7);obtain ⟨sl,e⟩:=I.base.slot L o ho (I.ok.frf L hL) hL λz=>I.ok.exfs L z hL;exact ⟨hk,⟨L,_,hf,hn,e,hd⟩,ih (λb hb=>hs b (by unfold frs;rw[acg,hf];exact aad _ hb)) hr⟩
 exact all X.outer (λ_ hb=>hb) I.ok.jk
theorem Inv.stack (I:Inv X pins σ H s):s.heap.FunFrames X.base X.stack:=by
 rcases I.ok.stk with e | ⟨e,hf⟩
 ·rw[e];exact I.jk
 ·rw[e];obtain ⟨m,hn,_⟩:=I.loc;refine .cons (by rw[I.ok.kind];decide) hf hn ?_ I.jk;exact Heap.get?_none_of_le (aar I.ok.bsz I.ok.above)
theorem Inv.vy (I:Inv X pins σ H s):∀b∈frs X.stack,b∈X.env.locals::X.fs:=λb hb=>by
 rcases I.ok.stk with e | ⟨e,hf⟩
 ·rw[e] at hb;exact aad _ hb
 ·rw[e] at hb;unfold frs at hb;rw[acg,hf] at hb;exact hb
theorem Inv.qm (I:Inv X pins σ H s):∀b∈frs X.stack,H b=none:=λb hb=>by
 rcases List.mem_cons.mp (I.vy b hb) with e | hb
 ·rw[e];exact I.free
 ·obtain ⟨_,o,ho,_⟩:=I.ok.jk.mem hb;exact I.base.free b o ho (I.ok.frf b hb) λz=>I.ok.exfs b z hb
theorem Inv.step {g':Array GenState} {t':Nat} {d':Drawn} {ch:List Addr} (I:Inv X pins σ H s)
  (hch:∀b∈ch,(b∈X.ex∨X.s₀.heap.objs.size≤b)∧b≠X.env.locals∧(∀x c,X.env.cells.lookup x=some c→c≠b)∧∀p∈X.pn++pins,p.1≠b)
  (keep:∀b o,b≠X.env.locals→b∉X.fs→b∉ch→s.heap.get? b=some o→H b=none→h'.get? b=some o)
  (slot:∀b o,b≠X.env.locals→b∈X.fs→b∉ch→s.heap.get? b=some o→H b=none→∃sl,h'.get? b=some { o with slots:=sl }) (free:∀b o,b∉ch→s.heap.get? b=some o→H b=none→H' b=none)
  (there:∀b o,b∉ch→s.heap.get? b=some o→∃o',h'.get? b=some o')
  (tups:∀b xs,H b=some (.tup xs)→H' b=some (.tup xs)) (frzs:∀b o u,H b=some (.frz o u)→H' b=some (.frz o u)) (tbls:∀b ps,H b=some (.tbl ps)→∃more,H' b=some (.tbl (ps++more)))
  (ns:∀m,s.heap.Ns X.env.locals m→h'.Ns X.env.locals m) (hok:HOk X.prog X.w H' h') (hg:AllBare g'):
  Inv X pins σ H' { s with heap:=h',gens:=g',drawn:=d',toks:=t' }:=by
 have neL:∀b o,X.s₀.heap.get? b=some o→b≠X.env.locals:=λb o e=>aab (aa6 (Heap.lt_size e) I.ok.above);have neC:∀b o,X.s₀.heap.get? b=some o→b∉X.ex→b∉ch:=λb o e hx hb=>by
  rcases (hch b hb).1 with z | z
  ·exact hx z
  ·exact absurd (aa6 (Heap.lt_size e) z) (ab3 _)
 have cellK:∀x c,X.env.cells.lookup x=some c→∀v,s.heap.IsCell c v→h'.IsCell c v:=λx c e v ⟨o,ho,hd⟩=>by
  have nch:c∉ch:=λz=>(hch c z).2.2.1 x c e rfl;by_cases hc:c∈X.fs
  ·obtain ⟨sl,q⟩:=slot c o (I.cne x c e) hc nch ho (I.freeC x c e);exact ⟨_,q,hd⟩
  ·exact ⟨o,keep c o (I.cne x c e) hc nch ho (I.freeC x c e),hd⟩
 refine ⟨I.ok,I.os,hg,⟨λb o e n hb hx=>?_,λb o e n hb hx=>?_,λb o e n hx=>?_,λb o e hx=>?_,λb xs e=>tups b xs (I.base.tups b xs e),λb o xs e=>frzs b o xs (I.base.frzs b o xs e),λb ps e=>?_⟩,?_,λx c e=>?_,?_,λx c e=>?_,λp hp=>?_,hok,I.len⟩
 ·exact keep b o (neL b o e) hb (neC b o e hx) (I.base.keep b o e n hb hx) (I.base.free b o e n hx)
 ·obtain ⟨sl,e1⟩:=I.base.slot b o e n hb hx;obtain ⟨sl',e2⟩:=slot b _ (neL b o e) hb (neC b o e hx) e1 (I.base.free b o e n hx);exact ⟨sl',e2⟩
 ·obtain ⟨o',e1⟩:=I.base.there b o e hx;exact free b o' (neC b o e hx) e1 (I.base.free b o e n hx)
 ·obtain ⟨o',e1⟩:=I.base.there b o e hx;exact there b o' (neC b o e hx) e1
 ·obtain ⟨m1,e1⟩:=I.base.tbls b ps e;obtain ⟨m2,e2⟩:=tbls b _ e1;exact ⟨m1++m2,by rw[e2,Array.append_assoc]⟩
 ·obtain ⟨m,hn,hl⟩:=I.loc;refine ⟨m,ns m hn,λi x v e1 e2 e3=>?_⟩;obtain ⟨u,r,l⟩:=hl i x v e1 e2 e3;refine ⟨u,r,?_⟩;rcases l with l | ⟨k,c,e,z⟩
  ·exact .inl l
  ·exact .inr ⟨k,c,e,cellK x c e _ z⟩
 ·obtain ⟨v,z⟩:=I.cell x c e;exact ⟨v,cellK x c e v z⟩
 ·obtain ⟨m,⟨o,_,_,ho,_⟩,_⟩:=I.loc;exact free _ o (λz=>(hch _ z).2.1 rfl) ho I.free
 ·obtain ⟨v,o,ho,hd⟩:=I.cell x c e;exact free c o (λz=>(hch c z).2.2.1 x c e rfl) ho (I.freeC x c e)
 ·obtain ⟨e,n,ne,nf,d⟩:=I.pin p hp;have nch:p.1∉ch:=λz=>(hch p.1 z).2.2.2 p hp rfl;exact ⟨keep p.1 p.2 ne nf nch e n,free p.1 p.2 nch e n,ne,nf,d⟩
theorem Inv.un {t':Nat} (I:Inv X pins σ H s) (u:Un X.fs [] H H' s.heap h') (hok:HOk X.prog X.w H' h'):Inv X pins σ H' { s with heap:=h',toks:=t' }:=by
 obtain ⟨m,⟨o,es,ep,ho,r⟩,_⟩:=id I.loc;obtain ⟨sl,hL⟩:=u.any ho I.free (by simp);exact I.step (g':=s.gens) (d':=s.drawn) (ch:=[]) (λ_ z=>nomatch z) (λb o _ hb _ e n=>u.keep b o e n hb (by simp)) (λb o _ hb _ e n=>u.slot b o e n hb (by simp)) (λb o _ e n=>u.free b o e n (by simp)) (λb o _ e=>u.there b o e (by simp)) u.tups u.frzs u.tbls (λm' hm=>by
  obtain ⟨o',es',ep',ho',r'⟩:=hm;rw[ho] at ho';cases ho';exact ⟨_,es',ep',hL,r'⟩) hok I.bare
theorem Inv.call {g':Array GenState} {t':Nat} {d':Drawn} {ch:List Addr} (I:Inv X pins σ H s) (u:Un (frs X.stack) ch H H' s.heap h') (hok:HOk X.prog X.w H' h') (hg:AllBare g')
  (hch:∀b∈ch,(b∈X.ex∨X.s₀.heap.objs.size≤b)∧b≠X.env.locals∧(∀x c,X.env.cells.lookup x=some c→c≠b)∧∀p∈X.pn++pins,p.1≠b):
  Inv X pins σ H' { s with heap:=h',gens:=g',drawn:=d',toks:=t' }:=by
 obtain ⟨m,⟨o,es,ep,ho,r⟩,_⟩:=id I.loc;obtain ⟨sl,hL⟩:=u.any ho I.free λz=>(hch _ z).2.1 rfl;exact I.step (ch:=ch) hch (λb o hL hb hc e n=>u.keep b o e n (λz=>(List.mem_cons.mp (I.vy b z)).elim hL hb) hc) (λb o _ _ hc e n=>u.any e n hc) (λb o hc e n=>u.free b o e n hc) (λb o hc e=>u.there b o e hc) u.tups u.frzs u.tbls (λm' hm=>by
  obtain ⟨o',es',ep',ho',r'⟩:=hm;rw[ho] at ho';cases ho';exact ⟨_,es',ep',hL,r'⟩) hok hg
theorem Inv.turned {t':Nat} {it:Addr} (I:Inv X pins σ H s) (k:∀b o,b≠it→s.heap.get? b=some o→h'.get? b=some o) (hn:H it=none) (hL:it≠X.env.locals)
  (h1:it∈X.ex∨X.s₀.heap.objs.size≤it) (h2:∀x c,X.env.cells.lookup x=some c→c≠it) (h3:∀p∈X.pn++pins,p.1≠it):Inv X pins σ H { s with heap:=h',toks:=t' }:=by
 have nit:∀b u,H b=some u→b≠it:=λb u e z=>by rw[z,hn] at e;cases e
 refine I.step (g':=s.gens) (d':=s.drawn) (ch:=[it]) (λb hb=>?_) (λb o _ _ hc e _=>k b o (λz=>hc (by simp[z])) e) (λb o _ _ hc e _=>⟨o.slots,k b o (λz=>hc (by simp[z])) e⟩) (λ_ _ _ _ n=>n)
  (λb o hc e=>⟨o,k b o (λz=>hc (by simp[z])) e⟩) (λ_ _ e=>e) (λ_ _ _ e=>e) (λb ps e=>⟨#[],by rw[e];simp⟩) (λm hm=>?_) (λb u e=>?_) I.bare
 ·have e:b=it:=by simpa using hb
  subst e;exact ⟨h1,hL,h2,h3⟩
 ·obtain ⟨o,es,ep,ho,r⟩:=hm;exact ⟨o,es,ep,k _ o (Ne.symm hL) ho,r⟩
 ·refine (I.hok b u e).qi (λc v hc q=>k c v ?_ q) (λ_ q=>q) λ_ _ q=>q;rcases hc with z | z
  ·rw[z];exact nit b u e
  ·exact nit c _ z
theorem Inv.tok (I:Inv X pins σ H s) (t:Nat):Inv X pins σ H { s with toks:=t }:=I.un (h':=s.heap) (t':=t) Un.refl I.hok
theorem Inv.kept {t':Nat} (I:Inv X pins σ H s) (k:∀b u,s.heap.get? b=some u→h'.get? b=some u):Inv X pins σ H { s with heap:=h',toks:=t' }:=I.un (Un.kept k) (I.hok.kept k)
theorem Inv.laid {a:Addr} {o:HO} {t':Nat} (I:Inv X pins σ H s) (k:∀b u,s.heap.get? b=some u→h'.get? b=some u) (hp:s.heap.objs.size≤a) (new:ay X.prog X.w (upd H a o) h' a o):
  Inv X pins σ (upd H a o) { s with heap:=h',toks:=t' }:=I.un (Un.laid k hp (I.hok.fresh hp)) (I.hok.laid k hp new)
theorem Inv.write {x e:Addr} {o:HO} {t':Nat} (I:Inv X pins σ H s) (mu:Mut (H x)) (he:e=x∨H e=some (.own x)) (k:∀b u,b≠e→s.heap.get? b=some u→h'.get? b=some u) (heo:∃u,h'.get? e=some u)
  (new:ay X.prog X.w (upd H x o) h' x o):Inv X pins σ (upd H x o) { s with heap:=h',toks:=t' }:=I.un (Un.write mu he k heo) (I.hok.write mu he k heo new)
theorem Inv.weak {σ':List (Option V)} (I:Inv X pins σ H s) (hl:σ'.length=σ.length) (w:∀(i:Nat) v,σ'[i]?=some (some v)→σ[i]?=some (some v)):Inv X pins σ' H s:=
 ⟨I.ok,I.os,I.bare,I.base,let ⟨m,hn,hl'⟩:=I.loc;⟨m,hn,λi x v e1 e2 e3=>hl' i x v e1 (w i v e2) e3⟩,I.cell,I.free,I.freeC,I.pin,I.hok,hl.trans I.len⟩
theorem Inv.xj {pins':List (Addr×Obj)} (I:Inv X pins σ H s) (h:∀p∈pins',s.heap.get? p.1=some p.2∧H p.1=none∧p.1≠X.env.locals∧p.1∉X.fs∧∀v,p.2.data≠.cell v):Inv X pins' σ H s:=
 ⟨I.ok,I.os,I.bare,I.base,I.loc,I.cell,I.free,I.freeC,λp hp=>(List.mem_append.mp hp).elim (λz=>I.pin p (abp _ z)) (h p),I.hok,I.len⟩
theorem mi {N:List Str} (hN:N.Nodup) {i j:Nat} {x:Str} (a:N[i]?=some x) (b:N[j]?=some x):i=j:=by
 obtain ⟨h1,e1⟩:=List.getElem?_eq_some_iff.mp a;obtain ⟨h2,e2⟩:=List.getElem?_eq_some_iff.mp b;exact (ack hN).mp (e1.trans e2.symm)
theorem oy {M:Model} {A:Around} {E:Value→Shared→Prop} {i:Nat} {x:Str} {v:V} {u:Value} {Q:Unit→Shared→Prop} (I:Inv X pins σ H s) (hN:X.N.Nodup) (hi:X.N[i]?=some x) (hx:Loc X.env.scope x) (r:RelV v u)
  (h:∀s',Inv X pins (σ.set i (some v)) H s'→(∃a,Heap.SameBut a s.heap s'.heap∧(a=X.env.locals∨X.env.cells.lookup x=some a))→Q () s') (hf:X.fn x=true∨X.env.scope.names.lookup x=some .local:=by first | exact .inl rfl | exact .inr rfl | assumption):wpAny M A (storeName X.env x u) Q E s:=by
 obtain ⟨m,hn,hl⟩:=id I.loc;have hcls:(X.env.scope.kind==.class||(X.env.scope.kind==.module&&X.env.locals !=X.env.globals))=false:=by rw[I.ok.kind];rfl
 have hiσ:i < σ.length:=by rw[I.len];exact (List.getElem?_eq_some_iff.mp hi).1
 have cne:=I.cne;have tracked:∀{a:Addr} {h':Heap},(∃o,s.heap.get? a=some o∧H a=none)→Heap.SameBut a s.heap h'→HOk X.prog X.w H h':=λ{a h'} ha hs b ob e=>by
  obtain ⟨_,_,hfree⟩:=ha;refine (I.hok b ob e).qi (λc w' hc q=>(hs.2 c ?_).trans q) (λ_ q=>q) λ_ _ q=>q;rintro rfl;rcases hc with rfl | hc
  ·rw[hfree] at e;cases e
  ·rw[hfree] at hc;cases hc
 rcases hx with hk | hk
 ·refine wpAny_storeName_local hk hn (λh' hn' hs=>?_) hcls;obtain ⟨oL,_,_,hoL,_⟩:=id hn;refine h _ ⟨I.ok,I.os,I.bare,⟨λb o e n hb hx=>?_,λb o e n hb hx=>?_,I.base.free,λb o e hx=>?_,I.base.tups,I.base.frzs,I.base.tbls⟩,⟨_,hn',λj y v' e1 e2 e3=>?_⟩,λy c e=>?_,I.free,I.freeC,λp hp=>?_,tracked ⟨oL,hoL,I.free⟩ hs,by simpa using I.len⟩ ⟨_,hs,.inl rfl⟩
  ·exact (hs.2 b (aab (aa6 (Heap.lt_size e) I.ok.above))).trans (I.base.keep b o e n hb hx)
  ·obtain ⟨sl,e1⟩:=I.base.slot b o e n hb hx;exact ⟨sl,(hs.2 b (aab (aa6 (Heap.lt_size e) I.ok.above))).trans e1⟩
  ·obtain ⟨o',e1⟩:=I.base.there b o e hx;exact ⟨o',(hs.2 b (aab (aa6 (Heap.lt_size e) I.ok.above))).trans e1⟩
  ·by_cases hj:j=i
   ·subst hj;rw[hi] at e1;cases e1;rw[ac6 hiσ] at e2;cases e2
    exact ⟨u,r,.inl ⟨hk,by simp⟩⟩
   ·rw[ac9 (Ne.symm hj)] at e2;obtain ⟨u',r',q⟩:=hl j y v' e1 e2 e3;refine ⟨u',r',?_⟩;rcases q with ⟨k,e⟩ | ⟨k,c,e,z⟩
    ·refine .inl ⟨k,?_⟩;have:y≠x:=λe=>hj (mi hN e1 (e ▸ hi));simp[this,e]
    ·exact .inr ⟨k,c,e,z.sameBut hs (cne y c e)⟩
  ·obtain ⟨w',z⟩:=I.cell y c e;exact ⟨w',z.sameBut hs (cne y c e)⟩
  ·obtain ⟨e,n,ne,nf,d⟩:=I.pin p hp;exact ⟨(hs.2 p.1 ne).trans e,n,ne,nf,d⟩
 ·have hfn:X.fn x=true:=by
   rcases hf with z | z
   ·exact z
   ·rw[z] at hk;cases hk
  obtain ⟨c,hc⟩:=I.ok.has x (.inl hk);obtain ⟨w',z⟩:=I.cell x c hc;refine wpAny_storeName_cell I.ok.kind hk hc z (λh' hc' hs=>?_);obtain ⟨oc,hoc,hocd⟩:=id z;refine h { s with heap:=h' } ⟨I.ok,I.os,I.bare,⟨λb o e n hb hx=>?_,λb o e n hb hx=>?_,I.base.free,λb o e hx=>?_,I.base.tups,I.base.frzs,I.base.tbls⟩,⟨m,hn.sameBut hs (Ne.symm (cne x c hc)),λj y v' e1 e2 e3=>?_⟩,λy c' e=>?_,I.free,I.freeC,λp hp=>?_,tracked ⟨oc,hoc,I.freeC x c hc⟩ hs,by simpa using I.len⟩ ⟨c,hs,.inr hc⟩
  ·exact (hs.2 b (aab (aa6 (Heap.lt_size e) (I.ok.cab x c hfn hc)))).trans (I.base.keep b o e n hb hx)
  ·obtain ⟨sl,e1⟩:=I.base.slot b o e n hb hx;exact ⟨sl,(hs.2 b (aab (aa6 (Heap.lt_size e) (I.ok.cab x c hfn hc)))).trans e1⟩
  ·obtain ⟨o',e1⟩:=I.base.there b o e hx;exact ⟨o',(hs.2 b (aab (aa6 (Heap.lt_size e) (I.ok.cab x c hfn hc)))).trans e1⟩
  ·by_cases hj:j=i
   ·subst hj;rw[hi] at e1;cases e1;rw[ac6 hiσ] at e2;cases e2
    exact ⟨u,r,.inr ⟨.inl hk,c,hc,hc'⟩⟩
   ·rw[ac9 (Ne.symm hj)] at e2;obtain ⟨u',r',q⟩:=hl j y v' e1 e2 e3;refine ⟨u',r',?_⟩;rcases q with q | ⟨k,c',e,z'⟩
    ·exact .inl q
    ·refine .inr ⟨k,c',e,z'.sameBut hs ?_⟩;rintro rfl;exact hj (mi hN e1 (I.ok.inj _ _ _ e hc ▸ hi))
  ·by_cases hcc:c'=c
   ·subst hcc;exact ⟨_,hc'⟩
   ·obtain ⟨w2,z2⟩:=I.cell y c' e;exact ⟨w2,z2.sameBut hs hcc⟩
  ·obtain ⟨e,n,ne,nf,d⟩:=I.pin p hp;refine ⟨(hs.2 p.1 ?_).trans e,n,ne,nf,d⟩;intro q;rw[q,hoc] at e;have q':oc=p.2:=aa9 e;exact d w' (by rw[←q'];exact hocd)
theorem lg {M:Model} {A:Around} {E:Value→Shared→Prop} {i:Nat} {x:Str} {v:V} {u:Value} {Q:Unit→Shared→Prop} (I:Inv X pins σ H s) (hN:X.N.Nodup) (hi:X.N[i]?=some x) (hx:Loc X.env.scope x) (r:RelV v u)
  (h:∀s',Inv X pins (σ.set i (some v)) H s'→Q () s') (hf:X.fn x=true∨X.env.scope.names.lookup x=some .local:=by first | exact .inl rfl | exact .inr rfl | assumption):wpAny M A (storeName X.env x u) Q E s:=
 oy I hN hi hx r (λs' I' _=>h s' I') hf
theorem Inv.Bg {s':Shared} {ch:List Addr} (I:Inv X pins σ H s) (ho:s'.os=s.os) (u:Un (frs X.stack) ch H H' s.heap s'.heap) (hok:HOk X.prog X.w H' s'.heap) (hg:AllBare s'.gens)
  (hch:∀b∈ch,(b∈X.ex∨X.s₀.heap.objs.size≤b)∧b≠X.env.locals∧(∀x c,X.env.cells.lookup x=some c→c≠b)∧∀p∈X.pn++pins,p.1≠b):Inv X pins σ H' s':=by
 obtain ⟨h',g',d',t',o'⟩:=s';have e:o'=s.os:=ho;subst e;exact I.call (g':=g') (t':=t') (d':=d') u hok hg hch
end
abbrev XK:=Value→Option Addr→Hp→Prop
abbrev St:=List (Option V)
abbrev VK:=V→Hp→Prop
abbrev TE:=St→Hp→VK→Prop
abbrev TT:=St→Hp→(Bool→Hp→Prop)→Prop
abbrev TA:=St→Hp→(List V→Hp→Prop)→Prop
structure Ends where
 nx:St→Hp→Prop
 rt:VK
 bk:St→Hp→Prop:=λ_ _=>False
 ct:St→Hp→Prop:=λ_ _=>False
abbrev TS:=Ends→St→Hp→Prop
def EP (X:Cx) (pins:List (Addr×Obj)) (σ:St) (Q:VK) (u:Value) (s':Shared):Prop:=∃v H',Inv X pins σ H' s'∧RelV v u∧Q v H'
def TP (X:Cx) (pins:List (Addr×Obj)) (σ:St) (Q:Bool→Hp→Prop) (b:Bool) (s':Shared):Prop:=∃H',Inv X pins σ H' s'∧Q b H'
def AP (X:Cx) (pins:List (Addr×Obj)) (σ:St) (Q:List V→Hp→Prop) (us:List Value) (s':Shared):Prop:=∃vs H',Inv X pins σ H' s'∧Vals vs us∧Q vs H'
def SP (X:Cx) (pins:List (Addr×Obj)) (D:Ends) (f:Flow) (s':Shared):Prop:=
 match f with
 | .next=>∃σ' H',Inv X pins σ' H' s'∧D.nx σ' H'
 | .brk=>∃σ' H',Inv X pins σ' H' s'∧D.bk σ' H'
 | .cont=>∃σ' H',Inv X pins σ' H' s'∧D.ct σ' H'
 | .ret u=>∃v σ' H',Inv X pins σ' H' s'∧RelV v u∧D.rt v H'
def PE (X:Cx) (e:Expr) (t:TE):Prop:=
 ∀(pins:List (Addr×Obj)) (s:Shared) (σ:St) (H:Hp) (Q:VK),Inv X pins σ H s→t σ H Q→wpAny (model X.prog X.w) X.A (eval e X.env) (EP X pins σ Q) X.xe s
def PT (X:Cx) (e:Expr) (t:TT):Prop:=
 ∀(pins:List (Addr×Obj)) (s:Shared) (σ:St) (H:Hp) (Q:Bool→Hp→Prop),Inv X pins σ H s→t σ H Q→wpAny (model X.prog X.w) X.A (isTrue e X.env (eval e X.env)) (TP X pins σ Q) X.xe s
def PW (X:Cx) (e:Expr) (t:TT):Prop:=
 ∀(whole:Sem Value) (pins:List (Addr×Obj)) (s:Shared) (σ:St) (H:Hp) (Q:Bool→Hp→Prop),Inv X pins σ H s→t σ H Q→wpAny (model X.prog X.w) X.A (isTrue e X.env whole) (TP X pins σ Q) X.xe s
theorem PW.pt {X:Cx} {e:Expr} {t:TT} (h:PW X e t):PT X e t:=h _
def PA (X:Cx) (es:List Expr) (t:TA):Prop:=
 ∀(pos:Pos) (pins:List (Addr×Obj)) (s:Shared) (σ:St) (H:Hp) (Q:List V→Hp→Prop),Inv X pins σ H s→t σ H Q→wpAny (model X.prog X.w) X.A (spliced (backTo pos (starEach es X.env))) (AP X pins σ Q) X.xe s
def PS (X:Cx) (st:Stmt) (t:TS):Prop:=
 ∀(pins:List (Addr×Obj)) (s:Shared) (σ:St) (H:Hp) (D:Ends),Inv X pins σ H s→t D σ H→wpAny (model X.prog X.w) X.A (exec st X.env) (SP X pins D) X.xe s
def PSs (X:Cx) (st:List Stmt) (t:TS):Prop:=
 ∀(pins:List (Addr×Obj)) (s:Shared) (σ:St) (H:Hp) (D:Ends),Inv X pins σ H s→t D σ H→wpAny (model X.prog X.w) X.A (execs st X.env) (SP X pins D) X.xe s
theorem thn {α:Type} {t:Sem α} {Q Q':α→Shared→Prop} {M:Model} {A:Around} {E:Value→Shared→Prop} {s:Shared} (h:wpAny M A t Q E s) (hQ:∀a s,Q a s→Q' a s):wpAny M A t Q' E s:=wpAny_mono h hQ λ_ _ x=>x
section
variable {X:Cx}
def tVar (i:Nat):TE:=λσ H Q=>∃v,σ[i]?=some (some v)∧Q v H
def tC (v:V):TE:=λ_ H Q=>Q v H
theorem pe_var {i:Nat} {x:Str} {pos:Pos} (hN:X.N[i]?=some x) (hv:Vis X.env.scope x) (hd:(x==("__debug__":Str))=false:=by decide) (hcd:(x==("__classdict__":Str))=false:=by decide):PE X (.Name x pos) (tVar i):=by
 intro pins s σ H Q I h;obtain ⟨v,e,h⟩:=h;obtain ⟨m,hn,hl⟩:=I.loc;obtain ⟨u,r,l⟩:=hl i x v hN e hv;have fin:EP X pins σ Q u s:=⟨v,H,I,r,h⟩;rcases l with ⟨hk,hm⟩ | ⟨hk,c,hc,hcell⟩
 ·exact wpAny_Name (wpAny_loadName_local I.ok.kind hk hn hm fin) hd
 ·rcases hk with hk | hk
  ·exact wpAny_Name (wpAny_loadName_cell I.ok.kind hk hc hcell fin) hd
  ·exact wpAny_Name (wpAny_loadName_free I.ok.kind hk hc hcell fin hcd) hd
theorem Bf {i j pos}:PE X (.Constant (.int i) j pos) (tC (.int i)):=λ_ _ _ H _ I h=>wpAny_Constant_int ⟨.int i,H,I.tok _,⟨_,rfl⟩,h⟩
theorem pe_bl {b j pos}:PE X (.Constant (.bool b) j pos) (tC (.bl b)):=λ_ _ _ H _ I h=>Constant_bool ⟨.bl b,H,I,rfl,h⟩
theorem pe_non {j pos}:PE X (.Constant .none j pos) (tC .non):=λ_ _ _ H _ I h=>Constant_none ⟨.non,H,I,rfl,h⟩
theorem zx {x j pos}:PE X (.Constant (.str x) j pos) (tC (.str x)):=λ_ _ _ H _ I h=>Calls.Constant_str ⟨.str x,H,I.tok _,⟨_,rfl⟩,h⟩
def Gl (X:Cx) (x:Str):Prop:=X.env.kindOf x=some .globalImplicit
theorem cu {E:Value→Shared→Prop} {pins:List (Addr×Obj)} {s:Shared} {σ:St} {H:Hp} {x:Str} {u:Value} {pos:Pos} {Q:Value→Shared→Prop} (I:Inv X pins σ H s) (hg:Gl X x) (hm:X.mg x=some u) (h:Q u s)
  (hd:(x==("__debug__":Str))=false:=by decide):wpAny (model X.prog X.w) X.A (eval (.Name x pos) X.env) Q E s:=
 Calls.Name_function_global I.ok.kind hg (Calls.loadGlobal_global (by rw[I.ok.glob];exact I.mod.glob.keeps I.bk) hm h) hd
theorem jv {E:Value→Shared→Prop} {pins:List (Addr×Obj)} {s:Shared} {σ:St} {H:Hp} {x:Str} {u:Value} {pos:Pos} {Q:Value→Shared→Prop} (I:Inv X pins σ H s) (hg:Gl X x) (hm:X.mg x=none) (hv:bootBuiltins x=some u) (h:Q u s)
  (hn:x≠"__name__":=by decide) (hd:(x==("__debug__":Str))=false:=by decide):wpAny (model X.prog X.w) X.A (eval (.Name x pos) X.env) Q E s:=by
 obtain ⟨mb,h1,h2⟩:=I.mod.blt;exact Calls.Name_function_global I.ok.kind hg (Calls.loadGlobal_builtin (by rw[I.ok.glob];exact I.mod.glob.keeps I.bk) hm (by rw[I.ok.blt];exact h1.keeps I.bk) ((h2 x hn).trans hv) h) hd
theorem Cv {x:Str} {v:V} {u:Value} {pos:Pos} (hg:Gl X x) (hm:X.mg x=some u) (r:RelV v u) (hd:(x==("__debug__":Str))=false:=by decide):PE X (.Name x pos) (tC v):=
 λ_ _ _ H _ I h=>cu I hg hm ⟨v,H,I,r,h⟩ hd
theorem Et {x:Str} {v:V} {u:Value} {pos:Pos} (hg:Gl X x) (hm:X.mg x=none) (hv:bootBuiltins x=some u) (r:RelV v u) (hn:x≠"__name__":=by decide) (hd:(x==("__debug__":Str))=false:=by decide):PE X (.Name x pos) (tC v):=
 λ_ _ _ H _ I h=>jv I hg hm hv ⟨v,H,I,r,h⟩ hn hd
variable {a b:Expr} {ta tb:TE} {pos:Pos}
def PC (X:Cx) (op:CmpOp) (a b:Expr) (t:TE):Prop:=
 ∀(pins:List (Addr×Obj)) (s:Shared) (σ:St) (H:Hp) (Q:VK),Inv X pins σ H s→t σ H Q→
  wpAny (model X.prog X.w) X.A (eval a X.env) (λv s₁=>wpAny (model X.prog X.w) X.A (eval b X.env) (λu s₂=>wpAny (model X.prog X.w) X.A (compareOp op v u) (EP X pins σ Q) X.xe s₂) X.xe s₁) X.xe s
def tB (t:TE):TT:=λσ H Q=>t σ H λx H1=>∃c,x=.bl c∧Q c H1
theorem Ap {op:CmpOp} {t:TE} (h:PC X op a b t) (h1:behindInMarks op b=false:=by first | exact nobehind _ (by decide) (by decide) | rfl):PT X (.Compare a [op] [b] pos) (tB t):=by
 intro pins s σ H Q I hw;refine wpAny_isTrue_Compare1 (thn (h pins s σ H _ I hw) λv s1 h1=>thn h1 λu s2 h2=>thn h2 λc s3 ⟨x,H1,I1,r1,q1⟩=>?_) h1;obtain ⟨d,rfl,q⟩:=q1;cases r1
 exact wpAny_truthy_bool ⟨H1,I1,q⟩
theorem pt_val {e:Expr} {t:TE} (h:PE X e t) (he:∀whole,isTrue e X.env whole=(do let v ←whole;standAt e.pos;holding [v] (truthy v)):=by intro _;rfl):PT X e (tB t):=by
 intro pins s σ H Q I hw;refine isTrue_plain (thn (h pins s σ H _ I hw) λv s1 ⟨x,H1,I1,r1,q1⟩=>?_) (he _);obtain ⟨d,rfl,q⟩:=q1;cases r1
 exact wpAny_truthy_bool ⟨H1,I1,q⟩
variable {tA tB':TT} {rest:List Expr}
def tAnd (t u:TT):TT:=λσ H Q=>t σ H λc H1=>if c=true then u σ H1 Q else Q false H1
def tOr (t u:TT):TT:=λσ H Q=>t σ H λc H1=>if c=true then Q true H1 else u σ H1 Q
def tNot (t:TT):TT:=λσ H Q=>t σ H λc H1=>Q (!c) H1
theorem rj (ha:PT X a tA):PW X (.BoolOp .Or [a] pos) tA:=by
 intro wh pins s σ H Q I h;refine isTrue_or (thn (ha pins s σ H Q I h) λc s1 e=>?_);cases c with
 | false=>exact isTrue_or_nil e
 | true=>exact e
theorem pw_or (ha:PT X a tA) (hb:PW X (.BoolOp .Or (b::rest) pos) tB'):PW X (.BoolOp .Or (a::b::rest) pos) (tOr tA tB'):=by
 intro wh pins s σ H Q I h;refine isTrue_or (thn (ha pins s σ H _ I h) λc s1 ⟨H1,I1,q1⟩=>?_);cases c with
 | true=>exact ⟨H1,I1,q1⟩
 | false=>exact hb wh pins s1 σ H1 Q I1 q1
theorem pt_not (ha:PT X a tA):PT X (.UnaryOp .Not a pos) (tNot tA):=by
 intro pins s σ H Q I h;exact isTrue_not (ha pins s σ H (λc H1=>Q (!c) H1) I h)
def tAndV (ta tb:TE):TE:=λσ H Q=>ta σ H λx H1=>∃c,x=.bl c∧if c=true then tb σ H1 Q else Q (.bl false) H1
def tOrV (ta tb:TE):TE:=λσ H Q=>ta σ H λx H1=>∃c,x=.bl c∧if c=true then Q (.bl true) H1 else tb σ H1 Q
def tNotV (ta:TE):TE:=λσ H Q=>ta σ H λx H1=>∃c,x=.bl c∧Q (.bl (!c)) H1
theorem vg {op} {t:TE} (h:PE X a t):PE X (.BoolOp op [a] pos) t:=λpins s σ H Q I hw=>BoolOp_one (h pins s σ H Q I hw)
theorem pe_and (ha:PE X a ta) (hb:PE X (.BoolOp .And (b::rest) pos) tb):PE X (.BoolOp .And (a::b::rest) pos) (tAndV ta tb):=by
 intro pins s σ H Q I h;refine BoolOp_and (thn (ha pins s σ H _ I h) λv s1 ⟨x,H1,I1,r1,q1⟩=>?_);obtain ⟨c,rfl,q1⟩:=q1;cases r1
 refine wpAny_truthy_bool ?_;cases c with
 | true=>exact hb pins s1 σ H1 Q I1 q1
 | false=>exact ⟨.bl false,H1,I1,rfl,q1⟩
def tIf (t:TT) (ta tb:TE):TE:=λσ H Q=>t σ H λc H1=>if c=true then ta σ H1 Q else tb σ H1 Q
end
def SqL (K:PySem.W.Frag) (H:Hp) (a:Addr) (xs:List V):Prop:=
 Rd H a (.lst xs)∨
  ∃(o:Obj) (its:Array Value) (n:Nat),K.lookup a=some o∧o.cls=.type "list"∧o.dict=none∧o.data=.seq its n∧its.size≤sizeLine∧Vals xs its.toList
def SqT (K:PySem.W.Frag) (H:Hp) (a:Addr) (xs:List V):Prop:=
 Rd H a (.tup xs)∨
  ∃(o:Obj) (its:Array Value) (n:Nat),K.lookup a=some o∧o.cls=.type "tuple"∧o.data=.seq its n∧its.size≤sizeLine∧Vals xs its.toList
noncomputable def absV:Value→Option V
 | .none=>some .non
 | .bool b=>some (.bl b)
 | .int i _=>some (.int i)
 | .str x _=>some (.str x)
 | .bytes b _=>some (.byt b)
 | .float b _=>some (.flt b)
 | .ref a=>some (.ref a)
 | .type n=>some (.ty n)
 | _=>none
theorem RelV.abs {x:V} {u:Value} (r:RelV x u):absV u=some x:=by
 cases x with
 | non=>cases r;rfl
 | bl _=>cases r;rfl
 | int _=>obtain ⟨t,rfl⟩:=r;rfl
 | str _=>obtain ⟨t,rfl⟩:=r;rfl
 | byt _=>obtain ⟨t,rfl⟩:=r;rfl
 | flt _=>obtain ⟨t,rfl⟩:=r;rfl
 | ref _=>cases r;rfl
 | ty _=>cases r;rfl
theorem RelV.inj {x y:V} {u:Value} (r:RelV x u) (q:RelV y u):x=y:=aa9 (r.abs.symm.trans q.abs)
theorem Vals.inj:∀{xs ys:List V} {us:List Value},Vals xs us→Vals ys us→xs=ys
 | _,_,_,.nil,.nil=>rfl
 | _,_,_,.cons r t,.cons r' t'=>by rw[r.inj r',Vals.inj t t']
section
variable {X:Cx} {pins:List (Addr×Obj)} {σ:St} {H:Hp} {s:Shared} {a:Addr} {xs ys:List V}
theorem SqL.of {K:PySem.W.Frag} (h:H a=some (.lst xs)):SqL K H a xs:=.inl (.inl h)
theorem SqT.of {K:PySem.W.Frag} (h:H a=some (.tup xs)):SqT K H a xs:=.inl (.inl h)
theorem Inv.list (I:Inv X pins σ H s) (h:SqL X.K H a xs):∃its:List Value,Vals xs its∧PlainL s.heap a its.toArray∧xs.length≤sizeLine:=by
 rcases h with h | ⟨o,its,n,hk,hc,hd,hs,hz,r⟩
 ·obtain ⟨z,its,n,r,e⟩:=h.ok I.hok;exact ⟨its,r,⟨_,n,e,rfl,rfl,rfl⟩,z⟩
 ·refine ⟨its.toList,r,⟨o,n,I.kIn a o hk,hc,hd,by simpa using hs⟩,?_⟩;have e:=r.length;simp only[aae] at e;omega
theorem Inv.tuple (I:Inv X pins σ H s) (h:SqT X.K H a xs):∃its:List Value,Vals xs its∧IsTup s.heap a its.toArray∧xs.length≤sizeLine:=by
 rcases h with h | ⟨o,its,n,hk,hc,hs,hz,r⟩
 ·obtain ⟨z,its,r,p⟩:=h.ok I.hok;exact ⟨its,r,p.tup,z⟩
 ·refine ⟨its.toList,r,⟨o,I.kIn a o hk,hc,n,by simpa using hs⟩,?_⟩;have e:=r.length;simp only[aae] at e;omega
theorem Inv.zr (I:Inv X pins σ H s) (h:SqL X.K H a xs) (h':SqL X.K H a ys):xs=ys:=by
 obtain ⟨its,r,⟨o,n,e,_,_,d⟩,_⟩:=I.list h;obtain ⟨its',r',⟨o',n',e',_,_,d'⟩,_⟩:=I.list h';rw[e] at e';cases e';rw[d] at d';injection d' with d1 _
 have:its=its':=by simpa using congrArg Array.toList d1
 subst this;exact r.inj r'
theorem Inv.ya (I:Inv X pins σ H s) (h:SqT X.K H a xs) (h':SqT X.K H a ys):xs=ys:=by
 obtain ⟨its,r,⟨o,e,_,n,d⟩,_⟩:=I.tuple h;obtain ⟨its',r',⟨o',e',_,n',d'⟩,_⟩:=I.tuple h';rw[e] at e';cases e';rw[d] at d';injection d' with d1 _
 have:its=its':=by simpa using congrArg Array.toList d1
 subst this;exact r.inj r'
end
noncomputable abbrev Cx.gm (X:Cx) (E:Value→Shared→Prop):Cx:={ X with xe:=E }
noncomputable abbrev Cx.nox (X:Cx):Cx:=X.gm λ_ _=>False
theorem Cx.Ok.gm {X:Cx} (ok:X.Ok) (E:Value→Shared→Prop):(X.gm E).Ok:=
 ⟨ok.mod,ok.kind,ok.glob,ok.blt,ok.above,ok.inj,ok.has,ok.cab,ok.hd,ok.frames,ok.stk,ok.exf,ok.bs,ok.bsz,ok.noex,ok.exfs,ok.jk,ok.frf⟩
theorem Cx.Ok.bg {X:Cx} {E:Value→Shared→Prop} (ok:(X.gm E).Ok):X.Ok:=
 ⟨ok.mod,ok.kind,ok.glob,ok.blt,ok.above,ok.inj,ok.has,ok.cab,ok.hd,ok.frames,ok.stk,ok.exf,ok.bs,ok.bsz,ok.noex,ok.exfs,ok.jk,ok.frf⟩
section
variable {X:Cx} {pins:List (Addr×Obj)} {σ:St} {H:Hp} {s:Shared} {E:Value→Shared→Prop}
theorem Inv.gm (I:Inv X pins σ H s) (E:Value→Shared→Prop):Inv (X.gm E) pins σ H s:=⟨I.ok.gm E,I.os,I.bare,I.base,I.loc,I.cell,I.free,I.freeC,I.pin,I.hok,I.len⟩
theorem Inv.bg (I:Inv (X.gm E) pins σ H s):Inv X pins σ H s:=⟨I.ok.bg,I.os,I.bare,I.base,I.loc,I.cell,I.free,I.freeC,I.pin,I.hok,I.len⟩
theorem SP.bg {D:Ends} {f:Flow} {s':Shared} (h:SP (X.gm E) pins D f s'):SP X pins D f s':=by
 cases f with
 | next=>obtain ⟨σ',H',I,q⟩:=h;exact ⟨σ',H',I.bg,q⟩
 | brk=>obtain ⟨σ',H',I,q⟩:=h;exact ⟨σ',H',I.bg,q⟩
 | cont=>obtain ⟨σ',H',I,q⟩:=h;exact ⟨σ',H',I.bg,q⟩
 | ret u=>obtain ⟨v,σ',H',I,r,q⟩:=h;exact ⟨v,σ',H',I.bg,r,q⟩
theorem PSs.nox {st:List Stmt} {t:TS} (h:PSs X.nox st t):PSs X st t:=λpins s σ H D I hw=>
 wpAny_mono (h pins s σ H D (I.gm _) hw) (λ_ _ q=>q.bg) λ_ _ z=>False.elim z
end
section
variable {X:Cx} {st:Stmt} {rest:List Stmt} {t u:TS} {e:Expr} {te:TE} {pos:Pos}
def tNext:TS:=λD σ H=>D.nx σ H
def tSeq (t u:TS):TS:=λD σ H=>t { D with nx:=u D } σ H
theorem Du:PSs X [] tNext:=λ_ _ σ H _ I h=>wpAny_execs_nil ⟨σ,H,I,h⟩
theorem b6 (h1:PS X st t) (h2:PSs X rest u):PSs X (st::rest) (tSeq t u):=by
 intro pins s σ H D I h;refine wpAny_execs_cons (thn (h1 pins s σ H { D with nx:=u D } I h) λf s1 q=>?_);cases f with
 | next=>
  obtain ⟨σ',H',I',q⟩:=q;exact h2 pins s1 σ' H' D I' q
 | ret v=>exact q
 | brk=>exact q
 | cont=>exact q
theorem dq (h1:PS X st t):PSs X [st] t:=by
 intro pins s σ H D I h;refine wpAny_execs_cons (thn (h1 pins s σ H D I h) λf s1 q=>?_);cases f with
 | next=>exact wpAny_execs_nil q
 | ret v=>exact q
 | brk=>exact q
 | cont=>exact q
theorem Inv.quiet {pins:List (Addr×Obj)} {σ:St} {H:Hp} {s:Shared} (I:Inv X pins σ H s):interactive X.env=false:=by simp[interactive,I.ok.kind]
def tDrop (te:TE):TS:=λD σ H=>te σ H λ_ H1=>D.nx σ H1
theorem dk (he:PE X e te) (hs:swapsWith e none pos.line X.env=pure false:=by rfl):PS X (.Expr e pos) (tDrop te):=by
 intro pins s σ H D I h;exact wpAny_Expr_any (thn (he pins s σ H _ I h) λv s1 ⟨x,H1,I1,r1,q1⟩=>⟨σ,H1,I1,q1⟩) I.quiet hs
def tRet (te:TE):TS:=λD σ H=>te σ H D.rt
theorem ps_ret (he:PE X e te):PS X (.Return (some e) pos) (tRet te):=by
 intro pins s σ H D I h;exact wpAny_Return_some (thn (he pins s σ H _ I h) λv s1 ⟨x,H1,I1,r1,q1⟩=>⟨x,σ,H1,I1,r1,q1⟩)
def tRetN:TS:=λD _ H=>D.rt .non H
def tIfS (c:TT) (t u:TS):TS:=λD σ H=>c σ H λb H1=>if b=true then t D σ H1 else u D σ H1
theorem ps_if {c:Expr} {a b:List Stmt} {tc:TT} (hc:PT X c tc) (ha:PSs X a t) (hb:PSs X b u):PS X (.If c a b pos) (tIfS tc t u):=by
 intro pins s σ H D I h;refine wpAny_If (thn (hc pins s σ H _ I h) λd s1 ⟨H1,I1,q1⟩=>?_);cases d with
 | true=>exact ha pins s1 σ H1 D I1 q1
 | false=>exact hb pins s1 σ H1 D I1 q1
end
abbrev TG:=V→St→Hp→(St→Hp→Prop)→Prop
def PG (X:Cx) (target:Expr) (t:TG):Prop:=
 ∀(pins:List (Addr×Obj)) (s:Shared) (σ:St) (H:Hp) (v:V) (u:Value) (Q:St→Hp→Prop),Inv X pins σ H s→RelV v u→t v σ H Q→
  wpAny (model X.prog X.w) X.A (assign target X.env u) (λ_ s'=>∃σ' H',Inv X pins σ' H' s'∧Q σ' H') X.xe s
section
variable {X:Cx} {pos:Pos}
def lr (i:Nat):TG:=λv σ H Q=>Q (σ.set i (some v)) H
theorem wx {i:Nat} {x:Str} (hN:X.N.Nodup) (hi:X.N[i]?=some x) (hx:Loc X.env.scope x) (hf:X.fn x=true∨X.env.scope.names.lookup x=some .local:=by first | exact .inl rfl | exact .inr rfl | assumption):PG X (.Name x pos) (lr i):=by
 intro pins s σ H v u Q I r h;exact wpAny_assign_Name (lg I hN hi hx r (λs' I'=>⟨_,H,I',h⟩) hf)
def tAsg (te:TE) (g:TG):TS:=λD σ H=>te σ H λx H1=>g x σ H1 D.nx
theorem Aj {i:Nat} {x:Str} {e:Expr} {te:TE} {pos':Pos} (hN:X.N.Nodup) (hi:X.N[i]?=some x) (hx:Loc X.env.scope x) (he:PE X e te) (hs:swapsWith e (some (.Name x pos')) pos.line X.env=pure false:=by rfl) (hf:X.fn x=true∨X.env.scope.names.lookup x=some .local:=by first | exact .inl rfl | exact .inr rfl | assumption):
  PS X (.Assign [.Name x pos'] e pos) (tAsg te (lr i)):=by
 intro pins s σ H D I h;refine wpAny_Assign_Name (thn (he pins s σ H _ I h) λv s1 ⟨y,H1,I1,r1,q1⟩=>?_) hs;exact lg I1 hN hi hx r1 (λs2 I2=>⟨_,H1,I2,q1⟩) hf
end
structure It where
 go:Nat→Hp→Prop
 yld:Nat→Hp→V→Hp→Prop
 stop:Nat→Hp→Prop
def iq (X:Cx) (pins:List (Addr×Obj)) (H:Hp) (b:Addr):Prop:=
 H b=none∧b≠X.env.locals∧b∉X.fs∧(b∈X.ex∨X.s₀.heap.objs.size≤b)∧(∀x c,X.env.cells.lookup x=some c→c≠b)∧∀p∈X.pn++pins,p.1≠b
theorem Inv.fpOk {X:Cx} {pins:List (Addr×Obj)} {σ:St} {H H':Hp} {s:Shared} {b:Addr} (I:Inv X pins σ H s) (hb:s.heap.objs.size≤b) (hn:H' b=none):iq X pins H' b:=by
 refine ⟨hn,aaw (aa6 I.lt hb),I.nofs hb,.inr (aar I.sz hb),λx c e z=>?_,λp hp z=>?_⟩
 ·obtain ⟨v,q⟩:=I.cell x c e;exact absurd (aa6 q.lt (by rw[z];exact hb)) (ab3 _)
 ·exact absurd (aa6 (Heap.lt_size (I.pin p hp).1) (by rw[z];exact hb)) (ab3 _)
structure Turn (P:Program) (w:World) (K:PySem.W.Frag) (tg:Expr) (J:It) (fp:List Addr) (it:Addr) (tn:Nat→Heap→Prop):Prop where
 mem:it∈fp
 obj:∀i h,tn i h→∀b∈fp,∃o,h.get? b=some o∧∀v,o.data≠.cell v
 keep:∀i h h',tn i h→(∀b∈fp,∀o,h.get? b=some o→h'.get? b=some o)→tn i h'
 item:∀(X:Cx),X.prog=P→X.w=w→X.K=K→X.calm=true→∀(i:Nat) (pins:List (Addr×Obj)) (s:Shared) (σ:St) (H:Hp) (E:Value→Shared→Prop),Inv X pins σ H s→(∀b∈fp,iq X pins H b)→tn i s.heap→J.go i H→
  wpAny (model P w) X.A (pyNext (.ref it)) (λr s1=>∃u,r=some u∧
   wpAny (model P w) X.A (letOwnedTupleGo tg (.ref it) u) (λ_ s2=>∃x H',Inv X pins σ H' s2∧RelV x u∧J.yld i H x H'∧tn (i+1) s2.heap∧∀b∈fp,H' b=none) E s1) E s
 done:∀(X:Cx),X.prog=P→X.w=w→X.K=K→X.calm=true→∀(i:Nat) (pins:List (Addr×Obj)) (s:Shared) (σ:St) (H:Hp) (E:Value→Shared→Prop),Inv X pins σ H s→(∀b∈fp,iq X pins H b)→tn i s.heap→J.stop i H→
  wpAny (model P w) X.A (pyNext (.ref it)) (λr s1=>r=none∧Inv X pins σ H s1) E s
 self:∀(A:Around) (i:Nat) (s:Shared) (Q:Value→Shared→Prop) (E:Value→Shared→Prop),tn i s.heap→Q (.ref it) s→wpAny (model P w) A (pyIter (.ref it)) Q E s
abbrev TI:=St→Hp→(It→Hp→Prop)→Prop
def PIE (X:Cx) (pins:List (Addr×Obj)) (σ:St) (tg:Expr) (R:It→Hp→Prop) (itv:Value) (s2:Shared):Prop:=
 ∃(it:Addr) (fp:List Addr) (tn:Nat→Heap→Prop) (J:It) (H':Hp),itv=.ref it∧Inv X pins σ H' s2∧Turn X.prog X.w X.K tg J fp it tn∧tn 0 s2.heap∧(∀b∈fp,iq X pins H' b)∧R J H'
def PI (X:Cx) (tg iter:Expr) (wi:TI):Prop:=
 ∀(pins:List (Addr×Obj)) (s:Shared) (σ:St) (H:Hp) (R:It→Hp→Prop),Inv X pins σ H s→wi σ H R→
  wpAny (model X.prog X.w) X.A (eval iter X.env) (λv s1=>wpAny (model X.prog X.w) X.A (pyIter v) (PIE X pins σ tg R) X.xe s1) X.xe s
theorem Bl {M:Model} {A:Around} {E:Value→Shared→Prop} {s:Shared} {tg:Expr} {it:Addr} {u:Value} {o:Obj} {n:String} {vs:Array Value} {Q:Unit→Shared→Prop} (ho:s.heap.get? it=some o) (hc:o.cls=.type n) (hd:o.data=.fields vs)
    (hn:["enumerate","zip","dict_itemiterator","dict_reverseitemiterator","odict_iterator","itertools.zip_longest","itertools.pairwise"].contains n=false) (hQ:Q () s):wpAny M A (letOwnedTupleGo tg (.ref it) u) Q E s:=by
  unfold letOwnedTupleGo;cases tg <;> first
    | exact wpAny_pure hQ
    | (cases u <;> first
        | exact wpAny_pure hQ
        | (refine wpAny_bind (wpAny_load ho ?_)
           rw[hc,hd];show wpAny M A (if (["enumerate","zip","dict_itemiterator","dict_reverseitemiterator","odict_iterator","itertools.zip_longest","itertools.pairwise"].contains n&&vs[0]?==some (rawInt _))=true then _ else _) Q E s
           rw[if_neg (by intro h;rw[hn,Bool.false_and] at h;cases h)];exact wpAny_pure hQ))
noncomputable def Itl (K:PySem.W.Frag) (a:Addr):It:=
 ⟨λi H=>∃xs x,SqL K H a xs∧xs[i]?=some x,λi H x H'=>H'=H∧∀xs,SqL K H a xs→xs[i]?=some x,λi H=>∃xs,SqL K H a xs∧xs.length≤i⟩
noncomputable def Itt (K:PySem.W.Frag) (a:Addr):It:=
 ⟨λi H=>∃xs x,SqT K H a xs∧xs[i]?=some x,λi H x H'=>H'=H∧∀xs,SqT K H a xs→xs[i]?=some x,λi H=>∃xs,SqT K H a xs∧xs.length≤i⟩
noncomputable def Itr (lo:Int) (n:Nat):It:=⟨λi _=>i < n,λi H x H'=>H'=H∧x=.int (lo+i),λi _=>n≤i⟩
theorem yk {P:Program} {w:World} {K:PySem.W.Frag} {tg:Expr} (a it:Addr):Turn P w K tg (Itl K a) [it] it (λi h=>h.IsListIter it a i) where
 mem:=by simp
 obj:=λi h st b hb=>by
  have e:b=it:=by simpa using hb
  subst e;obtain ⟨o,e,c,d⟩:=st;exact ⟨o,e,λv z=>by rw[d] at z;cases z⟩
 keep:=λi h h' st k=>st.at λo e=>k it (by simp) o e
 item:=by
  intro X hP hw hK hc i pins s σ H E I hf st hg;subst hP hw hK;obtain ⟨xs,x,hq,hx⟩:=hg;obtain ⟨its,rv,p,hz⟩:=I.list hq;obtain ⟨u,hu,ru⟩:=rv.get hx;obtain ⟨f0,f1,f2,f3,f4,f5⟩:=hf it (by simp);refine wpAny_pyNext_list_item st p.isList (x:=u) (by simpa using hu) λh' st' sb=>?_;have I1:Inv X pins σ H { s with heap:=h' }:=I.turned (t':=s.toks) (λb o hb e=>(sb.2 b hb).trans e) f0 f1 f3 f4 f5;obtain ⟨o,e,c,d⟩:=id st';exact ⟨u,rfl,Bl (s:={ s with heap:=h' }) e c d (by decide) ⟨x,H,I1,ru,⟨rfl,λys hy=>by rw[I.zr hy hq];exact hx⟩,st',λb hb=>(hf b hb).1⟩⟩
 done:=by
  intro X hP hw hK hc i pins s σ H E I hf st hg;subst hP hw hK;obtain ⟨xs,hq,hx⟩:=hg;obtain ⟨its,rv,p,hz⟩:=I.list hq;obtain ⟨f0,f1,f2,f3,f4,f5⟩:=hf it (by simp);have hl:=rv.length;exact wpAny_pyNext_list_end (I.ok.hd hc) st p.isList (by simp;omega) λh' eb=>⟨rfl,I.turned (t':=s.toks) (λb o hb e=>eb b o hb e) f0 f1 f3 f4 f5⟩
 self:=λ_ _ _ _ _ st h=>wpAny_pyIter_listiter st h
theorem v5 {P:Program} {w:World} {K:PySem.W.Frag} {tg:Expr} (a it:Addr):Turn P w K tg (Itt K a) [it] it (λi h=>h.IsTupleIter it a i) where
 mem:=by simp
 obj:=λi h st b hb=>by
  have e:b=it:=by simpa using hb
  subst e;obtain ⟨o,e,c,d⟩:=st;exact ⟨o,e,λv z=>by rw[d] at z;cases z⟩
 keep:=λi h h' st k=>st.at λo e=>k it (by simp) o e
 item:=by
  intro X hP hw hK hc i pins s σ H E I hf st hg;subst hP hw hK;obtain ⟨xs,x,hq,hx⟩:=hg;obtain ⟨its,rv,p,hz⟩:=I.tuple hq;obtain ⟨u,hu,ru⟩:=rv.get hx;obtain ⟨f0,f1,f2,f3,f4,f5⟩:=hf it (by simp);refine wpAny_pyNext_tuple_item st (show s.heap.IsTuple a its.toArray from p) (x:=u) (by simpa using hu) λh' st' sb=>?_;have I1:Inv X pins σ H { s with heap:=h' }:=I.turned (t':=s.toks) (λb o hb e=>(sb.2 b hb).trans e) f0 f1 f3 f4 f5;obtain ⟨o,e,c,d⟩:=id st';exact ⟨u,rfl,Bl (s:={ s with heap:=h' }) e c d (by decide) ⟨x,H,I1,ru,⟨rfl,λys hy=>by rw[I.ya hy hq];exact hx⟩,st',λb hb=>(hf b hb).1⟩⟩
 done:=by
  intro X hP hw hK hc i pins s σ H E I hf st hg;subst hP hw hK;obtain ⟨xs,hq,hx⟩:=hg;obtain ⟨its,rv,p,hz⟩:=I.tuple hq;obtain ⟨f0,f1,f2,f3,f4,f5⟩:=hf it (by simp);have hl:=rv.length;exact wpAny_pyNext_tuple_end (I.ok.hd hc) st (show s.heap.IsTuple a its.toArray from p) (by simp;omega) λh' eb=>⟨rfl,I.turned (t':=s.toks) (λb o hb e=>eb b o hb e) f0 f1 f3 f4 f5⟩
 self:=λ_ _ _ _ _ st h=>wpAny_pyIter_tupleiter st h
theorem uv {P:Program} {w:World} {K:PySem.W.Frag} {tg:Expr} (it:Addr) (lo:Int) (n:Nat):Turn P w K tg (Itr lo n) [it] it (λi h=>IsRangeIter h it (lo+(i:Nat)*1) ((n:Int) - (i:Nat)) 1) where
 mem:=by simp
 obj:=λi h st b hb=>by
  have e:b=it:=by simpa using hb
  subst e;exact ⟨_,st,λv z=>by
   have z':Data.fields _=Data.cell v:=z;cases z'⟩
 keep:=λi h h' st k=>k it (by simp) _ st
 item:=by
  intro X hP hw hK hc i pins s σ H E I hf st hg;subst hP hw hK;obtain ⟨f0,f1,f2,f3,f4,f5⟩:=hf it (by simp);have W:=Walks.range (prog:=X.prog) (w:=X.w) (I.ok.hd hc) it lo 1 n;refine W.item i s _ _ hg st λv h' tk hv st' kk=>?_;obtain ⟨t,rfl⟩:=hv;have I1:Inv X pins σ H { s with heap:=h',toks:=tk }:=I.turned (λb o hb e=>kk b o (by simpa using hb) e) f0 f1 f3 f4 f5;refine ⟨_,rfl,Bl (s:={ s with heap:=h',toks:=tk }) (n:="range_iterator") st' rfl rfl (by decide) ⟨.int (lo+i),H,I1,⟨t,?_⟩,⟨rfl,rfl⟩,st',λb hb=>(hf b hb).1⟩⟩;rw[Int.mul_one]
 done:=by
  intro X hP hw hK hc i pins s σ H E I hf st hg;subst hP hw hK;obtain ⟨f0,f1,f2,f3,f4,f5⟩:=hf it (by simp);exact wpAny_pyNext_range_end (I.ok.hd hc) st (by have:n≤i:=hg;omega) λh' eb=>⟨rfl,I.turned (t':=s.toks) (λb o hb e=>eb b o hb e) f0 f1 f3 f4 f5⟩
 self:=λ_ _ _ _ _ st h=>wpAny_pyIter_rangeiter st h
section
variable {X:Cx} {tg:Expr}
def iList (K:PySem.W.Frag) (tl:TE):TI:=λσ H R=>tl σ H λx H1=>∃a,x=.ref a∧(∃xs,SqL K H1 a xs)∧R (Itl K a) H1
def iTup (K:PySem.W.Frag) (tl:TE):TI:=λσ H R=>tl σ H λx H1=>∃a,x=.ref a∧(∃xs,SqT K H1 a xs)∧R (Itt K a) H1
theorem Cp {l:Expr} {tl:TE} (hl:PE X l tl):PI X tg l (iList X.K tl):=by
 intro pins s σ H R I h;refine thn (hl pins s σ H _ I h) λv s1 ⟨x,H1,I1,r1,q1⟩=>?_;obtain ⟨a,e,⟨xs,hq⟩,q⟩:=q1;subst e;cases r1
 obtain ⟨its,rv,p,hz⟩:=I1.list hq;refine wpAny_pyIter_list p.isList ?_;refine ⟨s1.heap.objs.size,[s1.heap.objs.size],_,_,H1,rfl,I1.kept (t':=s1.toks) λb o e=>Heap.get?_push_of_some _ e,yk a _,⟨_,Heap.get?_push_size _ rfl,rfl,rfl⟩,λb hb=>?_,q⟩;have e:b=s1.heap.objs.size:=by simpa using hb
 subst e;exact I1.fpOk (aa3 _) (I1.hok.fresh (aa3 _))
theorem pi_tup {l:Expr} {tl:TE} (hl:PE X l tl):PI X tg l (iTup X.K tl):=by
 intro pins s σ H R I h;refine thn (hl pins s σ H _ I h) λv s1 ⟨x,H1,I1,r1,q1⟩=>?_;obtain ⟨a,e,⟨xs,hq⟩,q⟩:=q1;subst e;cases r1
 obtain ⟨its,rv,p,hz⟩:=I1.tuple hq;refine wpAny_pyIter_tuple (show s1.heap.IsTuple a its.toArray from p) ?_;refine ⟨s1.heap.objs.size,[s1.heap.objs.size],_,_,H1,rfl,I1.kept (t':=s1.toks) λb o e=>Heap.get?_push_of_some _ e,v5 a _,⟨_,Heap.get?_push_size _ rfl,rfl,rfl⟩,λb hb=>?_,q⟩;have e:b=s1.heap.objs.size:=by simpa using hb
 subst e;exact I1.fpOk (aa3 _) (I1.hok.fresh (aa3 _))
theorem zo {pins:List (Addr×Obj)} {σ:St} {H:Hp} {s:Shared} {R:It→Hp→Prop} {E:Value→Shared→Prop} {lo hi:Int} {t u v:Tok} {tk:Nat} (I:Inv X pins σ H s) (h1:-(2 ^ 62)≤lo) (h2:lo < 2 ^ 62) (h3:-(2 ^ 62)≤hi) (h4:hi < 2 ^ 62)
  (q:R (Itr lo (hi - lo).toNat) H):wpAny (model X.prog X.w) X.A (pyIter (.ref s.heap.objs.size)) (PIE X pins σ tg R) E { s with heap:=s.heap.push { cls:=.type "range",data:=.fields #[.int lo t,.int hi u,.int 1 v] },toks:=tk }:=by
 refine wpAny_pyIter_range (IsRange.new ..) (small_one h1 h2 h3 h4) ?_;have I1:Inv X pins σ H { s with heap:=s.heap.push { cls:=.type "range",data:=.fields #[.int lo t,.int hi u,.int 1 v] },toks:=tk }:=I.kept λb o e=>Heap.get?_push_of_some _ e;refine ⟨(s.heap.push { cls:=.type "range",data:=.fields #[.int lo t,.int hi u,.int 1 v] }).objs.size,[(s.heap.push { cls:=.type "range",data:=.fields #[.int lo t,.int hi u,.int 1 v] }).objs.size],_,_,H,rfl,
  I1.kept (t':=tk) λb o e=>Heap.get?_push_of_some _ e,uv _ lo (hi - lo).toNat,?_,λb hb=>?_,q⟩
 ·have e1:lo+((0:Nat):Int)*1=lo:=by simp
  have e2:(((hi - lo).toNat:Nat):Int) - ((0:Nat):Int)=Builtin.Range.rangeSize lo hi 1:=by rw[rangeSize_one];split <;> omega
  show IsRangeIter _ _ (lo+((0:Nat):Int)*1) ((((hi - lo).toNat:Nat):Int) - ((0:Nat):Int)) 1
  rw[e1,e2];exact Heap.get?_push_size _ rfl
 ·have e:b=(s.heap.push { cls:=.type "range",data:=.fields #[.int lo t,.int hi u,.int 1 v] }).objs.size:=by simpa using hb
  subst e;exact I1.fpOk (aa3 _) (I1.hok.fresh (aa3 _))
def iRng1 (ta:TA):TI:=λσ H R=>ta σ H λvs H1=>∃j:Int,vs=[.int j]∧-(2 ^ 62)≤j∧j < 2 ^ 62∧R (Itr 0 j.toNat) H1
def iRng2 (ta:TA):TI:=λσ H R=>ta σ H λvs H1=>∃i j:Int,vs=[.int i,.int j]∧(-(2 ^ 62)≤i∧i < 2 ^ 62∧-(2 ^ 62)≤j∧j < 2 ^ 62)∧R (Itr i (j - i).toNat) H1
theorem zg {a:Expr} {ta:TA} {p pos:Pos} (hg:Gl X "range") (hm:X.mg "range"=none) (ha:PA X [a] ta) (hs:starEach [a] X.env=[(false,eval a X.env)]:=by rfl):PI X tg (.Call (.Name "range" p) [a] [] pos) (iRng1 ta):=by
 intro pins s σ H R I h;refine Call_ (jv I hg hm boot_range (PyProof.Rows.callWith_type1 (thn (ha pos pins s σ H _ I h) λus s1 ⟨vs,H1,I1,r1,q1⟩=>?_) hs rfl));obtain ⟨j,e,q1,q2,q⟩:=q1;subst e;cases r1 with
 | cons r rr=>
  cases rr
  obtain ⟨t,rfl⟩:=r;exact call_range_1 (zo I1 (by omega) (by omega) q1 q2 (by simpa using q))
def tFor (wi:TI) (g:TG) (tb:TS):TS:=λD σ H=>wi σ H λJ H1=>∃W:Nat→Nat→St→Hp→Prop,(∃m,W 0 m σ H1)∧∀i m σ H,W i m σ H→
 (J.stop i H∧D.nx σ H)∨(J.go i H∧∃N:St→Hp→Prop,(∀σ' H',N σ' H'→∃m',m' < m∧W (i+1) m' σ' H')∧∀x H',J.yld i H x H'→g x σ H' λσ2 H2=>tb { D with nx:=N,ct:=N,bk:=D.nx } σ2 H2)
noncomputable def js (fp:List Addr) (h:Heap):List (Addr×Obj):=fp.filterMap λb=>(h.get? b).map λo=>(b,o)
theorem cn {fp:List Addr} {h:Heap} {b:Addr} {o:Obj} (hb:b∈fp) (e:h.get? b=some o):(b,o)∈js fp h:=List.mem_filterMap.mpr ⟨b,hb,by rw[e];rfl⟩
theorem zf {fp:List Addr} {h:Heap} {p:Addr×Obj} (hp:p∈js fp h):p.1∈fp∧h.get? p.1=some p.2:=by
 obtain ⟨b,hb,e⟩:=List.mem_filterMap.mp hp;cases q:h.get? b with
 | none=>rw[q] at e;cases e
 | some o=>
  rw[q] at e;have e':(b,o)=p:=aa9 e;subst e';exact ⟨hb,q⟩
theorem Inv.pinned {pins:List (Addr×Obj)} {σ:St} {H:Hp} {s:Shared} {fp:List Addr} (I:Inv X pins σ H s) (hf:∀b∈fp,iq X pins H b) (ho:∀b∈fp,∃o,s.heap.get? b=some o∧∀v,o.data≠.cell v):Inv X (pins++js fp s.heap) σ H s:=
 I.xj λp hp=>(List.mem_append.mp hp).elim (λz=>I.pin p (aah _ z)) λz=>by
  obtain ⟨hb,e⟩:=zf z;obtain ⟨f0,f1,f2,_⟩:=hf p.1 hb;obtain ⟨o,e',d⟩:=ho p.1 hb;rw[e] at e';cases e';exact ⟨e,f0,f1,f2,d⟩
theorem Inv.ft {pins pl:List (Addr×Obj)} {σ:St} {H:Hp} {s:Shared} (I:Inv X (pins++pl) σ H s):Inv X pins σ H s:=I.xj λp hp=>I.pin p (aah _ (abp _ hp))
theorem Ag {iter:Expr} {body:List Stmt} {wi:TI} {g:TG} {tb:TS} {pos:Pos} (hp:PassesOwn (model X.prog X.w) X.A X.env X.xe) (hc:X.calm=true) (hi:PI X tg iter wi) (hg:PG X tg g) (hb:PSs X body tb)
  (hs:∀x,foldedSetIterable iter X.env x=pure x:=by intro _;rfl):PS X (.For tg iter body [] pos) (tFor wi g tb):=by
 intro pins s σ H D I h;refine wpAny_For (thn (hi pins s σ H _ I h) λv s1 h1=>thn h1 λitv s2 h2=>?_) hs;obtain ⟨it,fp,tn,J,H2,e,I2,T,st2,f2,W,⟨m0,w0⟩,turn⟩:=h2;subst e;have stat:∀{H':Hp},(∀b∈fp,H' b=none)→∀b∈fp,iq X pins H' b:=λhn b hb=>⟨hn b hb,(f2 b hb).2⟩;refine codeAny_forLoop_any (λn s'=>∃i σ' H',Inv X pins σ' H' s'∧tn i s'.heap∧(∀b∈fp,H' b=none)∧W i n σ' H') ?_ m0 ⟨0,σ,H2,I2,st2,λb hb=>(f2 b hb).1,w0⟩;rintro n s3 ⟨i,σ3,H3,I3,st3,fr3,w3⟩;rcases turn i n σ3 H3 w3 with ⟨stop,qn⟩ | ⟨go,N,hN,step⟩
 ·refine wpAny_passesOwn hp (thn (T.done X rfl rfl rfl hc i pins s3 σ3 H3 X.xe I3 (stat fr3) st3 stop) λr s4 ⟨hr,I4⟩=>?_);subst hr;exact wpAny_execs_nil ⟨σ3,H3,I4,qn⟩
 ·refine wpAny_passesOwn hp (thn (T.item X rfl rfl rfl hc i pins s3 σ3 H3 X.xe I3 (stat fr3) st3 go) λr s4 ⟨u,hr,h4⟩=>?_);subst hr;refine wpAny_passesOwn hp (thn h4 λ_ s5 ⟨x,H5,I5,r5,y5,st5,fr5⟩=>?_);have I5':=I5.pinned (stat fr5) (T.obj _ _ st5);refine wpAny_passesOwn hp (thn (hg _ s5 σ3 H5 x u _ I5' r5 (step x H5 y5)) λ_ s6 ⟨σ6,H6,I6,q6⟩=>?_);refine wpAny_passesOwn hp (thn (hb _ s6 σ6 H6 _ I6 q6) λf s7 q7=>?_);have again:∀{σ7:St} {H7:Hp},Inv X (pins++js fp s5.heap) σ7 H7 s7→N σ7 H7→∃m,m < n∧∃i σ' H',Inv X pins σ' H' s7∧tn i s7.heap∧(∀b∈fp,H' b=none)∧W i m σ' H':=λ{σ7 H7} I7 n7=>by
   obtain ⟨m',hm,w7⟩:=hN σ7 H7 n7;refine ⟨m',hm,i+1,σ7,H7,I7.ft,T.keep _ _ _ st5 λb hb o e=>(I7.pin (b,o) (aah _ (aah _ (cn hb e)))).1,λb hb=>?_,w7⟩;obtain ⟨o,e,d⟩:=T.obj _ _ st5 b hb;exact (I7.pin (b,o) (aah _ (aah _ (cn hb e)))).2.1
  cases f with
  | next=>obtain ⟨σ7,H7,I7,n7⟩:=q7;exact again I7 n7
  | cont=>obtain ⟨σ7,H7,I7,n7⟩:=q7;exact again I7 n7
  | brk=>obtain ⟨σ7,H7,I7,q7⟩:=q7;exact ⟨σ7,H7,I7.ft,q7⟩
  | ret v=>obtain ⟨x7,σ7,H7,I7,r7,q7⟩:=q7;exact ⟨x7,σ7,H7,I7.ft,r7,q7⟩
end
theorem Ac {K:PySem.W.Frag} {a:Addr} {xs:List V} {g:TG} {tb:TS} {D:Ends} {σ:St} {H:Hp} (Pv:Nat→St→Hp→Prop) (h0:Pv 0 σ H) (hl:∀i σ H,i≤xs.length→Pv i σ H→SqL K H a xs)
  (hs:∀i x σ H,xs[i]?=some x→Pv i σ H→g x σ H λσ2 H2=>tb { D with nx:=Pv (i+1),ct:=Pv (i+1),bk:=D.nx } σ2 H2) (hd:∀σ H,Pv xs.length σ H→D.nx σ H):
  ∃W:Nat→Nat→St→Hp→Prop,(∃m,W 0 m σ H)∧∀i m σ H,W i m σ H→
   ((Itl K a).stop i H∧D.nx σ H)∨((Itl K a).go i H∧∃N:St→Hp→Prop,(∀σ' H',N σ' H'→∃m',m' < m∧W (i+1) m' σ' H')∧∀x H',(Itl K a).yld i H x H'→g x σ H' λσ2 H2=>tb { D with nx:=N,ct:=N,bk:=D.nx } σ2 H2):=by
 refine ⟨λi m σ H=>m=xs.length - i∧i≤xs.length∧Pv i σ H,⟨xs.length,by simp,ab0 _,h0⟩,?_⟩;rintro i m σ H ⟨rfl,hi,p⟩;have q:=hl i σ H hi p;by_cases hlt:i < xs.length
 ·refine .inr ⟨⟨xs,xs[i],q,by simp[hlt]⟩,Pv (i+1),λσ' H' p'=>⟨xs.length - (i+1),by omega,rfl,hlt,p'⟩,λx H' y=>?_⟩;obtain ⟨e,y⟩:=y;subst e;exact hs i x σ _ (y xs q) p
 ·have e:i=xs.length:=by omega
  subst e;exact .inl ⟨⟨xs,q,aa3 _⟩,hd σ H p⟩
theorem yi {lo:Int} {n:Nat} {g:TG} {tb:TS} {D:Ends} {σ:St} {H:Hp} (Pv:Nat→St→Hp→Prop) (h0:Pv 0 σ H)
  (hs:∀i σ H,i < n→Pv i σ H→g (.int (lo+i)) σ H λσ2 H2=>tb { D with nx:=Pv (i+1),ct:=Pv (i+1),bk:=D.nx } σ2 H2) (hd:∀σ H,Pv n σ H→D.nx σ H):
  ∃W:Nat→Nat→St→Hp→Prop,(∃m,W 0 m σ H)∧∀i m σ H,W i m σ H→
   ((Itr lo n).stop i H∧D.nx σ H)∨((Itr lo n).go i H∧∃N:St→Hp→Prop,(∀σ' H',N σ' H'→∃m',m' < m∧W (i+1) m' σ' H')∧∀x H',(Itr lo n).yld i H x H'→g x σ H' λσ2 H2=>tb { D with nx:=N,ct:=N,bk:=D.nx } σ2 H2):=by
 refine ⟨λi m σ H=>m=n - i∧i≤n∧Pv i σ H,⟨n,by simp,ab0 _,h0⟩,?_⟩;rintro i m σ H ⟨rfl,hi,p⟩;by_cases hlt:i < n
 ·refine .inr ⟨hlt,Pv (i+1),λσ' H' p'=>⟨n - (i+1),by omega,rfl,hlt,p'⟩,λx H' y=>?_⟩;obtain ⟨e,y⟩:=y;subst e y;exact hs i σ _ hlt p
 ·have e:i=n:=by omega
  subst e;exact .inl ⟨aa3 _,hd σ H p⟩
abbrev R2:=V→V→Hp→VK→Prop
def OpR (X:Cx) (f:Value→Value→Sem Value) (r:R2):Prop:=
 ∀(pins:List (Addr×Obj)) (s:Shared) (σ:St) (H:Hp) (x y:V) (v u:Value) (Q:VK),Inv X pins σ H s→RelV x v→RelV y u→r x y H Q→
  wpAny (model X.prog X.w) X.A (f v u) (EP X pins σ Q) X.xe s
def UnR (X:Cx) (f:Value→Sem Value) (r:V→Hp→VK→Prop):Prop:=
 ∀(pins:List (Addr×Obj)) (s:Shared) (σ:St) (H:Hp) (x:V) (v:Value) (Q:VK),Inv X pins σ H s→RelV x v→r x H Q→
  wpAny (model X.prog X.w) X.A (f v) (EP X pins σ Q) X.xe s
def d0 (X:Cx) (f:Value) (r:List V→Hp→VK→Prop):Prop:=
 ∀(pins:List (Addr×Obj)) (s:Shared) (σ:St) (H:Hp) (xs:List V) (us:List Value) (Q:VK),Inv X pins σ H s→Vals xs us→r xs H Q→
  wpAny (model X.prog X.w) X.A (call f us) (EP X pins σ Q) X.xe s
def tOp (r:R2) (ta tb:TE):TE:=λσ H Q=>ta σ H λx H1=>tb σ H1 λy H2=>r x y H2 Q
def tUn (r:V→Hp→VK→Prop) (ta:TE):TE:=λσ H Q=>ta σ H λx H1=>r x H1 Q
def rI (C:Int→Int→Prop) (g:Int→Int→V):R2:=λx y H Q=>∃i j,x=.int i∧y=.int j∧C i j∧Q (g i j) H
def rI0 (g:Int→Int→V):R2:=λx y H Q=>∃i j,x=.int i∧y=.int j∧Q (g i j) H
def rU (g:Int→V):V→Hp→VK→Prop:=λx H Q=>∃i,x=.int i∧Q (g i) H
section
variable {X:Cx} {a b c:Expr} {ta tb tc:TE} {pos:Pos}
theorem binT (ha:PE X a ta) (hb:PE X b tb) {pins:List (Addr×Obj)} {s:Shared} {σ:St} {H:Hp} {R:V→V→Hp→Prop} (I:Inv X pins σ H s)
  (h:ta σ H λx H1=>tb σ H1 λy H2=>R x y H2) {Q:Value→Shared→Prop} {f:Value→Value→Sem Value}
  (hf:∀v u s2 x y H2,Inv X pins σ H2 s2→RelV x v→RelV y u→R x y H2→wpAny (model X.prog X.w) X.A (f v u) Q X.xe s2):
  wpAny (model X.prog X.w) X.A (eval a X.env) (λv s₁=>wpAny (model X.prog X.w) X.A (eval b X.env) (λu s₂=>wpAny (model X.prog X.w) X.A (f v u) Q X.xe s₂) X.xe s₁) X.xe s:=by
 refine thn (ha pins s σ H _ I h) λv s1 ⟨x,H1,I1,r1,q1⟩=>?_;refine thn (hb pins s1 σ H1 _ I1 q1) λu s2 ⟨y,H2,I2,r2,q2⟩=>?_;exact hf v u s2 x y H2 I2 r1 r2 q2
theorem pe_op {op:Operator} {r:R2} (ho:OpR X (binaryOp op) r) (ha:PE X a ta) (hb:PE X b tb):PE X (.BinOp a op b pos) (tOp r ta tb):=by
 intro pins s σ H Q I h;exact wpAny_BinOp (binT ha hb I h λv u s2 x y H2 I2 rx ry q=>ho pins s2 σ H2 x y v u Q I2 rx ry q)
theorem pe_un {op:UnaryOp} {r:V→Hp→VK→Prop} (ho:UnR X (unaryOp op) r) (ha:PE X a ta):PE X (.UnaryOp op a pos) (tUn r ta):=by
 intro pins s σ H Q I h;exact UnaryOp_ (thn (ha pins s σ H _ I h) λv s1 ⟨x,H1,I1,r1,q1⟩=>ho pins s1 σ H1 x v Q I1 r1 q1)
theorem opI {f:Value→Value→Sem Value} {C:Int→Int→Prop} {g:Int→Int→Int}
  (rule:∀(i j:Int) (t u:Tok) (s:Shared) (Q:Value→Shared→Prop) (E:Value→Shared→Prop),C i j→Q (.int (g i j) s.toks) { s with toks:=s.toks+1 }→wpAny (model X.prog X.w) X.A (f (.int i t) (.int j u)) Q E s):
  OpR X f (rI C λi j=>.int (g i j)):=by
 intro pins s σ H x y v u Q I rx ry h;obtain ⟨i,j,rfl,rfl,hc,q⟩:=h;obtain ⟨t,rfl⟩:=rx;obtain ⟨t',rfl⟩:=ry;exact rule i j t t' s _ _ hc ⟨.int (g i j),H,I.tok _,⟨_,rfl⟩,q⟩
theorem opI0 {f:Value→Value→Sem Value} {g:Int→Int→Int}
  (rule:∀(i j:Int) (t u:Tok) (s:Shared) (Q:Value→Shared→Prop) (E:Value→Shared→Prop),Q (.int (g i j) s.toks) { s with toks:=s.toks+1 }→wpAny (model X.prog X.w) X.A (f (.int i t) (.int j u)) Q E s):
  OpR X f (rI0 λi j=>.int (g i j)):=by
 intro pins s σ H x y v u Q I rx ry h;obtain ⟨i,j,rfl,rfl,q⟩:=h;obtain ⟨t,rfl⟩:=rx;obtain ⟨t',rfl⟩:=ry;exact rule i j t t' s _ _ ⟨.int (g i j),H,I.tok _,⟨_,rfl⟩,q⟩
theorem opB0 {f:Value→Value→Sem Value} {g:Int→Int→Bool}
  (rule:∀(i j:Int) (t u:Tok) (s:Shared) (Q:Value→Shared→Prop) (E:Value→Shared→Prop),Q (.bool (g i j)) s→wpAny (model X.prog X.w) X.A (f (.int i t) (.int j u)) Q E s):
  OpR X f (rI0 λi j=>.bl (g i j)):=by
 intro pins s σ H x y v u Q I rx ry h;obtain ⟨i,j,rfl,rfl,q⟩:=h;obtain ⟨t,rfl⟩:=rx;obtain ⟨t',rfl⟩:=ry;exact rule i j t t' s _ _ ⟨.bl (g i j),H,I,rfl,q⟩
def CDiv (i j:Int):Prop:=0 < j∧j < 1073741824
def CPow (i j:Int):Prop:=0≤j∧j≤1000000∧i.natAbs < 2 ^ 64
def CMul (i j:Int):Prop:=(-(2 ^ 64) < i∧i < 2 ^ 64)∨(-(2 ^ 64) < j∧j < 2 ^ 64)
theorem CMul.ok {i j:Int} (h:CMul i j):IntMulOk i j:=by
 rcases h with ⟨h1,h2⟩ | ⟨h1,h2⟩
 ·exact .of_left (intBits_le_64 h1 h2)
 ·exact .of_right (intBits_le_64 h1 h2)
theorem op_add:OpR X (binaryOp .Add) (rI0 λi j=>.int (i+j)):=opI0 λ_ _ _ _ _ _ _ q=>add_int q
theorem vm:OpR X (binaryOp .Sub) (rI0 λi j=>.int (i - j)):=opI0 λ_ _ _ _ _ _ _ q=>sub_int q
theorem lu:OpR X (binaryOp .Mult) (rI CMul λi j=>.int (i*j)):=opI λ_ _ _ _ _ _ _ hc q=>mul_int q hc.ok
theorem C3:OpR X (binaryOp .FloorDiv) (rI CDiv λi j=>.int (i / j)):=opI λi j _ _ _ _ _ hc q=>by
 have h1:(0:Int) < j:=hc.1;have h2:j < 1073741824:=hc.2;exact floordiv_int (by omega) (by rw[Int.fdiv_eq_ediv_of_nonneg i (by omega)];exact q) (.inl (PyProof.noPylong_small (by omega)))
theorem op_mod:OpR X (binaryOp .Mod) (rI (λ_ j=>0 < j) λi j=>.int (i % j)):=opI λi j _ _ _ _ _ hc q=>by
 have h1:(0:Int) < j:=hc;exact mod_int' (by omega) (by rw[Int.fmod_eq_emod_of_nonneg i (by omega)];exact q)
theorem Ay:OpR X (binaryOp .Pow) (rI CPow λi j=>.int (i ^ j.toNat)):=opI λ_ _ _ _ _ _ _ hc q=>pow_int_small hc.1 hc.2.1 hc.2.2 q
theorem unI {f:Value→Sem Value} {g:Int→Int}
  (rule:∀(i:Int) (t:Tok) (s:Shared) (Q:Value→Shared→Prop) (E:Value→Shared→Prop),Q (.int (g i) s.toks) { s with toks:=s.toks+1 }→wpAny (model X.prog X.w) X.A (f (.int i t)) Q E s):
  UnR X f (rU λi=>.int (g i)):=by
 intro pins s σ H x v Q I rx h;obtain ⟨i,rfl,q⟩:=h;obtain ⟨t,rfl⟩:=rx;exact rule i t s _ _ ⟨.int (g i),H,I.tok _,⟨_,rfl⟩,q⟩
theorem Bo:UnR X (unaryOp .USub) (rU λi=>.int (-i)):=unI λ_ _ _ _ _ q=>neg_int q
end
noncomputable def scal:V→V→Bool
 | .non,.non=>true | .non,.int _=>true | .int _,.non=>true | .non,.bl _=>true | .bl _,.non=>true | .non,.str _=>true | .str _,.non=>true
 | .int _,.int _=>true | .bl _,.bl _=>true | .str _,.str _=>true | .byt _,.byt _=>true
 | .int _,.str _=>true | .str _,.int _=>true | .bl _,.str _=>true | .str _,.bl _=>true
 | _,_=>false
def rEq:R2:=λx y H Q=>scal x y=true∧Q (.bl (decide (x=y))) H
def rNe:R2:=λx y H Q=>scal x y=true∧Q (.bl (!decide (x=y))) H
theorem xb {i j:Int}:decide (V.int i=V.int j)=(i==j):=by
 rw[abv];simp
theorem zv {i j:Bool}:decide (V.bl i=V.bl j)=(i==j):=by
 rw[abv];simp
theorem wm {i j:Str}:decide (V.str i=V.str j)=(i==j):=by
 rw[abv];simp
theorem xg {i j:Array UInt8}:decide (V.byt i=V.byt j)=(i.toList==j.toList):=by
 rw[abv];cases i
 cases j
 simp
section
variable {X:Cx} {a b c:Expr} {ta tb tc:TE} {pos:Pos}
theorem ai {pins:List (Addr×Obj)} {σ:St} {H:Hp} {s:Shared} {Q:VK} {k k':Bool} (I:Inv X pins σ H s) (q:Q (.bl k) H) (e:k=k'):EP X pins σ Q (.bool k') s:=by
 subst e;exact ⟨.bl k,H,I,rfl,q⟩
theorem op_eq:OpR X (compareOp .Eq) rEq:=by
 intro pins s σ H x y v u Q I rx ry h;obtain ⟨hs,q⟩:=h;cases x with
 | non=>
  cases rx
  cases y with
  | non=>cases ry;exact PySem.EqNone.eq_none_none (ai I q (by simp))
  | bl j=>cases ry;exact PySem.EqNone.eq_none_bool (ai I q (by simp))
  | int j=>obtain ⟨t',rfl⟩:=ry;exact PySem.EqNone.eq_none_int (ai I q (by simp))
  | str j=>obtain ⟨t',rfl⟩:=ry;exact PySem.EqNone.eq_none_str (ai I q (by simp))
  | _=>exact absurd (show false=true from hs) aaa
 | bl i=>
  cases rx
  cases y with
  | non=>cases ry;exact PySem.EqNone.eq_bool_none (ai I q (by simp))
  | bl j=>cases ry;exact eq_bool (ai I q zv)
  | str j=>obtain ⟨t',rfl⟩:=ry;exact PySem.EqMixed.eq_bool_str (ai I q (by simp))
  | _=>exact absurd (show false=true from hs) aaa
 | int i=>
  obtain ⟨t,rfl⟩:=rx;cases y with
  | non=>cases ry;exact PySem.EqNone.eq_int_none (ai I q (by simp))
  | int j=>obtain ⟨t',rfl⟩:=ry;exact eq_int (ai I q xb)
  | str j=>obtain ⟨t',rfl⟩:=ry;exact PySem.EqMixed.eq_int_str (ai I q (by simp))
  | _=>exact absurd (show false=true from hs) aaa
 | str i=>
  obtain ⟨t,rfl⟩:=rx;cases y with
  | non=>cases ry;exact PySem.EqNone.eq_str_none (ai I q (by simp))
  | bl j=>cases ry;exact PySem.EqMixed.eq_str_bool (ai I q (by simp))
  | int j=>obtain ⟨t',rfl⟩:=ry;exact PySem.EqMixed.eq_str_int (ai I q (by simp))
  | str j=>obtain ⟨t',rfl⟩:=ry;exact eq_str (ai I q wm)
  | _=>exact absurd (show false=true from hs) aaa
 | byt i=>
  obtain ⟨t,rfl⟩:=rx;cases y with
  | byt j=>obtain ⟨t',rfl⟩:=ry;exact PySem.W.eq_bytes (ai I q xg)
  | _=>exact absurd (show false=true from hs) aaa
 | _=>cases y <;> exact absurd (show false=true from hs) aaa
theorem op_ne:OpR X (compareOp .NotEq) rNe:=by
 intro pins s σ H x y v u Q I rx ry h;obtain ⟨hs,q⟩:=h;cases x with
 | non=>
  cases rx
  cases y with
  | non=>cases ry;exact PySem.EqNone.ne_none_none (ai I q (by simp))
  | bl j=>cases ry;exact PySem.EqNone.ne_none_bool (ai I q (by simp))
  | int j=>obtain ⟨t',rfl⟩:=ry;exact PySem.EqNone.ne_none_int (ai I q (by simp))
  | str j=>obtain ⟨t',rfl⟩:=ry;exact PySem.EqNone.ne_none_str (ai I q (by simp))
  | _=>exact absurd (show false=true from hs) aaa
 | bl i=>
  cases rx
  cases y with
  | non=>cases ry;exact PySem.EqNone.ne_bool_none (ai I q (by simp))
  | bl j=>cases ry;exact ne_bool (ai I q (congrArg not zv))
  | str j=>obtain ⟨t',rfl⟩:=ry;exact PySem.EqMixed.ne_bool_str (ai I q (by simp))
  | _=>exact absurd (show false=true from hs) aaa
 | int i=>
  obtain ⟨t,rfl⟩:=rx;cases y with
  | non=>cases ry;exact PySem.EqNone.ne_int_none (ai I q (by simp))
  | int j=>obtain ⟨t',rfl⟩:=ry;exact ne_int (ai I q (congrArg not xb))
  | str j=>obtain ⟨t',rfl⟩:=ry;exact PySem.EqMixed.ne_int_str (ai I q (by simp))
  | _=>exact absurd (show false=true from hs) aaa
 | str i=>
  obtain ⟨t,rfl⟩:=rx;cases y with
  | non=>cases ry;exact PySem.EqNone.ne_str_none (ai I q (by simp))
  | bl j=>cases ry;exact PySem.EqMixed.ne_str_bool (ai I q (by simp))
  | int j=>obtain ⟨t',rfl⟩:=ry;exact PySem.EqMixed.ne_str_int (ai I q (by simp))
  | str j=>obtain ⟨t',rfl⟩:=ry;exact ne_str (ai I q (congrArg not wm))
  | _=>exact absurd (show false=true from hs) aaa
 | byt i=>
  obtain ⟨t,rfl⟩:=rx;cases y with
  | byt j=>obtain ⟨t',rfl⟩:=ry;exact PySem.W.ne_bytes (ai I q (congrArg not xg))
  | _=>exact absurd (show false=true from hs) aaa
 | _=>cases y <;> exact absurd (show false=true from hs) aaa
theorem op_lt:OpR X (compareOp .Lt) (rI0 λi j=>.bl (decide (i < j))):=opB0 λ_ _ _ _ _ _ _ q=>lt_int q
theorem nomark (b:Expr) {op:CmpOp} (h:op≠.In:=by decide) (h2:op≠.NotIn:=by decide):behindInMarks op b=false:=by
 have e1:(op==CmpOp.In)=false:=by cases op <;> first | rfl | exact absurd rfl h
 have e2:(op==CmpOp.NotIn)=false:=by cases op <;> first | rfl | exact absurd rfl h2
 cases b <;> simp[behindInMarks,e1,e2]
theorem xi {op:CmpOp} {r:R2} (ho:OpR X (compareOp op) r) (ha:PE X a ta) (hb:PE X b tb) (hm:behindInMarks op b=false):PE X (.Compare a [op] [b] pos) (tOp r ta tb):=by
 intro pins s σ H Q I h;exact wpAny_Compare1 (binT ha hb I h λv u s2 x y H2 I2 rx ry q=>ho pins s2 σ H2 x y v u Q I2 rx ry q) hm
def tTest (t:TE):TT:=λσ H Q=>t σ H λx H'=>∃k,x=.bl k∧Q k H'
theorem xt {op:CmpOp} {r:R2} (ho:OpR X (compareOp op) r) (ha:PE X a ta) (hb:PE X b tb) (hm:behindInMarks op b=false):PT X (.Compare a [op] [b] pos) (tTest (tOp r ta tb)):=by
 intro pins s σ H Q I h;refine wpAny_isTrue_Compare1 (thn (ha pins s σ H _ I h) λv s1 ⟨x,H1,I1,r1,q1⟩=>thn (hb pins s1 σ H1 _ I1 q1) λu s2 ⟨y,H2,I2,r2,q2⟩=>
  thn (ho pins s2 σ H2 x y v u _ I2 r1 r2 q2) λc s3 ⟨z,H3,I3,r3,k,e,q3⟩=>?_) hm
 subst e;cases r3
 exact wpAny_truthy_bool ⟨H3,I3,q3⟩
theorem q5:(sizeLine:Nat) < 2 ^ 63:=by rw[sizeLine_eq];decide
theorem ij:OpR X (binaryOp .Add) (λx y H Q=>∃i j,x=.str i∧y=.str j∧i.length+j.length≤sizeLine∧Q (.str (i++j)) H):=by
 intro pins s σ H x y v u Q I rx ry h;obtain ⟨i,j,rfl,rfl,hz,q⟩:=h;obtain ⟨t,rfl⟩:=rx;obtain ⟨t',rfl⟩:=ry;exact add_str (λt' tk=>⟨.str (i++j),H,I.tok _,⟨_,rfl⟩,q⟩) hz
theorem vals1 {x:V} {us:List Value} (r:Vals [x] us):∃u,us=[u]∧RelV x u:=by
 cases r with
 | cons r1 r2=>cases r2;exact ⟨_,rfl,r1⟩
theorem vals2 {x y:V} {us:List Value} (r:Vals [x,y] us):∃u w',us=[u,w']∧RelV x u∧RelV y w':=by
 cases r with
 | cons r1 r2=>
  cases r2 with
  | cons r3 r4=>cases r4;exact ⟨_,_,rfl,r1,r3⟩
theorem yx:d0 X (.type "int") (λxs H Q=>(∃i,xs=[.int i]∧Q (.int i) H)∨∃k,xs=[.bl k]∧Q (.int (if k then 1 else 0)) H):=by
 intro pins s σ H xs us Q I r h;rcases h with ⟨i,rfl,q⟩ | ⟨k,rfl,q⟩
 ·obtain ⟨u,rfl,t,rfl⟩:=vals1 r;exact call_int_int ⟨.int i,H,I,⟨_,rfl⟩,q⟩
 ·obtain ⟨u,rfl,r1⟩:=vals1 r;cases r1
  exact call_int_bool ⟨.int (if k then 1 else 0),H,I.tok _,⟨_,rfl⟩,q⟩
end
structure ObjM (h:Heap) (x dx C:Addr) (mA:Str→Option Value):Prop where
 obj:h.get? x=some (PySem.W.instObj C dx)
 ns:h.Ns1 dx mA
 ne:dx≠x
theorem yg {h:Heap} {dx:Addr} {mA:Str→Option Value} (n:h.Ns1 dx mA):∃od,h.get? dx=some od∧∀name,PySem.W.lookIn name od=some (mA name):=by
 obtain ⟨o,es,ep,ho,hd,hk,_,hm⟩:=n;refine ⟨o,ho,λname=>?_⟩;have e:=hm name;unfold nsFind findBy at e;rw[←Array.find?_toList] at e;unfold PySem.W.lookIn;rw[hd];dsimp only;split
 ·rename_i y q
  rw[q] at e;exact congrArg some e
 ·rename_i q
  rw[q] at e;have a:es.toList.any (·.refKey)=false:=by
   rw[adb];intro y hy;obtain ⟨z,t,hkey⟩:=hk y (Array.mem_toList_iff.mp hy);simp[DictEntry.refKey,hkey]
  have a':¬es.toList.any (·.refKey)=true:=by rw[a];exact aaa
  rw[if_neg a'];exact congrArg some e
theorem ObjM.look {h:Heap} {x dx C:Addr} {mA:Str→Option Value} (I:ObjM h x dx C mA):∃od,PySem.W.InstAt h x (PySem.W.instObj C dx) C (some od)∧∀name,PySem.W.lookIn name od=some (mA name):=
 let ⟨od,ho,hl⟩:=yg I.ns
 ⟨od,⟨I.obj,rfl,rfl,ho⟩,hl⟩
theorem d9.some_of {v:V} {o:Option Value} (r:d9 (some v) o):∃u,o=some u∧RelV v u:=by
 cases o with
 | none=>exact (show False from r).elim
 | some u=>exact ⟨u,rfl,r⟩
theorem zj {v:V} {u:Value} (r:RelV v u):PySem.W.handedIn u=true:=by
 cases v with
 | non=>cases (show u=Value.none from r);rfl
 | bl b=>cases (show u=Value.bool b from r);rfl
 | int i=>obtain ⟨t,e⟩:=(show ∃t,u=Value.int i t from r);cases e;rfl
 | str x=>obtain ⟨t,e⟩:=(show ∃t,u=Value.str x t from r);cases e;rfl
 | byt b=>obtain ⟨t,e⟩:=(show ∃t,u=Value.bytes b t from r);cases e;rfl
 | flt b=>obtain ⟨t,e⟩:=(show ∃t,u=Value.float b t from r);cases e;rfl
 | ref a=>cases (show u=Value.ref a from r);rfl
 | ty n=>cases (show u=Value.type n from r);rfl
section
variable {P:Program} {w:World} {H H':Hp} {h h':Heap} {a C dx:Addr} {fs fs':List (Str×V)}
theorem Df (hok:HOk P w H h) (e:H a=some (.ins C dx fs)):∃mA,ObjM h a dx C mA∧(∀f,d9 (fs.lookup f) (mA f))∧PySem.Within mA (fs.map (·.1))∧fs.length≤1000∧H dx=some (.own a):=by
 obtain ⟨d,z,ne,ob,mA,n,r,q⟩:=(show ay P w H h a (.ins C dx fs) from hok a _ e);exact ⟨mA,⟨ob,n,ne⟩,r,q,z,d⟩
end
structure Cls (K:PySem.W.Frag) (C:Addr):Prop where
 pg:PySem.W.plainGet K C Str.empty=true
 hd:PySem.W.hasDictIn K C=true
 po:PySem.W.plainOver K C=true
 sa:PySem.W.findIn K (.ref C) "__setattr__"=some (some (.builtin "object.__setattr__"))
theorem Cls.get {K:PySem.W.Frag} {C:Addr} (c:Cls K C) (f:Str):PySem.W.plainGet K C f=true:=c.pg
section
variable {X:Cx} {pins:List (Addr×Obj)} {σ:St} {H:Hp} {s:Shared} {a C dx:Addr} {fs:List (Str×V)} {f:Str} {v:V} {A:Around} {E:Value→Shared→Prop}
theorem Ct {prog:Program} {w:World} {env:Env} {e:Expr} {f:Str} {pos:Pos} {s:Shared} {Q:Value→Shared→Prop} (hb:attributeBase e f env (eval e env)=eval e env)
  (h:wpAny (model prog w) A (eval e env) (λo s₁=>wpAny (model prog w) A (getAttr o f true) Q E s₁) E s):wpAny (model prog w) A (eval (.Attribute e f pos) env) Q E s:=
 Attribute_any_ h (by rw[arm_eval_Attribute,hb])
end
section
variable {X:Cx} {pins:List (Addr×Obj)} {σ:St} {H:Hp} {s:Shared} {A:Around} {E:Value→Shared→Prop} {Q:Value→Shared→Prop} {c:Value} {b:Bool}
inductive jo (K:PySem.W.Frag) (H:Hp):V→Value→Prop where
 | non:jo K H .non (.type "NoneType")
 | bl (x:Bool):jo K H (.bl x) (.type "bool")
 | int (i:Int):jo K H (.int i) (.type "int")
 | str (x:Str):jo K H (.str x) (.type "str")
 | flt (x:UInt64):jo K H (.flt x) (.type "float")
 | lst {a:Addr} {xs:List V} (e:H a=some (.lst xs)):jo K H (.ref a) (.type "list")
 | frz {a:Addr} {o:Obj} {xs:List V} (e:H a=some (.frz o (.lst xs))):jo K H (.ref a) (.type "list")
 | tup {a:Addr} {xs:List V} (e:H a=some (.tup xs)):jo K H (.ref a) (.type "tuple")
 | dK {a:Addr} {kvs:List (Key×V)} (e:H a=some (.dK kvs)):jo K H (.ref a) (.type "dict")
 | dT {a:Addr} {kvs:List (List Key×V)} (e:H a=some (.dT kvs)):jo K H (.ref a) (.type "dict")
 | ins {a C dx:Addr} {fs:List (Str×V)} (e:H a=some (.ins C dx fs)) (cl:Cls K C) (ha:PySem.W.findIn K (.ref C) "__class__"=some (some (.builtin "object.__class__")))
   (hn:PySem.W.specialIn K (.builtin "object.__class__") "__get__"=some (some (.builtin "getset_descriptor.__get__"))) (htk:PySem.W.takesIn K (.builtin "object.__class__")=some true)
   (hm:PySem.W.mroIn K C (.type "object")=some true):jo K H (.ref a) (.ref C)
theorem yz {x:V} {u t:Value} (I:Inv X pins σ H s) (rx:RelV x u) (ty:jo X.K H x t) (e:PySem.W.kitOne X.K t c=some b) (h:∀tk,Q (.bool b) { s with toks:=tk }):
  wpAny (model X.prog X.w) A (call (.builtin "isinstance") [u,c]) Q E s:=by
 cases ty with
 | non=>cases (show u=Value.none from rx);exact PySem.W.kia_one PySem.W.kitx_none I.kIn True.intro e (λz=>nomatch z) h
 | bl y=>cases (show u=Value.bool y from rx);exact PySem.W.kia_one PySem.W.kitx_bool I.kIn True.intro e (λz=>nomatch z) h
 | int i=>obtain ⟨t,q⟩:=(show ∃t,u=Value.int i t from rx);cases q;exact PySem.W.kia_one PySem.W.kitx_int I.kIn True.intro e (λz=>nomatch z) h
 | str y=>obtain ⟨t,q⟩:=(show ∃t,u=Value.str y t from rx);cases q;exact PySem.W.kia_one PySem.W.kitx_str I.kIn True.intro e (λz=>nomatch z) h
 | flt y=>obtain ⟨t,q⟩:=(show ∃t,u=Value.float y t from rx);cases q;exact PySem.W.kia_one PySem.W.kitx_float I.kIn True.intro e (λz=>nomatch z) h
 | @lst a xs ea=>
  cases (show u=Value.ref a from rx)
  obtain ⟨_,_,n,_,h1⟩:=(show ay X.prog X.w H s.heap a (.lst xs) from I.hok a _ ea);exact PySem.W.kia_one PySem.W.kitx_list I.kIn ⟨_,h1,rfl⟩ e (λz=>nomatch z) h
 | @frz a ob xs ea=>
  cases (show u=Value.ref a from rx)
  obtain ⟨_,_,_,n,_,h1⟩:=(show ay X.prog X.w H s.heap a (.frz ob (.lst xs)) from I.hok a _ ea);exact PySem.W.kia_one PySem.W.kitx_list I.kIn ⟨_,h1,rfl⟩ e (λz=>nomatch z) h
 | @tup a xs ea=>
  cases (show u=Value.ref a from rx)
  obtain ⟨_,_,_,p⟩:=(show ay X.prog X.w H s.heap a (.tup xs) from I.hok a _ ea);obtain ⟨o,h1,h2,_⟩:=p;exact PySem.W.kia_one PySem.W.kitx_tuple I.kIn ⟨o,h1,h2⟩ e (λz=>nomatch z) h
 | @dK a kvs ea=>
  cases (show u=Value.ref a from rx)
  obtain ⟨_,_,vs,_,p⟩:=(show ay X.prog X.w H s.heap a (.dK kvs) from I.hok a _ ea);obtain ⟨o,es,ep,h1,h2,_⟩:=p;exact PySem.W.kia_one PySem.W.kitx_dict I.kIn ⟨o,h1,h2.1⟩ e (λz=>nomatch z) h
 | @dT a kvs ea=>
  cases (show u=Value.ref a from rx)
  obtain ⟨_,_,xs,_,o,es,ep,h1,h2,_⟩:=(show ay X.prog X.w H s.heap a (.dT kvs) from I.hok a _ ea);exact PySem.W.kia_one PySem.W.kitx_dict I.kIn ⟨o,h1,h2.1⟩ e (λz=>nomatch z) h
 | @ins a C dx fs ea cl ha hn htk hm=>
  cases (show u=Value.ref a from rx)
  obtain ⟨mA,O,_⟩:=Df I.hok ea;obtain ⟨od,J,_⟩:=O.look;exact PySem.W.kia_one (PySem.W.kitx_own (cl.get _) cl.hd ha hn htk hm) I.kIn J e (λz=>nomatch z) h
end
structure br (k:Nat) (A:Around):Prop where
 hd:A.handled=none
 dp:A.depth+3*k+5 < recursionLimit
 un:A.units+16*k+200 < cLine
theorem br.mono {j k:Nat} {A:Around} (r:br k A) (h:j≤k):br j A:=⟨r.hd,by have:=r.dp;omega,by have:=r.un;omega⟩
theorem br.deeper {k:Nat} {A:Around} (r:br (k+1) A) (env:Env):br k (A.deeper env):=
 ⟨r.hd,by have:=r.dp;show A.depth+1+3*k+5 < _;omega,by have:=r.un;show A.units+3+16*k+200 < _;omega⟩
theorem vx {A:Around} {C:Addr} {us:List Value} {kw:List (Str×Value)}:(A.under (.builtin "type.__call__" ⟨.ref C::us,kw⟩)).depth=A.depth+1:=by
 first | rfl | simp[Around.under,Code.weight,Code.isCreation,Code.isGuard,Code.isCaller,Code.frames,Code.isFrame,guardIds]
theorem vj {A:Around} {C:Addr} {us:List Value} {kw:List (Str×Value)}:(A.under (.builtin "type.__call__" ⟨.ref C::us,kw⟩)).units=A.units+1:=by
 first | rfl | simp[Around.under,Code.cUnits,Code.frames,Code.isFrame]
theorem br.make {k:Nat} {A:Around} (r:br (k+1) A) (C:Addr) (us:List Value) (kw:List (Str×Value)):br k (A.under (.builtin "type.__call__" ⟨.ref C::us,kw⟩)):=
 ⟨r.hd,by have:=r.dp;rw[vx];omega,by have:=r.un;rw[vj];omega⟩
theorem br.depth {k:Nat} {A:Around} (r:br k A):A.depth < recursionLimit:=by have:=r.dp;omega
theorem br.units {k:Nat} {A:Around} (r:br k A):A.units+64 < cLine:=by have:=r.un;omega
def tNil:TA:=λ_ H Q=>Q [] H
def Ce (ta:TE) (tr:TA):TA:=λσ H Q=>ta σ H λx H1=>tr σ H1 λxs H2=>Q (x::xs) H2
section
variable {X:Cx} {e:Expr} {es:List Expr} {te:TE} {t:TA} {pos:Pos}
theorem dw:PA X [] tNil:=λ_ _ _ _ H Q I h=>Calls.spliced_nil ⟨[],H,I,.nil,h⟩
theorem ba (ha:PE X e te) (hr:PA X es t) (hs:starEach (e::es) X.env=(false,eval e X.env)::starEach es X.env:=by rfl):PA X (e::es) (Ce te t):=by
 intro pos pins s σ H Q I h;rw[hs];show wpAny _ _ (spliced ((false,eval e X.env)::backTo pos (starEach es X.env))) _ _ s
 refine Calls.spliced_cons (thn (ha pins s σ H _ I h) λu s1 ⟨x,H1,I1,r1,q1⟩=>?_);exact thn (hr pos pins s1 σ H1 _ I1 q1) λus s2 ⟨xs,H2,I2,r2,q2⟩=>⟨x::xs,H2,I2,.cons r1 r2,q2⟩
def tTup (t:TA):TE:=λσ H Q=>t σ H λxs H1=>xs.length≤sizeLine∧∀p,H1 p=none→Q (.ref p) (upd H1 p (.tup xs))
def tLst (t:TA):TE:=λσ H Q=>t σ H λxs H1=>xs.length≤sizeLine∧∀p,H1 p=none→Q (.ref p) (upd H1 p (.lst xs))
theorem pe_tup {x1} (h:PA X es t):PE X (.Tuple es x1 pos) (tTup t):=by
 intro pins s σ H Q I hq;refine wpAny_Tuple_spliced (thn (h pos pins s σ H _ I hq) λus s1 ⟨xs,H1,I1,r,z,q⟩=>⟨by rw[←r.length];exact z,?_⟩);have hf:H1 s1.heap.objs.size=none:=I1.hok.fresh (aa3 _);refine ⟨.ref s1.heap.objs.size,upd H1 s1.heap.objs.size (.tup xs),I1.laid (t':=s1.toks) (λb u e=>Heap.get?_push_of_some _ e) (aa3 _) ?_,rfl,q _ hf⟩;exact ⟨z,us,r,⟨_,Heap.get?_push_size _ rfl,rfl,_,rfl,rfl⟩⟩
theorem pe_lst (h:PA X es t):PE X (.List es pos) (tLst t):=by
 intro pins s σ H Q I hq;refine wpAny_List_spliced (thn (h pos pins s σ H _ I hq) λus s1 ⟨xs,H1,I1,r,z,q⟩=>⟨by rw[←r.length];exact z,?_⟩);have hf:H1 s1.heap.objs.size=none:=I1.hok.fresh (aa3 _);refine ⟨.ref s1.heap.objs.size,upd H1 s1.heap.objs.size (.lst xs),I1.laid (t':=s1.toks) (λb u e=>Heap.get?_push_of_some _ e) (aa3 _) ?_,rfl,q _ hf⟩;exact ⟨z,us,0,r,Heap.get?_push_size _ rfl⟩
end
abbrev Sp:=List V→Hp→VK→XK→Prop
abbrev CXT:=List Env→Hp→Shared→XK→Value→Shared→Prop
structure u9 (P:Program) (w:World) (K:PySem.W.Frag) (mg:Str→Option Value) (base:Heap) (A:Around) (outer:List Env) (s:Shared) (H:Hp):Prop where
 frames:A.frames=some outer
 mod:Mod K mg base
 bs:∀b o,base.get? b=some o→s.heap.get? b=some o∧H b=none
 bsz:base.objs.size≤s.heap.objs.size
 jk:s.heap.FunFrames base outer
 frf:∀b∈frs outer,H b=none
 hok:HOk P w H s.heap
 bare:AllBare s.gens
def CE (outer:List Env) (P:Program) (w:World) (H:Hp) (s:Shared) (Q:VK) (u:Value) (s':Shared):Prop:=
 ∃v H',s'.os=s.os∧AllBare s'.gens∧Un (frs outer) [] H H' s.heap s'.heap∧HOk P w H' s'.heap∧RelV v u∧Q v H'
def CR (CX:CXT) (outer:List Env) (P:Program) (w:World) (H:Hp) (s:Shared) (Q:VK) (E:XK) (r:Result) (s':Shared):Prop:=
 match r with
 | .ok (.ret u)=>CE outer P w H s Q u s'
 | .ok _=>False
 | .error e=>CX outer H s E e s'
structure cx (P:Program) (w:World) (K:PySem.W.Frag) (mg:Str→Option Value) (base:Heap) (CX:CXT) (k:Nat) (f:Addr) (fd:FuncData) (ps:List Str) (sp:Sp):Prop where
 len:∀vs H Q E,sp vs H Q E→vs.length=ps.length
 run:∀(A:Around) (outer:List Env) (s:Shared) (H:Hp) (args:Args) (us:List Value) (vs:List V) (Q:VK) (E:XK),br k A→u9 P w K mg base A outer s H→BindsTo s fd args (ps.zip us)→Vals vs us→sp vs H Q E→
  codeAny (model P w) A (.call (.ref f) args) (CR CX outer P w H s Q E) s
theorem cx.mono {P:Program} {w:World} {K:PySem.W.Frag} {mg:Str→Option Value} {base:Heap} {CX:CXT} {j k:Nat} {f:Addr} {fd:FuncData} {ps:List Str} {sp:Sp} (F:cx P w K mg base CX j f fd ps sp) (h:j≤k):
  cx P w K mg base CX k f fd ps sp:=⟨F.len,λA outer s H args us vs Q E hr=>F.run A outer s H args us vs Q E (hr.mono h)⟩
theorem u9.make {P:Program} {w:World} {K:PySem.W.Frag} {mg:Str→Option Value} {base:Heap} {A:Around} {outer:List Env} {s:Shared} {H:Hp} (e:u9 P w K mg base A outer s H) (C:Addr) (us:List Value) (kw:List (Str×Value)):
  u9 P w K mg base (A.under (.builtin "type.__call__" ⟨.ref C::us,kw⟩)) outer s H:=⟨by first | exact e.frames | (simpa [Around.under,Code.envs,Code.isFrame,pushEnvs] using e.frames),e.mod,e.bs,e.bsz,e.jk,e.frf,e.hok,e.bare⟩
section
variable {X:Cx} {pins:List (Addr×Obj)} {σ:St} {H:Hp} {s s':Shared}
theorem Inv.di (I:Inv X pins σ H s):u9 X.prog X.w X.K X.mg X.base X.A X.stack s H:=
 ⟨I.ok.frames,I.ok.mod,I.bs,aar I.ok.bsz I.sz,I.stack,I.qm,I.hok,I.bare⟩
theorem Inv.after {Q:VK} {u:Value} (I:Inv X pins σ H s) (h:CE X.stack X.prog X.w H s Q u s'):EP X pins σ Q u s':=by
 obtain ⟨v,H',os,bare,un,hok,r,q⟩:=h;obtain ⟨hh,g,d,t,os'⟩:=s';obtain rfl:os'=s.os:=os;exact ⟨v,H',I.call (h':=hh) (g':=g) (d':=d) (t':=t) (ch:=[]) un hok bare (λb z=>absurd z (by simp)),r,q⟩
end
def m6 (sp:Sp) (dvs:List V) (E:XK) (t:TA):TE:=λσ H Q=>t σ H λvs H1=>sp (vs++dvs) H1 Q E
def Binds (K:PySem.W.Frag) (fd:FuncData) (ps:List Str) (ds:List Value):Prop:=
 ∀(s:Shared) (us:List Value),K.In s.heap→(us++ds).length=ps.length→BindsTo s fd ⟨us,[]⟩ (ps.zip (us++ds))
theorem Binds.all {K:PySem.W.Frag} {fd:FuncData} {ps:List Str} (h:∀us:List Value,us.length=ps.length→bindArgs fd ⟨us,[]⟩=pure (ps.zip us)):Binds K fd ps []:=λs us _ hl=>by
 rw[ab6] at hl ⊢;exact .of_eq (h us hl)
def Passes (CX:CXT) (X:Cx) (E:XK):Prop:=∀(pins:List (Addr×Obj)) (σ:St) (H:Hp) (s:Shared) (e:Value) (s':Shared),Inv X pins σ H s→CX X.stack H s E e s'→X.xe e s'
section
variable {X:Cx} {CX:CXT} {k:Nat} {f C:Addr} {fd:FuncData} {ps:List Str} {sp:Sp} {dvs:List V} {ds:List Value} {E:XK} {x m:Str} {p pos apos:Pos} {e o:Expr} {es:List Expr} {ta:TE} {t:TA}
theorem Av {pins:List (Addr×Obj)} {σ:St} {H:Hp} {s:Shared} {Q:VK} {us:List Value} {vs:List V} (F:cx X.prog X.w X.K X.mg X.base CX k f fd ps sp) (hr:br k X.A) (hb:Binds X.K fd ps ds) (hd:Vals dvs ds) (hx:Passes CX X E)
  (I:Inv X pins σ H s) (r:Vals vs us) (h:sp (vs++dvs) H Q E):wpAny (model X.prog X.w) X.A (call (.ref f) us) (EP X pins σ Q) X.xe s:=by
 have r2:Vals (vs++dvs) (us++ds):=r.append hd;have hl:(us++ds).length=ps.length:=by rw[←r2.length];exact F.len _ _ _ _ h
 refine wpAny_call (codeAny_mono (F.run X.A X.stack s H ⟨us,[]⟩ (us++ds) (vs++dvs) Q E hr I.di (hb s us I.kIn hl) r2 h) λr s' hq=>?_);cases r with
 | error e=>exact hx pins σ H s e s' I hq
 | ok fl=>
  cases fl with
  | ret u=>exact I.after hq
  | next=>exact False.elim hq
  | brk=>exact False.elim hq
  | cont=>exact False.elim hq
theorem rh (F:cx X.prog X.w X.K X.mg X.base CX k f fd ps sp) (hr:br k X.A) (hg:Gl X x) (hm:X.mg x=some (.ref f)) (hk:PySem.W.keepIn X.K (.ref f)=true) (hb:Binds X.K fd ps ds) (hd:Vals dvs ds) (hx:Passes CX X E)
  (ha:PA X (e::es) t) (hdb:(x==("__debug__":Str))=false:=by decide) (he:starEach (e::es) X.env=(false,eval e X.env)::starEach es X.env:=by rfl) (hpl:(backTo pos (starEach es X.env)).any (·.1)=false:=by rfl):
  PE X (.Call (.Name x p) (e::es) [] pos) (m6 sp dvs E t):=by
 intro pins s σ H Q I h;refine wpAny_Call_Name_kw (cu I hg hm ?_ hdb);refine PySem.W.callWith_K (h₀:=X.base) I.ok.mod.kin hk (thn (ha pos pins s σ H _ I h) λus s1 ⟨vs,H1,I1,r,q⟩=>⟨I1.kIn,?_⟩) he hpl;exact Av F hr hb hd hx I1 r q
theorem zz (F:cx X.prog X.w X.K X.mg X.base CX k f fd ps sp) (hr:br k X.A) (hg:Gl X x) (hm:X.mg x=some (.ref f)) (hk:PySem.W.keepIn X.K (.ref f)=true) (hb:Binds X.K fd ps ds) (hd:Vals dvs ds) (hx:Passes CX X E)
  (hdb:(x==("__debug__":Str))=false:=by decide):PE X (.Call (.Name x p) [] [] pos) (m6 sp dvs E tNil):=by
 intro pins s σ H Q I h;refine wpAny_Call_Name_kw (cu I hg hm ?_ hdb);exact PySem.W.callWith_K0 I.kIn hk (Av (us:=[]) F hr hb hd hx I .nil h)
end
structure ao (N P:List Str) (sc:Scope):Prop where
 kind:sc.kind=.function
 co:sc.isCoroutine=false
 gen:sc.isGenerator=false
 nd:N.Nodup
 pre:N.take P.length=P
 par:∀x∈P,sc.names.lookup x=some .local∨sc.names.lookup x=some .cell
 nofree:∀y∈sc.names,y.2≠.free
theorem n8 {kindOf:Str→Option NameKind} {x:Str}:∀{binds:List (Str×Value)} {m:Str→Option Value},(∀v,(x,v)∉binds)→bindL kindOf binds m x=m x
 | [],_,_=>rfl
 | (n,v)::r,m,h=>by
  unfold bindL;rw[n8 λw hw=>h w (aad _ hw)];split
  ·have:x≠n:=by rintro rfl;exact h v aa7
   simp[this]
  ·rfl
theorem nz {kindOf:Str→Option NameKind} {x:Str}:∀{binds:List (Str×Value)} {m:Str→Option Value},(∀v,(x,v)∉binds)→bindC kindOf binds m x=m x
 | [],_,_=>rfl
 | (n,v)::r,m,h=>by
  unfold bindC;rw[nz λw hw=>h w (aad _ hw)];split
  ·rfl
  ·have:x≠n:=by rintro rfl;exact h v aa7
   simp[this]
theorem o4 {kindOf:Str→Option NameKind} {x:Str} {v:Value}:∀{P:List Str} {vs:List Value} {i:Nat} {m:Str→Option Value},P.Nodup→P[i]?=some x→vs[i]?=some v→kindOf x=some .local→
  bindL kindOf (P.zip vs) m x=some v
 | [],_,_,_,_,h,_,_=>by simp at h
 | _::_,[],_,_,_,_,h,_=>by simp at h
 | p::P,w::vs,0,m,nd,h1,h2,hk=>by
  simp at h1 h2;subst h1;subst h2;show bindL kindOf ((p,w)::P.zip vs) m p=_
  unfold bindL;rw[n8 λv hv=>(List.nodup_cons.mp nd).1 (acw hv).1,if_pos hk];simp
 | p::P,w::vs,i+1,m,nd,h1,h2,hk=>by
  show bindL kindOf ((p,w)::P.zip vs) m x=_
  unfold bindL;exact o4 (i:=i) (List.nodup_cons.mp nd).2 (by simpa using h1) (by simpa using h2) hk
theorem oo {kindOf:Str→Option NameKind} {x:Str} {v:Value}:∀{P:List Str} {vs:List Value} {i:Nat} {m:Str→Option Value},P.Nodup→P[i]?=some x→vs[i]?=some v→kindOf x≠some .local→
  bindC kindOf (P.zip vs) m x=some v
 | [],_,_,_,_,h,_,_=>by simp at h
 | _::_,[],_,_,_,_,h,_=>by simp at h
 | p::P,w::vs,0,m,nd,h1,h2,hk=>by
  simp at h1 h2;subst h1;subst h2;show bindC kindOf ((p,w)::P.zip vs) m p=_
  unfold bindC;rw[nz λv hv=>(List.nodup_cons.mp nd).1 (acw hv).1,if_neg hk];simp
 | p::P,w::vs,i+1,m,nd,h1,h2,hk=>by
  show bindC kindOf ((p,w)::P.zip vs) m x=_
  unfold bindC;exact oo (i:=i) (List.nodup_cons.mp nd).2 (by simpa using h1) (by simpa using h2) hk
noncomputable def start (N:List Str) (vs:List V):St:=vs.map some++ab8 (N.length - vs.length) none
noncomputable def ik (CX:CXT) (P:Program) (w:World) (K:PySem.W.Frag) (mg:Str→Option Value) (base:Heap) (N:List Str) (qual:Str) (scope:Scope) (f:Addr) (cd:Value) (A:Around) (outer:List Env) (s:Shared) (H:Hp) (E:XK):Cx where
 prog:=P
 w:=w
 K:=K
 mg:=mg
 base:=base
 A:=A.deeper (envOfC qual scope s.heap.objs.size f cd)
 N:=N
 s₀:=s
 H₀:=H
 env:=envOfC qual scope s.heap.objs.size f cd
 outer:=outer
 stack:=envOfC qual scope s.heap.objs.size f cd::outer
 ex:=[]
 calm:=true
 fn:=λ_=>true
 pn:=[]
 xe:=λe s'=>wpAny (model P w) (A.deeper (envOfC qual scope s.heap.objs.size f cd)) (leaving (envOfC qual scope s.heap.objs.size f cd) e) (λ_ s''=>CX outer H s E e s'') (λe' s''=>CX outer H s E e' s'') s'
theorem r8 {sc:Scope} {n:Nat} {x:Str} (h:sc.names.lookup x=some .cell):∃c,(cellsFrom n sc.names []).lookup x=some c:=by
 have q:=PySem.W.cellsFrom_some sc.names n [] (.inl h);exact Option.isSome_iff_exists.mp q
theorem yb {CX:CXT} {P:Program} {w:World} {K:PySem.W.Frag} {mg:Str→Option Value} {base:Heap} {N ps:List Str} {qual:Str} {scope:Scope} {f:Addr} {cd:Value} {A:Around} {outer:List Env} {s s1:Shared} {H:Hp} {E:XK} {us:List Value} {vs:List V}
  (S:ao N ps scope) (hd:A.handled=none) (e0:u9 P w K mg base A outer s H) (hl:vs.length=ps.length) (r:Vals vs us)
  (x:InCallC s s.heap.objs.size (bindL (envOfC qual scope s.heap.objs.size f cd).kindOf (ps.zip us) λ_=>none) (cellsFrom (s.heap.objs.size+1) scope.names []) (bindC (envOfC qual scope s.heap.objs.size f cd).kindOf (ps.zip us) λ_=>none) s1):
  Inv (ik CX P w K mg base N qual scope f cd A outer s H E) [] (start N vs) H s1:=by
 have hpl:ps.length≤N.length:=by have:=congrArg List.length S.pre;rw[aaf] at this;omega
 obtain ⟨h1,tk,rfl,hk⟩:=x.done;have noA:∀b:Addr,b∉(ik CX P w K mg base N qual scope f cd A outer s H E).ex:=λb z=>absurd (show b∈([]:List Addr) from z) (by simp);refine ⟨⟨e0.mod,S.kind,rfl,rfl,aa3 _,λy z c h1 h2=>?_,λy hy=>?_,λy c _ h=>?_,λ_=>hd,Around.frames_deeper e0.frames,.inr ⟨rfl,rfl⟩,λb z=>absurd z (noA b),e0.bs,e0.bsz,λb _ _=>noA b,λb z=>absurd z (noA b),e0.jk,e0.frf⟩,
  rfl,e0.bare,Un.kept hk,⟨_,x.toInCall.ns,λi y v h1 h2 h3=>?_⟩,λy c h=>⟨_,x.cell y c h⟩,e0.hok.fresh (aa3 _),λy c h=>?_,λp hp=>absurd (show p∈([]:List (Addr×Obj)) from hp) (by simp),e0.hok.kept hk,?_⟩
 ·exact name_of_addr x.apart (PySem.mem_of_lookup h1) (PySem.mem_of_lookup h2)
 ·have hy:scope.names.lookup y=some .cell∨scope.names.lookup y=some .free:=hy;rcases hy with hy | hy
  ·exact r8 hy
  ·exact absurd rfl (S.nofree _ (PySem.mem_of_lookup hy))
 ·exact abb (x.above y c (PySem.mem_of_lookup h))
 ·have hi:i < vs.length:=by
   unfold start at h2;by_cases hi:i < vs.length
   ·exact hi
   ·rw[aaj (by simpa using hi)] at h2;rw[acs] at h2;split at h2 <;> cases h2
  have ha:vs[i]?=some v:=by
   unfold start at h2;rw[aal (by simpa using hi),aag] at h2;cases e:vs[i]? with
   | none=>rw[e] at h2;cases h2
   | some a=>rw[e] at h2;cases h2;rfl
  obtain ⟨u,hu,rv⟩:=r.get ha;have hp:ps[i]?=some y:=by
   rw[←S.pre,ab4 (by omega)];exact h1
  have ndP:ps.Nodup:=by rw[←S.pre];exact S.nd.sublist (List.take_sublist _ _)
  refine ⟨u,rv,?_⟩;rcases S.par y (abf hp) with k | k
  ·exact .inl ⟨k,o4 ndP hp hu k⟩
  ·obtain ⟨c,e⟩:=r8 (n:=s.heap.objs.size+1) k;refine .inr ⟨.inl k,c,e,?_⟩;have q:=x.cell y c e;rw[oo ndP hp hu (by show scope.names.lookup y≠_;rw[k];decide)] at q;exact q
 ·exact e0.hok.fresh (abb (x.above y c (PySem.mem_of_lookup h)))
 ·unfold start;show _=N.length
  rw[aa8,aa2,abl];omega
theorem fn_of {CX:CXT} {P:Program} {w:World} {K:PySem.W.Frag} {mg:Str→Option Value} {base:Heap} {k:Nat} {f:Addr} {name qual:Str} {params:Arguments} {body:List Stmt} {scope:Scope} {dV kV doc pm cdv ct oc:Value} {an od:Option Addr}
  {osl:Array (Option Value)} {N ps:List Str} {sp:Sp} (lk:K.lookup f=some ⟨oc,od,.func (PySem.W.fnOf name qual params body scope dV kV doc pm an cdv ct),osl⟩) (hcd:PySem.W.codeIn K cdv qual=true) (S:ao N ps scope)
  (len:∀vs H Q E,sp vs H Q E→vs.length=ps.length)
  (hbody:∀(A:Around) (outer:List Env) (s:Shared) (H:Hp) (vs:List V) (Q:VK) (E:XK),br k (A.deeper (envOfC qual scope s.heap.objs.size f cdv))→sp vs H Q E→
   ∃t,PSs (ik CX P w K mg base N qual scope f cdv A outer s H E) body t∧t { nx:=λ_ H'=>Q .non H',rt:=Q } (start N vs) H):
  cx P w K mg base CX (k+1) f (PySem.W.fnOf name qual params body scope dV kV doc pm an cdv ct) ps sp:=by
 refine ⟨len,λA outer s H args us vs Q E hr e0 hb r hsp=>?_⟩;have hl:=len _ _ _ _ hsp;have KX:K.In s.heap:=e0.mod.kin.keeps λb o e=>(e0.bs b o e).1;have lim:s.heap.NoLimit:=e0.mod.nolimit.keeps λb o e=>(e0.bs b o e).1;have hkind:∀y∈ps.zip us,scope.names.lookup y.1=some .local∨(scope.names.lookup y.1=some .cell∧((cellsFrom (s.heap.objs.size+1) scope.names []).lookup y.1).isSome=true):=λ⟨n,v⟩ hy=>by
  rcases S.par n (acw hy).1 with q | q
  ·exact .inl q
  ·exact .inr ⟨q,PySem.W.cellsFrom_some _ _ _ (.inl q)⟩
 refine codeAny_call_function hr.depth (KX _ _ lk) rfl S.co S.gen rfl (PySem.W.codeRec_of KX hcd) (hb _ _ _ _ ?_);refine wpAny_newFunctionEnv_cells S.kind hkind λenv he s1 x=>?_;subst he;refine ⟨lim.keeps x.toInCall.keep,codeAny_func ?_⟩;obtain ⟨t,ht,hq⟩:=hbody A outer s H vs Q E (hr.deeper _) hsp;have I:Inv (ik CX P w K mg base N qual scope f cdv A outer s H E) [] (start N vs) H s1:=yb S hr.hd e0 hl r x;refine wpAny_mono (ht [] s1 (start N vs) H _ I hq) (λfl s' hs=>?_) λe s' hs=>hs;have fin:∀{σ':St} {H':Hp} {v:V} {u:Value},Inv (ik CX P w K mg base N qual scope f cdv A outer s H E) [] σ' H' s'→RelV v u→Q v H'→CE outer P w H s Q u s':=
  λ{σ' H' v u} J rv q=>⟨v,H',J.os,J.bare,J.base,J.hok,rv,q⟩
 cases fl with
 | ret u=>
  obtain ⟨v,σ',H',J,rv,q⟩:=hs;exact fin J rv q
 | next=>
  obtain ⟨σ',H',J,q⟩:=hs;exact fin (v:=V.non) (u:=Value.none) J rfl q
 | brk=>
  obtain ⟨_,_,_,q⟩:=hs;exact False.elim q
 | cont=>
  obtain ⟨_,_,_,q⟩:=hs;exact False.elim q
section
variable {X:Cx} {x:Str} {p pos:Pos} {e:Expr} {es:List Expr} {t:TA} {id T:String} {r:List V→Hp→VK→Prop}
def tCB (r:List V→Hp→VK→Prop) (t:TA):TE:=λσ H Q=>t σ H λvs H1=>r vs H1 Q
theorem Am (hc:d0 X (.builtin id) r) (hg:Gl X x) (hm:X.mg x=none) (hv:bootBuiltins x=some (.builtin id)) (ha:PA X (e::es) t) (hn:x≠"__name__":=by decide) (hdb:(x==("__debug__":Str))=false:=by decide)
  (he:starEach (e::es) X.env=(false,eval e X.env)::starEach es X.env:=by rfl) (hpl:(backTo pos (starEach es X.env)).any (·.1)=false:=by rfl):PE X (.Call (.Name x p) (e::es) [] pos) (tCB r t):=by
 intro pins s σ H Q I h;refine wpAny_Call_Name_kw (jv I hg hm hv ?_ hn hdb);exact PyProof.Rows.callWith_builtin1 (thn (ha pos pins s σ H _ I h) λus s1 ⟨vs,H1,I1,r1,q1⟩=>hc pins s1 σ H1 vs us Q I1 r1 q1) he hpl
theorem o9 (hc:d0 X (.type T) r) (hg:Gl X x) (hm:X.mg x=none) (hv:bootBuiltins x=some (.type T)) (ha:PA X (e::es) t) (hn:x≠"__name__":=by decide) (hdb:(x==("__debug__":Str))=false:=by decide)
  (he:starEach (e::es) X.env=(false,eval e X.env)::starEach es X.env:=by rfl) (hpl:(backTo pos (starEach es X.env)).any (·.1)=false:=by rfl):PE X (.Call (.Name x p) (e::es) [] pos) (tCB r t):=by
 intro pins s σ H Q I h;refine wpAny_Call_Name_kw (jv I hg hm hv ?_ hn hdb);exact PyProof.Rows.callWith_type1 (thn (ha pos pins s σ H _ I h) λus s1 ⟨vs,H1,I1,r1,q1⟩=>hc pins s1 σ H1 vs us Q I1 r1 q1) he hpl
end
end L2
namespace HT
open PySem PyProof.Rows
section
open PySem.SeqAt
open PySem.AutoSeq1 (wpAny_loadPart')
open PySem.MeetsSeq PySem.MeetsSeq2 PySem.MeetsSeq3
end
section
variable {prog:Program} {w:World} {A:Around} {E:Value→Shared→Prop} {s:Shared}
noncomputable def sIx (n d:Nat):Option Int→Nat
 | none=>d
 | some v=>if v < 0 then (v+(n:Int)).toNat else min v.toNat n
theorem uj (n d:Nat):sIx n d none=d:=rfl
theorem wj (n d k:Nat):sIx n d (some (k:Int))=min k n:=by
 show (if (k:Int) < 0 then ((k:Int)+(n:Int)).toNat else min (k:Int).toNat n)=min k n
 rw[if_neg (by omega),Int.toNat_natCast]
theorem vf (n d:Nat) (hd:d≤n) (o:Option Int):sIx n d o≤n:=by
 cases o with
 | none=>exact hd
 | some v=>
  show (if v < 0 then (v+(n:Int)).toNat else min v.toNat n)≤n
  by_cases hv:v < 0
  ·rw[if_pos hv];omega
  ·rw[if_neg hv];exact Nat.min_le_right _ _
theorem w8 (v:Int) (n d:Nat):(if v < 0 then max (v+(n:Int)) 0 else min v (n:Int))=((sIx n d (some v):Nat):Int):=by
 show (if v < 0 then max (v+(n:Int)) 0 else min v (n:Int))=(((if v < 0 then (v+(n:Int)).toNat else min v.toNat n):Nat):Int)
 by_cases hv:v < 0
 ·simp only[if_pos hv];omega
 ·simp only[if_neg hv];omega
theorem uz (lo hi:Option Int) (n:Nat):Builtin.Slice.sliceAdjust lo hi 1 (n:Int)=(((sIx n 0 lo:Nat):Int),((sIx n n hi:Nat):Int)):=by
 have h1:¬((1:Int) < 0):=by omega
 unfold Builtin.Slice.sliceAdjust;simp only[h1,if_false];refine Prod.ext ?_ ?_
 ·cases lo with
  | none=>rfl
  | some v=>exact w8 v n 0
 ·cases hi with
  | none=>rfl
  | some v=>exact w8 v n n
theorem ur (i j:Nat):Builtin.Slice.slicePlaces (i:Int) (j:Int) 1=j - i:=by
 unfold Builtin.Slice.slicePlaces;have h1:(1:Int) > 0:=by omega
 simp only[h1,if_true,Int.ediv_one];split <;> omega
theorem md {v:Value} {o:Option Int} {Q:Option Int→Shared→Prop} (p:IsPart v o) (h:Q o s):wpAny (model prog w) A (Builtin.Slice.slicePartIndex v) Q E s:=by
 cases p with
 | none=>exact slicePart_none h
 | int i t=>exact slicePart_int h
theorem d7 {sl:Addr} {vl vu:Value} {lo hi:Option Int} {n:Nat} {Q:Int×Int×Nat→Shared→Prop} (hs:s.heap.IsSliceOf sl vl vu .none) (pl:IsPart vl lo) (pu:IsPart vu hi)
  (h:Q (((sIx n 0 lo:Nat):Int),1,sIx n n hi - sIx n 0 lo) s):wpAny (model prog w) A (Builtin.Slice.sliceApplied (.ref sl) (pure (n:Int))) Q E s:=by
 obtain ⟨os,hos,hcs,hds⟩:=id hs;unfold Builtin.Slice.sliceApplied Builtin.Slice.sliceFields;refine wpAny_bind (wpAny_bind (wpAny_field hos hds (x:=vl) rfl (wpAny_bind (wpAny_field hos hds (x:=vu) rfl (wpAny_bind (wpAny_field hos hds (x:=.none) rfl (wpAny_pure ?_)))))));refine wpAny_bind (slicePart_none ?_);show wpAny _ _ (if ((1:Int)==0)=true then _ else _) _ _ s
 rw[if_neg (by decide)];refine wpAny_bind (md pl (wpAny_bind (md pu (wpAny_bind (wpAny_pure ?_)))));show wpAny _ _ (match Builtin.Slice.sliceAdjust lo hi 1 (n:Int) with | (lo,hi)=>pure (lo,(1:Int),Builtin.Slice.slicePlaces lo hi 1)) _ _ s
 rw[uz lo hi n];show wpAny _ _ (pure (((sIx n 0 lo:Nat):Int),(1:Int),Builtin.Slice.slicePlaces ((sIx n 0 lo:Nat):Int) ((sIx n n hi:Nat):Int) 1)) _ _ s
 rw[ur];exact wpAny_pure h
theorem Bn (xs:Array Value) (i k:Nat):((aaq k).filterMap λ(m:Nat)=>xs[((i:Int)+(m:Int)*1).toNat]?).toArray=((xs.toList.drop i).take k).toArray:=by
 have e:(λ(m:Nat)=>xs[((i:Int)+(m:Int)*1).toNat]?)=λm=>xs[i+m]?:=by
  funext m
  have:((i:Int)+(m:Int)*1).toNat=i+m:=by omega
  rw[this]
 rw[e];have:=pick_run xs i k;rw[List.filterMap_map] at this;have e2:((λx=>xs[x]?) ∘ λx=>i+x)=λm=>xs[i+m]?:=rfl;rw[e2] at this;rw[this]
theorem i7 {t sl:Addr} {items:Array Value} {vl vu:Value} {lo hi:Option Int} {Q:Value→Shared→Prop} (ht:IsTup s.heap t items) (hs:s.heap.IsSliceOf sl vl vu .none) (pl:IsPart vl lo) (pu:IsPart vu hi)
  (hw:¬(sIx items.size 0 lo=0∧sIx items.size items.size hi=items.size))
  (h:Q (.ref s.heap.objs.size) { s with heap:=s.heap.push { cls:=.type "tuple",data:=.seq ((items.toList.drop (sIx items.size 0 lo)).take (sIx items.size items.size hi - sIx items.size 0 lo)).toArray } })
  (hsz:items.size≤sizeLine):wpAny (model prog w) A (getItem (.ref t) (.ref sl)) Q E s:=by
 have htake:sizeOk (.seq ((items.toList.drop (sIx items.size 0 lo)).take (sIx items.size items.size hi - sIx items.size 0 lo)).toArray):=by
  show ((items.toList.drop (sIx items.size 0 lo)).take (sIx items.size items.size hi - sIx items.size 0 lo)).toArray.size≤sizeLine
  rw[aa5,aaf,aax,aae];omega
 have hj:sIx items.size items.size hi≤items.size:=vf _ _ (aa3 _) hi;obtain ⟨os,hos,hcs,hds⟩:=id hs;have hTs:s.TypeIs (.ref sl) "slice":=⟨os,hos,hcs⟩;unfold getItem;try with_reducible refine wpAny_holding ?_
 first | refine wpAny_bind (wpAny_pure ?_) | skip
 refine wpAny_bind (wpAny_sequenceKey ht.typeIs (by decide) ?_);refine wpAny_bind (wpAny_callSpecial?_slot (name:=Str.ofString "__getitem__") ht.typeIs PyProof.Rows.slot_tuple_getitem
  (wpAny_call_entry PyProof.Rows.slot_tuple_getitem ht.typeIs entry_tuple_getitem ?_ (args_tuple_getitem _ _)))
 show wpAny _ _ (Builtin.Tuple.tupleItemsOf (.ref t) >>=_) _ _ s
 refine wpAny_bind (tupleItemsOf_ ht ?_);refine wpAny_bind (wpAny_typeOf hTs ?_);rw[if_pos (by decide)];refine wpAny_bind (d7 hs pl pu ?_);have hno:¬((((sIx items.size 0 lo:Nat):Int)==0&&(1:Int)==1&&(sIx items.size items.size hi - sIx items.size 0 lo)==items.size)=true):=by
  intro q;rw[abj,abj] at q;have q1:((sIx items.size 0 lo:Nat):Int)=0:=eq_of_beq q.1.1;have q2:sIx items.size items.size hi - sIx items.size 0 lo=items.size:=eq_of_beq q.2;exact hw ⟨by omega,by omega⟩
 show wpAny _ _ (if (((sIx items.size 0 lo:Nat):Int)==0&&(1:Int)==1&&(sIx items.size items.size hi - sIx items.size 0 lo)==items.size)=true then _ else _) _ _ s
 rw[if_neg hno,Bn];first
  | exact wpAny_bind (m:=Builtin.Tuple.tupleExact _) (wpAny_newObj_type (wpAny_pure ⟨_,rfl,wpAny_pure h⟩) htake)
  | exact wpAny_bind (m:=Builtin.Tuple.tupleExact _) (wpAny_newObj_type (wpAny_bind (wpAny_pure (wpAny_pure ⟨_,rfl,wpAny_pure h⟩))) htake)
  | exact wpAny_bind (wpAny_bind (m:=Builtin.Tuple.tupleExact _) (wpAny_newObj_type (wpAny_pure (wpAny_pure ⟨_,rfl,wpAny_pure h⟩)) htake))
  | exact wpAny_bind (wpAny_bind (m:=Builtin.Tuple.tupleExact _) (wpAny_newObj_type (wpAny_pure ⟨_,rfl,wpAny_pure h⟩) htake))
end
end HT
namespace L2
open PySem PySem.Spec PyProof.Rows
abbrev TO:=St→Hp→(Option Int→Hp→Prop)→Prop
def PO (X:Cx) (e:Option Expr) (t:TO):Prop:=
 ∀(pins:List (Addr×Obj)) (s:Shared) (σ:St) (H:Hp) (Q:Option Int→Hp→Prop),Inv X pins σ H s→t σ H Q→
  wpAny (model X.prog X.w) X.A (evalPart e X.env) (λu s'=>∃o H',Inv X pins σ H' s'∧IsPart u o∧Q o H') X.xe s
def xv:TO:=λ_ H Q=>Q none H
def tPart (t:TE):TO:=λσ H Q=>t σ H λx H1=>∃i,x=.int i∧Q (some i) H1
section
variable {X:Cx} {e:Expr} {te:TE} {lo hi:Option Expr} {tl th:TO} {pos p2:Pos}
theorem Cq:PO X none xv:=by
 intro pins s σ H Q I h;rw[evalPart_none];exact wpAny_pure ⟨none,H,I,.none,h⟩
theorem C9 (h:PE X e te):PO X (some e) (tPart te):=by
 intro pins s σ H Q I hw;rw[evalPart_some];refine thn (h pins s σ H _ I hw) λu s1 ⟨x,H1,I1,r1,q1⟩=>?_;obtain ⟨i,rfl,q⟩:=q1;obtain ⟨t,rfl⟩:=r1;exact ⟨some i,H1,I1,.int i t,q⟩
def SlR (X:Cx) (r:V→Option Int→Option Int→Hp→VK→Prop):Prop:=
 ∀(pins:List (Addr×Obj)) (s:Shared) (σ:St) (H:Hp) (x:V) (v vl vu:Value) (lo hi:Option Int) (sl:Addr) (Q:VK),Inv X pins σ H s→RelV x v→s.heap.IsSliceOf sl vl vu .none→IsPart vl lo→IsPart vu hi→r x lo hi H Q→
  ∃T id,typeLookup (.type T) "__getitem__"=pure (some (.builtin id))∧s.TypeIs v T∧wpAny (model X.prog X.w) X.A (getItem v (.ref sl)) (EP X pins σ Q) X.xe s
def tSl (r:V→Option Int→Option Int→Hp→VK→Prop) (te:TE) (tl th:TO):TE:=λσ H Q=>te σ H λx H1=>tl σ H1 λl H2=>th σ H2 λu H3=>r x l u H3 Q
theorem Au {r:V→Option Int→Option Int→Hp→VK→Prop} (hr:SlR X r) (he:PE X e te) (hl:PO X lo tl) (hu:PO X hi th):PE X (.Subscript e (.Slice lo hi none p2) pos) (tSl r te tl th):=by
 intro pins s σ H Q I h;refine Subscript_ (thn (he pins s σ H _ I h) λv s1 ⟨x,H1,I1,r1,q1⟩=>?_);refine wpAny_Slice (thn (hl pins s1 σ H1 _ I1 q1) λvl s2 ⟨l,H2,I2,pl,q2⟩=>thn (hu pins s2 σ H2 _ I2 q2) λvu s3 ⟨u,H3,I3,pu,q3⟩=>?_);rw[evalPart_none];refine wpAny_pure ?_;have I4:Inv X pins σ H3 { s3 with heap:=s3.heap.push { cls:=.type "slice",data:=.fields #[vl,vu,.none] } }:=I3.kept (t':=s3.toks) λb ob q=>Heap.get?_push_of_some _ q;obtain ⟨T,id,hT,ht,hg⟩:=hr pins { s3 with heap:=s3.heap.push { cls:=.type "slice",data:=.fields #[vl,vu,.none] } } σ H3 x v vl vu l u s3.heap.objs.size Q I4 r1 (Heap.IsSliceOf.new ..) pl pu q3;show wpAny (model X.prog X.w) X.A (subscriptTail e (.Slice lo hi none p2) v (.ref s3.heap.objs.size)) (EP X pins σ Q) X.xe { s3 with heap:=s3.heap.push { cls:=.type "slice",data:=.fields #[vl,vu,.none] } }
 exact tail_any (ops:=[.ref s3.heap.objs.size,v]) ht hT hg (by with_unfolding_all rfl)
noncomputable def fj (xs:List V) (lo hi:Option Int):List V:=(xs.drop (HT.sIx xs.length 0 lo)).take (HT.sIx xs.length xs.length hi - HT.sIx xs.length 0 lo)
theorem j7 (xs:List V) (lo hi:Option Int):(fj xs lo hi).length≤xs.length:=by
 unfold fj;rw[aaf,aax];omega
def rSlT (K:PySem.W.Frag):V→Option Int→Option Int→Hp→VK→Prop:=λx lo hi H Q=>∃a xs,x=.ref a∧SqT K H a xs∧
 ¬(HT.sIx xs.length 0 lo=0∧HT.sIx xs.length xs.length hi=xs.length)∧∀p,H p=none→Q (.ref p) (upd H p (.tup (fj xs lo hi)))
theorem sl_tup:SlR X (rSlT X.K):=by
 intro pins s σ H x v vl vu lo hi sl Q I rx hs pl pu h;obtain ⟨a,xs,rfl,hx,hw,q⟩:=h;cases rx
 obtain ⟨its,r,ht,hz⟩:=I.tuple hx;have hlen:its.toArray.size=xs.length:=by rw[aa5];exact r.length.symm
 refine ⟨"tuple",_,PyProof.Rows.slot_tuple_getitem.lookup,ht.typeIs,?_⟩;refine HT.i7 ht hs pl pu (by rw[hlen];exact hw) ?_ (by rw[hlen];exact hz);rw[hlen];refine ⟨.ref s.heap.objs.size,_,I.laid (t':=s.toks) (o:=.tup (fj xs lo hi)) (λb ob q=>Heap.get?_push_of_some _ q) (aa3 _) ?_,rfl,q _ (I.hok.fresh (aa3 _))⟩;exact ⟨aar (j7 xs lo hi) hz,_,(r.drop (HT.sIx xs.length 0 lo)).take (HT.sIx xs.length xs.length hi - HT.sIx xs.length 0 lo),⟨_,Heap.get?_push_size _ rfl,rfl,_,rfl,rfl⟩⟩
end
noncomputable def ixN (n:Nat) (i:Int):Option Nat:=if 0≤i then (if i < n then some i.toNat else none) else if -(n:Int)≤i then some (i+n).toNat else none
noncomputable def atI {α:Type} (xs:List α) (i:Int):Option α:=(ixN xs.length i).bind λj=>xs[j]?
theorem Ew {n:Nat} {i:Int} {j:Nat} (h:ixN n i=some j):seqIndex? i n=some j∧j < n∧-(n:Int)≤i∧i < n:=by
 unfold ixN at h;by_cases h0:0≤i
 ·rw[if_pos h0] at h;by_cases h1:i < n
  ·rw[if_pos h1] at h;have e:i.toNat=j:=aa9 h;exact ⟨by rw[seqIndex_of h0 h1,e],by omega,by omega,h1⟩
  ·rw[if_neg h1] at h;cases h
 ·rw[if_neg h0] at h;by_cases h1:-(n:Int)≤i
  ·rw[if_pos h1] at h;have e:(i+n).toNat=j:=aa9 h;exact ⟨by rw[seqIndex_neg (by omega) h1,e],by omega,h1,by omega⟩
  ·rw[if_neg h1] at h;cases h
theorem qx {α:Type} {xs:List α} {i:Int} {v:α} (h:atI xs i=some v):∃j,seqIndex? i xs.length=some j∧xs[j]?=some v∧j < xs.length∧-(xs.length:Int)≤i∧i < xs.length:=by
 unfold atI at h;cases e:ixN xs.length i with
 | none=>rw[e] at h;cases h
 | some j=>
  rw[e] at h;obtain ⟨h1,h2,h3,h4⟩:=Ew e;exact ⟨j,h1,h,h2,h3,h4⟩
theorem cy {α:Type} {xs:List α} {j:Nat} {v:α} (h:xs[j]?=some v):atI xs (j:Int)=some v:=by
 have hj:j < xs.length:=(List.getElem?_eq_some_iff.mp h).1;have e:ixN xs.length (j:Int)=some j:=by
  unfold ixN;rw[if_pos (by omega),if_pos (by omega)];simp
 unfold atI;rw[e];exact h
def Dv (b:Expr):Prop:=∀o i,subscripted b false o i=operate [o,i] (getItem o i)
def IxR (X:Cx) (r:R2):Prop:=
 ∀(value slice:Expr) (pins:List (Addr×Obj)) (s:Shared) (σ:St) (H:Hp) (x y:V) (v u:Value) (Q:VK),Inv X pins σ H s→RelV x v→RelV y u→r x y H Q→
  subscripted slice false v u=operate [v,u] (getItem v u)→wpAny (model X.prog X.w) X.A (subscriptTail value slice v u) (EP X pins σ Q) X.xe s
def MtR (X:Cx) (id:String) (r:V→List V→Hp→VK→Prop):Prop:=
 ∀(pins:List (Addr×Obj)) (s:Shared) (σ:St) (H:Hp) (x:V) (xs:List V) (v:Value) (us:List Value) (Q:VK),Inv X pins σ H s→RelV x v→Vals xs us→r x xs H Q→
  wpAny (model X.prog X.w) X.A (call (.builtin id) (v::us)) (EP X pins σ Q) X.xe s
section
variable {X:Cx} {a b:Expr} {ta tb:TE} {pos:Pos}
theorem pe_ix {r:R2} (hr:IxR X r) (ha:PE X a ta) (hb:PE X b tb) (hs:Dv b):PE X (.Subscript a b pos) (tOp r ta tb):=by
 intro pins s σ H Q I h;exact Subscript_ (binT ha hb I h λv u s2 x y H2 I2 rx ry q=>hr a b pins s2 σ H2 x y v u Q I2 rx ry q (hs _ _))
def rIxL (K:PySem.W.Frag):R2:=λx y H Q=>∃p xs i v,x=.ref p∧y=.int i∧SqL K H p xs∧atI xs i=some v∧Q v H
def rIxT (K:PySem.W.Frag):R2:=λx y H Q=>∃p xs i v,x=.ref p∧y=.int i∧SqT K H p xs∧atI xs i=some v∧Q v H
def rIxS:R2:=λx y H Q=>∃z i c,x=.str z∧y=.int i∧z.length≤sizeLine∧atI z.cps.toList i=some c∧Q (.str ⟨#[c]⟩) H
theorem xh:IxR X (rIxL X.K):=by
 intro value slice pins s σ H x y v u Q I rx ry h hs;obtain ⟨p,xs,i,z,rfl,rfl,hq,he,q⟩:=h;cases rx
 obtain ⟨t,rfl⟩:=ry;obtain ⟨its,r,pl,hz⟩:=I.list hq;obtain ⟨j,h1,h2,h3,h4,h5⟩:=qx he;obtain ⟨w,ew,rw'⟩:=r.get h2;have hl:=r.length;have hn:=q5;have fin:EP X pins σ Q w s:=⟨z,H,I,rw',q⟩;by_cases h0:0≤i
 ·have hj:i.toNat=j:=by
   rw[seqIndex_of h0 h5] at h1;exact aa9 h1
  exact item_listR pl.isList h0 (by omega) (by rw[hj];simpa using ew) fin hs
 ·have hj:(i+(its.toArray.size:Int)).toNat=j:=by
   rw[seqIndex_neg (by omega) h4] at h1;rw[aa5,←hl];exact aa9 h1
  exact subscriptTail_builtinR (x:=w) pl.isList.typeIs slot_list_getitem.lookup
   (wpAny_getItem_list_neg (Q:=λr s'=>r=w∧EP X pins σ Q r s') pl.isList (by omega) (by rw[aa5] <;> omega) (by omega) (by rw[hj];simpa using ew) ⟨rfl,fin⟩) hs
theorem eh:IxR X (rIxT X.K):=by
 intro value slice pins s σ H x y v u Q I rx ry h hs;obtain ⟨p,xs,i,z,rfl,rfl,hq,he,q⟩:=h;cases rx
 obtain ⟨t,rfl⟩:=ry;obtain ⟨its,r,pl,hz⟩:=I.tuple hq;obtain ⟨j,h1,h2,h3,h4,h5⟩:=qx he;obtain ⟨w,ew,rw'⟩:=r.get h2;have hl:=r.length;have hn:=q5;have fin:EP X pins σ Q w s:=⟨z,H,I,rw',q⟩;exact subscriptTail_builtinR (x:=w) pl.typeIs slot_tuple_getitem.lookup
  (getItem_tuple (j:=j) (Q:=λr s'=>r=w∧EP X pins σ Q r s') pl (by omega) (by omega) (by rw[aa5,←hl];exact h1) (by simpa using ew) ⟨rfl,fin⟩) hs
theorem qe:IxR X rIxS:=by
 intro value slice pins s σ H x y v u Q I rx ry h hs;obtain ⟨z,i,c,rfl,rfl,hz,he,q⟩:=h;obtain ⟨t,rfl⟩:=rx;obtain ⟨t',rfl⟩:=ry;obtain ⟨j,h1,h2,h3,h4,h5⟩:=qx he;have hl:z.cps.toList.length=z.length:=by simp[Str.length]
 rw[hl] at h1 h4 h5;have hn:=q5;exact tail_any (typeIs_str s z t) slot_str_getitem.lookup (getItem_str (c:=c) (by
  have e1:decide (i < -(2 ^ 63:Int))=false:=decide_eq_false (by omega);have e2:decide (i≥2 ^ 63)=false:=decide_eq_false (by omega);rw[e1,e2,ad4]) (by rw[h1];simpa using h2) ⟨.str ⟨#[c]⟩,H,I.tok _,⟨_,rfl⟩,q⟩) hs
theorem rg (lo hi:Option Int) (n:Nat):(sliceBounds lo hi none n).1=((HT.sIx n 0 lo:Nat):Int)∧(sliceBounds lo hi none n).2.1=((HT.sIx n n hi:Nat):Int)∧(sliceBounds lo hi none n).2.2=1:=by
 refine ⟨?_,?_,rfl⟩
 ·cases lo with
  | none=>simp[sliceBounds,HT.sIx]
  | some i=>
   simp only[sliceBounds,HT.sIx,acm,show (1:Int) > 0 by decide,if_true];by_cases h:i < 0
   ·simp only[h,if_true] <;> omega
   ·simp only[h,if_false] <;> omega
 ·cases hi with
  | none=>simp[sliceBounds,HT.sIx]
  | some i=>
   simp only[sliceBounds,HT.sIx,acm,show (1:Int) > 0 by decide,if_true];by_cases h:i < 0
   ·simp only[h,if_true] <;> omega
   ·simp only[h,if_false] <;> omega
theorem nh (its:List Value) (lo hi:Option Int):slicePick its.toArray lo hi none=((its.drop (HT.sIx its.length 0 lo)).take (HT.sIx its.length its.length hi - HT.sIx its.length 0 lo)).toArray:=by
 obtain ⟨h1,h2,h3⟩:=rg lo hi its.toArray.size;unfold slicePick;rw[h1,h2,h3];simp only[sliceRange_one,pick_run,aa5] <;> rfl
def rSlL (K:PySem.W.Frag):V→Option Int→Option Int→Hp→VK→Prop:=λx lo hi H Q=>∃a xs,x=.ref a∧SqL K H a xs∧∀p,H p=none→Q (.ref p) (upd H p (.lst (fj xs lo hi)))
theorem ee:SlR X (rSlL X.K):=by
 intro pins s σ H x v vl vu lo hi sl Q I rx hs pl pu h;obtain ⟨a,xs,rfl,hx,q⟩:=h;cases rx
 obtain ⟨its,r,ht,hz⟩:=I.list hx;have hlen:=r.length;refine ⟨"list",_,slot_list_getitem.lookup,ht.isList.typeIs,?_⟩;refine wpAny_getItem_list_slice ht.isList hs pl pu .none (by simp) ?_ (by rw[aa5] <;> omega);rw[nh,←hlen];refine ⟨.ref s.heap.objs.size,_,I.laid (t':=s.toks) (o:=.lst (fj xs lo hi)) (λb ob q=>Heap.get?_push_of_some _ q) (aa3 _) ?_,rfl,q _ (I.hok.fresh (aa3 _))⟩;exact ⟨aar (j7 xs lo hi) hz,_,0,(r.drop (HT.sIx xs.length 0 lo)).take (HT.sIx xs.length xs.length hi - HT.sIx xs.length 0 lo),Heap.get?_push_size _ rfl⟩
noncomputable def cm:V→Bool
 | .non=>true
 | .bl _=>true
 | .int _=>true
 | .str _=>true
 | _=>false
noncomputable def eqV:V→V→Bool
 | .non,.non=>true
 | .bl a,.bl b=>a==b
 | .bl a,.int b=>(if a then 1 else 0)==b
 | .int a,.bl b=>a==(if b then 1 else 0)
 | .int a,.int b=>a==b
 | .str a,.str b=>a==b
 | _,_=>false
theorem vq {A:Around} {s:Shared} {y x:V} {u v:Value} (ry:RelV y u) (rx:RelV x v) (fy:cm y=true) (fx:cm x=true):SeqAt.EqAt A s u v (eqV y x):=by
 cases y with
 | non=>
  cases ry
  cases x with
  | non=>cases rx;exact SeqAt.EqAt.same _
  | bl b=>cases rx;exact SeqAt.EqAt.none_bool b
  | int b=>obtain ⟨t,rfl⟩:=rx;exact SeqAt.EqAt.none_int b t
  | str b=>obtain ⟨t,rfl⟩:=rx;exact SeqAt.EqAt.none_str b t
  | _=>exact absurd (show false=true from fx) aaa
 | bl a=>
  cases ry
  cases x with
  | non=>cases rx;exact SeqAt.EqAt.bool_none a
  | bl b=>cases rx;exact SeqAt.EqAt.bool_bool a b
  | int b=>obtain ⟨t,rfl⟩:=rx;exact SeqAt.EqAt.bool_int a b t
  | str b=>obtain ⟨t,rfl⟩:=rx;exact SeqAt.EqAt.bool_str a b t
  | _=>exact absurd (show false=true from fx) aaa
 | int a=>
  obtain ⟨t',rfl⟩:=ry;cases x with
  | non=>cases rx;exact SeqAt.EqAt.int_none a t'
  | bl b=>cases rx;exact SeqAt.EqAt.int_bool a t' b
  | int b=>obtain ⟨t,rfl⟩:=rx;exact SeqAt.EqAt.int_int a t' b t
  | str b=>obtain ⟨t,rfl⟩:=rx;exact SeqAt.EqAt.int_str a t' b t
  | _=>exact absurd (show false=true from fx) aaa
 | str a=>
  obtain ⟨t',rfl⟩:=ry;cases x with
  | non=>cases rx;exact SeqAt.EqAt.str_none a t'
  | bl b=>cases rx;exact SeqAt.EqAt.str_bool a t' b
  | int b=>obtain ⟨t,rfl⟩:=rx;exact SeqAt.EqAt.str_int a t' b t
  | str b=>obtain ⟨t,rfl⟩:=rx;exact SeqAt.EqAt.str_str a t' b t
  | _=>exact absurd (show false=true from fx) aaa
 | _=>exact absurd (show false=true from fy) aaa
noncomputable def eqU (x:V) (u:Value):Bool:=match u with
 | .none=>eqV .non x
 | .bool b=>eqV (.bl b) x
 | .int i _=>eqV (.int i) x
 | .str z _=>eqV (.str z) x
 | _=>false
theorem Bd {x y:V} {u:Value} (r:RelV y u) (f:cm y=true):eqU x u=eqV y x:=by
 cases y with
 | non=>cases r;rfl
 | bl b=>cases r;rfl
 | int i=>obtain ⟨t,rfl⟩:=r;rfl
 | str z=>obtain ⟨t,rfl⟩:=r;rfl
 | _=>exact absurd (show false=true from f) aaa
theorem i8 {x:V}:∀{xs:List V} {us:List Value},Vals xs us→xs.all cm=true→us.any (eqU x)=xs.any λy=>eqV y x
 | _,_,.nil,_=>rfl
 | y::xs,u::us,.cons r t,f=>by
  rw[aci,abj] at f;rw[abt,abt,Bd r f.1,i8 t f.2]
theorem ff {A:Around} {s:Shared} {x:V} {v:Value} (rx:RelV x v) (fx:cm x=true):∀{xs:List V} {us:List Value},Vals xs us→xs.all cm=true→∀u∈us,SeqAt.EqAt A s u v (eqU x u)
 | _,_,.nil,_=>λu hu=>by cases hu
 | y::xs,u::us,.cons r t,f=>λu' hu=>by
  rw[aci,abj] at f;rcases List.mem_cons.mp hu with rfl | hu
  ·rw[Bd r f.1];exact vq r rx f.1 fx
  ·exact ff rx fx t f.2 u' hu
noncomputable def inV (x:V) (xs:List V):Bool:=xs.any λy=>eqV y x
def rIn (K:PySem.W.Frag) (neg:Bool):R2:=λx y H Q=>∃p xs,y=.ref p∧(SqL K H p xs∨SqT K H p xs)∧cm x=true∧xs.all cm=true∧Q (.bl (if neg then !inV x xs else inV x xs)) H
theorem yq:OpR X (compareOp .In) (rIn X.K false):=by
 intro pins s σ H x y v u Q I rx ry h;obtain ⟨p,xs,rfl,hq,fx,fs,q⟩:=h;cases ry
 rcases hq with hq | hq
 ·obtain ⟨its,r,pl,hz⟩:=I.list hq;refine SeqAt.in_listAt (eqU x) pl.isList (λw hw=>ff rx fx r fs w (by simpa using hw)) ⟨.bl _,H,I,rfl,?_⟩;rw[show its.toArray.any (eqU x)=its.any (eqU x) by simp,i8 r fs];exact q
 ·obtain ⟨its,r,pl,hz⟩:=I.tuple hq;refine SeqAt.in_tupleAt (eqU x) pl (λw hw=>ff rx fx r fs w (by simpa using hw)) ⟨.bl _,H,I,rfl,?_⟩;rw[show its.toArray.any (eqU x)=its.any (eqU x) by simp,i8 r fs];exact q
theorem qa:OpR X (compareOp .NotIn) (rIn X.K true):=by
 intro pins s σ H x y v u Q I rx ry h;obtain ⟨p,xs,rfl,hq,fx,fs,q⟩:=h;cases ry
 rcases hq with hq | hq
 ·obtain ⟨its,r,pl,hz⟩:=I.list hq;refine SeqAt.notIn_listAt (eqU x) pl.isList (λw hw=>ff rx fx r fs w (by simpa using hw)) ⟨.bl _,H,I,rfl,?_⟩;rw[show its.toArray.any (eqU x)=its.any (eqU x) by simp,i8 r fs];exact q
 ·obtain ⟨its,r,pl,hz⟩:=I.tuple hq;refine SeqAt.notIn_tupleAt (eqU x) pl (λw hw=>ff rx fx r fs w (by simpa using hw)) ⟨.bl _,H,I,rfl,?_⟩;rw[show its.toArray.any (eqU x)=its.any (eqU x) by simp,i8 r fs];exact q
theorem r6:d0 X (.builtin "len") (λxs H Q=>∃p ys,xs=[.ref p]∧(SqL X.K H p ys∨SqT X.K H p ys)∧Q (.int ys.length) H):=by
 intro pins s σ H xs us Q I r h;obtain ⟨p,ys,rfl,hq,q⟩:=h;obtain ⟨u,rfl,rx⟩:=vals1 r;cases rx
 have hn:=q5;rcases hq with hq | hq
 ·obtain ⟨its,r',pl,hz⟩:=I.list hq;have hlen:=r'.length;exact Calls.call_len_list pl.isList (by simp only[aa5] <;> omega) ⟨.int ys.length,H,I.tok _,⟨s.toks+1,by rw[aa5,hlen]⟩,q⟩
 ·obtain ⟨its,r',pl,hz⟩:=I.tuple hq;have hlen:=r'.length;exact len_tuple pl (by simp only[aa5] <;> omega) ⟨.int ys.length,H,I.tok _,⟨s.toks+1,by rw[aa5,hlen]⟩,q⟩
theorem i5:d0 X (.type "list") (λxs H Q=>∃p ys,xs=[.ref p]∧(SqL X.K H p ys∨SqT X.K H p ys)∧∀l,H l=none→Q (.ref l) (upd H l (.lst ys))):=by
 intro pins s σ H xs us Q I r h;obtain ⟨p,ys,rfl,hq,q⟩:=h;obtain ⟨u,rfl,rx⟩:=vals1 r;cases rx
 have fin:∀(its:List Value),Vals ys its→ys.length≤sizeLine→∀(h':Heap) (c':Nat),(∀b o',s.heap.get? b=some o'→h'.get? b=some o')→
   h'.get? s.heap.objs.size=some { cls:=.type "list",dict:=none,data:=.seq its.toArray c',slots:=#[] }→EP X pins σ Q (.ref s.heap.objs.size) { s with heap:=h' }:=λits r' hz h' c' kp e=>
  ⟨.ref s.heap.objs.size,_,I.laid (t':=s.toks) kp (aa3 _) (show ay X.prog X.w _ h' _ (.lst ys) from ⟨hz,its,c',r',e⟩),rfl,q _ (I.hok.fresh (aa3 _))⟩
 rcases hq with hq | hq
 ·obtain ⟨its,r',pl,hz⟩:=I.list hq;have hlen:=r'.length;obtain ⟨o,ho,hc,n,hd⟩:=pl.isList;exact call_list_seq p (.inl rfl) ho hc hd (λh' c' kp e=>fin its r' hz h' c' kp e) (by simp only[aa5] <;> omega)
 ·obtain ⟨its,r',pl,hz⟩:=I.tuple hq;have hlen:=r'.length;obtain ⟨o,ho,hc,n,hd⟩:=pl;exact call_list_seq p (.inr rfl) ho hc hd (λh' c' kp e=>fin its r' hz h' c' kp e) (by simp only[aa5] <;> omega)
def tyV (K:PySem.W.Frag) (T:String) (x:V) (H:Hp):Prop:=match x with
 | .str _=>T="str"
 | .int _=>T="int"
 | .ref p=>(T="list"∧∃xs,SqL K H p xs)∨(T="tuple"∧((∃o,K.lookup p=some o∧o.cls=.type "tuple"∧o.dict=none)∨∃xs,H p=some (.tup xs)))∨
   (T="dict"∧((∃kvs,H p=some (.dK kvs))∨∃kvs,H p=some (.dT kvs)))∨(T="set"∧∃S n,H p=some (.set S n))
 | _=>False
theorem tyV_is {pins:List (Addr×Obj)} {σ:St} {H:Hp} {s:Shared} {T:String} {x:V} {v:Value} (I:Inv X pins σ H s) (r:RelV x v) (ty:tyV X.K T x H):
  s.TypeIs v T∧∀a,v=.ref a→∃ob,s.heap.get? a=some ob∧ob.dict=none:=by
 cases x with
 | str z=>
  obtain ⟨t,rfl⟩:=r;cases (show T="str" from ty)
  exact ⟨typeIs_str s z t,λ_ e=>nomatch e⟩
 | int i=>
  obtain ⟨t,rfl⟩:=r;cases (show T="int" from ty)
  exact ⟨typeIs_int s i t,λ_ e=>nomatch e⟩
 | ref p=>
  cases r
  rcases ty with ⟨rfl,xs,hq⟩ | ⟨rfl,⟨o,hk,hc,hd⟩ | ⟨xs,hx⟩⟩ | ⟨rfl,hk⟩ | ⟨rfl,S,n,hk⟩
  ·obtain ⟨its,_,pl,_⟩:=I.list hq;refine ⟨pl.isList.typeIs,λa e=>?_⟩;cases e
   obtain ⟨o,n,e,c,hd,_⟩:=pl;exact ⟨o,e,hd⟩
  ·refine ⟨⟨o,I.kIn p o hk,hc⟩,λa e=>?_⟩;cases e
   exact ⟨o,I.kIn _ o hk,hd⟩
  ·obtain ⟨_,its,_,o,h1,h2,n,_,h3⟩:=I.hok p _ hx;refine ⟨⟨o,h1,h2⟩,λa e=>?_⟩;cases e
   exact ⟨o,h1,h3⟩
  ·have z:∃o,s.heap.get? p=some o∧o.ExactDict:=by
    rcases hk with ⟨kvs,hk⟩ | ⟨kvs,hk⟩
    ·obtain ⟨_,_,_,_,o,_,_,e,ex,_⟩:=I.hok p _ hk;exact ⟨o,e,ex⟩
    ·obtain ⟨_,_,_,_,o,_,_,e,ex,_⟩:=I.hok p _ hk;exact ⟨o,e,ex⟩
   obtain ⟨o,e,ex⟩:=z;refine ⟨⟨o,e,ex.1⟩,λa e2=>?_⟩;cases e2
   exact ⟨o,e,ex.2.1⟩
  ·obtain ⟨o,_,_,_,e,ex,_⟩:=I.hok p _ hk;refine ⟨⟨o,e,ex.1⟩,λa e2=>?_⟩;cases e2
   exact ⟨o,e,ex.2.1⟩
 | _=>exact False.elim ty
def tBM0 (K:PySem.W.Frag) (T:String) (r:V→List V→Hp→VK→Prop) (to:TE):TE:=λσ H Q=>to σ H λx H1=>tyV K T x H1∧r x [] H1 Q
def tBM (K:PySem.W.Frag) (T:String) (r:V→List V→Hp→VK→Prop) (to:TE) (t:TA):TE:=λσ H Q=>to σ H λx H1=>tyV K T x H1∧t σ H1 λxs H2=>r x xs H2 Q
variable {o e:Expr} {es:List Expr} {to:TE} {t:TA} {name:Str} {apos cpos:Pos} {T id:String} {r:V→List V→Hp→VK→Prop}
theorem pe_bm (pa:PlainAttrs T) (slot:Slot T name id) (hty:typeOf (.builtin id)=pure (.type "method_descriptor")) (hm:MtR X id r) (ho:PE X o to) (ha:PA X (e::es) t)
  (hbase:attributeBase o name X.env (eval o X.env)=eval o X.env:=by rfl)
  (hfew:((backTo cpos (starEach (e::es) X.env)).all (λx=>!x.1)&&(backToKw cpos (keywordEach [] X.env)).all (λx=>x.1.isSome)
   &&decide ((e::es).length+([]:List Keyword).length+(if ([]:List Keyword).isEmpty then 0 else 1) < 30))=true:=by rfl)
  (hline:(apos.endLine==cpos.line)=true:=by rfl) (hs:starEach (e::es) X.env=(false,eval e X.env)::starEach es X.env:=by rfl) (hplain:(backTo cpos (starEach es X.env)).any (·.1)=false:=by rfl):
  PE X (.Call (.Attribute o name apos) (e::es) [] cpos) (tBM X.K T r to t):=by
 intro pins s σ H Q I h;refine wpAny_Call_method_late hbase hfew hline rfl (thn (ho pins s σ H _ I h) λv s1 ⟨x,H1,I1,r1,ty,q1⟩=>?_);obtain ⟨h1,h2⟩:=tyV_is I1 r1 ty;refine ⟨T,id,pa,slot,hty,h1,h2,?_⟩;have hA:=ha cpos pins s1 σ H1 _ I1 q1;rw[hs] at hA ⊢;refine Calls.callWith_builtin (by show (false||(backTo cpos (starEach es X.env)).any (·.1))=false;rw[hplain] <;> rfl) (Calls.evalArgs_plain ?_);exact thn hA λus s2 ⟨vs,H2,I2,r2,q2⟩=>hm pins s2 σ H2 x vs v us Q I2 r1 r2 q2
end
def MtM (X:Cx) (id:String) (r:V→List V→Hp→VK→Prop):Prop:=
 ∀(pins:List (Addr×Obj)) (s:Shared) (σ:St) (H:Hp) (x:V) (xs:List V) (v:Value) (us:List Value) (Q:VK),Inv X pins σ H s→RelV x v→Vals xs us→r x xs H Q→
  wpAny (model X.prog X.w) X.A (call (.builtin id) (v::us)) (EP X pins σ Q) X.xe s
theorem Vals.one:∀{x:V} {us:List Value},Vals [x] us→∃u,us=[u]∧RelV x u
 | _,_,.cons r .nil=>⟨_,rfl,r⟩
section
variable {X:Cx} {pins:List (Addr×Obj)} {σ:St} {H:Hp} {s:Shared} {l b:Addr} {xs ys zs:List V}
theorem Inv.lset {its its':List Value} {n:Nat} {f:Array Value→Array Value} {t':Nat} (I:Inv X pins σ H s) (hH:H l=some (.lst xs))
  (e:s.heap.get? l=some { cls:=.type "list",data:=.seq its.toArray n }) (hf:f its.toArray=its'.toArray) (hv:Vals ys its') (hz:ys.length≤sizeLine):
  Inv X pins σ (upd H l (.lst ys)) { s with heap:=s.heap.update l (Obj.mapSeq f),toks:=t' }:=by
 have q:=PySem.IsL.update e f;rw[hf] at q;refine I.write (x:=l) (e:=l) (by rw[hH];exact trivial) (.inl rfl) (λb' u hb hu=>(Heap.get?_update_other s.heap (Obj.mapSeq f) (Ne.symm hb)).trans hu) ⟨_,q⟩ ?_;exact ⟨hz,its',_,hv,q⟩
theorem Inv.lnew {its:List Value} {t':Nat} (I:Inv X pins σ H s) (hv:Vals ys its) (hz:ys.length≤sizeLine):
  Inv X pins σ (upd H s.heap.objs.size (.lst ys)) { s with heap:=s.heap.push { cls:=.type "list",data:=.seq its.toArray },toks:=t' }:=
 I.laid (λ_ _ q=>Heap.get?_push_of_some _ q) (aa3 _) ⟨hz,its,0,hv,Heap.get?_push_size _ rfl⟩
theorem Inv.fresh (I:Inv X pins σ H s):H s.heap.objs.size=none:=I.hok.fresh (aa3 _)
theorem Inv.lstM (I:Inv X pins σ H s) (hH:H l=some (.lst xs)):xs.length≤sizeLine∧∃(its:List Value) (n:Nat),Vals xs its∧xs.length=its.length∧s.heap.get? l=some { cls:=.type "list",data:=.seq its.toArray n }:=by
 obtain ⟨z,its,n,r,e⟩:=I.hok l _ hH;exact ⟨z,its,n,r,r.length,e⟩
end
section
variable {X:Cx}
def Dy:V→List V→Hp→VK→Prop:=λx vs H Q=>∃l xs y,x=.ref l∧vs=[y]∧H l=some (.lst xs)∧xs.length < sizeLine∧Q .non (upd H l (.lst (xs++[y])))
theorem jx:MtM X "list.append" Dy:=by
 intro pins s σ H x vs v us Q I rx rv h;obtain ⟨l,xs,y,rfl,rfl,hH,hz,q⟩:=h;cases rx
 obtain ⟨u,rfl,ru⟩:=rv.one;obtain ⟨z,its,n,r,hl,e⟩:=I.lstM hH;refine call_meets F.slot_list_append ⟨_,e,rfl⟩ F.entry_list_append (F.args_list_append_2 _ _) (PySem.list_append l its.toArray n u (by rw[aa5];omega)) ⟨e,?_⟩;refine ⟨.non,_,I.lset (its':=its++[u]) hH e (by simp) (r.append (.cons ru .nil)) ?_,rfl,q⟩;rw[aa8,aay];omega
def rCat:R2:=λx y H Q=>∃l b xs zs,x=.ref l∧y=.ref b∧H l=some (.lst xs)∧H b=some (.lst zs)∧xs.length+zs.length≤sizeLine∧∀p,H p=none→Q (.ref p) (upd H p (.lst (xs++zs)))
theorem jy:OpR X (binaryOp .Add) rCat:=by
 intro pins s σ H x y v u Q I rx ry h;obtain ⟨l,b,xs,zs,rfl,rfl,hH,hB,hz,q⟩:=h;cases rx
 cases ry
 obtain ⟨z,its,n,r,hl,e⟩:=I.lstM hH;obtain ⟨z2,its2,n2,r2,hl2,e2⟩:=I.lstM hB;refine PySem.P.add_list e e2 ?_ (by rw[aa5,aa5];omega);have ea:its.toArray++its2.toArray=(its++its2).toArray:=by simp
 rw[ea];exact ⟨.ref _,_,I.lnew (t':=s.toks) (r.append r2) (by rw[aa8];omega),rfl,q _ I.fresh⟩
end
section
variable {prog:Program} {w:World} {A:Around} {E:Value→Shared→Prop} {s:Shared}
set_option maxRecDepth 100000 in
end
end L2
namespace Att
open PySem PySem.W PySem.Calls PyProof.Rows
theorem j9 {P:Params} {h:Heap}:∀(ns:List Int) (vs:List Value),WellAll P h vs (ns.map WData.int)→IntsAre vs ns:=by
 intro ns;induction ns with
 | nil=>
  intro vs w;rw[acn] at w;cases w
  exact .nil
 | cons n ns ih=>
  intro vs w;rw[aan] at w;cases w with
  | cons a b=>
   cases a
   exact .cons _ _ (ih _ b)
theorem yp {l:OpenLaw} {n:Nat} (hn:l.most=some n) {P:Params} {h:Heap} {args:List WData} {vals:List Value}
  (hpre:l.row.toRowW.claim.pre args=true) (hwl:WellAll P h vals args):
  ∃a vs ns,vals=[Value.ref a]∧args=[WData.list (ns.map WData.int)]∧h.get? a=some { cls:=.type "list",data:=.seq vs.toArray }∧IntsAre vs ns∧ns.length≤n:=by
 have hsh:WShape.hasAll [] args [.list .int]=true:=(pre_splitW hpre).1;have hc:l.pre.holds [] { args:=args }=true:=(pre_splitW hpre).2;obtain ⟨d,r,rfl,h1,h2⟩:=hasAllW_cons hsh;obtain rfl:=hasAllW_nil h2;obtain ⟨xs,rfl,h3⟩:=hasW_list h1;obtain ⟨ns,rfl⟩:=items_int h3;have hlen:ns.length≤n:=by
  unfold OpenLaw.pre at hc;have h4:(WTm.not (.lt (.lit (.int (n:Int))) (.len (.arg 0)))).holds [] { args:=[.list (ns.map .int)] }=true:=by
   have h4:=(holds_andW hc).1;rw[hn] at h4;exact h4
  have h5:=condW_of h4 (w_not (w_lt w_lit (w_len_list (w_arg rfl))));rw[aa2] at h5;refine adi λq=>?_;have q':(n:Int) < ((ns.length:Nat):Int):=by omega
  first
   | (rw[decide_eq_true q'] at h5;exact absurd h5 (by decide))
   | (simp at h5;omega)
 cases hwl with
 | cons w1 w2=>
  cases w2
  cases w1 with
  | list ho hall=>exact ⟨_,_,ns,rfl,rfl,ho,j9 ns _ hall,hlen⟩
theorem yc (l:OpenLaw) (args:List WData):l.row.toRowW.claim.post args (.bool true) args=true:=
 postW_of (r:=l.row.toRowW) (X:=(true==true))
  (show WShape.has [] (.bool true) .bool=true by first | rfl | decide | simp[WShape.has,WShape.arms,WShape.armsAll])
  (show (WTm.eq .res (.lit (.bool true))).value [] { args:=args,res:=some (.bool true),after:=args }=some (.bool (true==true)) from w_eq_bool (w_res rfl) w_lit) rfl
theorem r9 {l:OpenLaw} {n:Nat} {q:Program} {loose:List Str} {XP:(Str→Option Value)→Heap→Prop} {YP:World→Heap→Prop} {d:DefRec}
  (hn:l.most=some n) (hdf:d.params.defaults=[])
  (call:∀(w:World) (s₀ s₁:Shared) (mg mb:Str→Option Value) (fa:Addr) (o:Obj) (pm cd doc:Value) (a:Addr) (vs:List Value) (ns:List Int),
   Ground q loose [] XP w s₀ mg mb s₁.heap→YP w s₁.heap→
   s₁.heap.get? fa=some o→o.data=.func (docDef d.name d.params d.body d.scope pm cd doc)→s₁.heap.CodeRec cd d.name→mg d.name=some (.ref fa)→
   s₁.heap.get? a=some { cls:=.type "list",data:=.seq vs.toArray }→IntsAre vs ns→ns.length≤n→s₁.gens=#[]→
   codeAny (model l.prog w) callerA (.call (.ref fa) ⟨[.ref a],[]⟩) (λr s'=>r=.ok (.ret (.bool true))∧OldK s₁.heap s'.heap∧s'.os=s₁.os∧AllBare s'.gens) s₁):
  WalkO q loose XP YP l.row.toRowW d [] (λf vs=>PySem.call f vs):=by
 intro w s₀ s₁ mg mb G Y fa o pm cd doc dV kV ho hd hcd hD hmg hg args vals as hpre hlay hrd hwl hlo;obtain rfl:dV=.none:=Dflts.none hD hdf;obtain rfl:kV=.none:=Dflts.noKw hD;obtain ⟨a,vs,ns,rfl,rfl,hobj,hints,hlen⟩:=yp hn hpre hwl;refine enter_call (codeAny_mono (call w s₀ s₁ mg mb fa o pm cd doc a vs ns G Y ho (fd_plain hd) hcd hmg hobj hints hlen hg) λr s' hq=>?_);obtain ⟨rfl,h2,h3,h4⟩:=hq;exact ⟨.inl ⟨.bool true,.bool true,[],rfl,λ_=>rfl,.bool true,yc l _,λ_=>⟨List.Pairwise.nil,λ_ hm=>(nomatch hm)⟩⟩,h2,h3,h4⟩
end Att
namespace L2
open PySem PySem.Spec PyProof.Rows
theorem oj:∀{vs:List Value} {ns:List Int},IntsAre vs ns→Vals (ns.map V.int) vs
 | _,_,.nil=>.nil
 | _,_,.cons n t h=>.cons ⟨t,rfl⟩ (oj h)
def Only (H:Hp):Prop:=∀b,H b=none∨∃o xs,H b=some (.frz o (.lst xs))
theorem Bq {P:Program} {w:World} {K:PySem.W.Frag} {mg mb:Str→Option Value} {CX:CXT} {k:Nat} {fa a:Addr} {fd:FuncData} {x:Str} {sp:Sp} {s₁:Shared} {vs:List Value} {ns:List Int}
  (KX:K.In s₁.heap) (hns:s₁.heap.Ns mainGlobals mg) (hb:s₁.heap.Ns builtinsNs mb) (hbb:∀x:Str,x≠"__name__"→mb x=bootBuiltins x) (hlim:s₁.heap.NoLimit) (hg:s₁.gens=#[])
  (ha:s₁.heap.get? a=some { cls:=.type "list",data:=.seq vs.toArray }) (hi:IntsAre vs ns) (hl:ns.length≤sizeLine) (hr:br k callerA)
  (F:∀base:Heap,K.In base→base.Ns mainGlobals mg→cx P w K mg base CX k fa fd [x] sp) (hbind:∀(s:Shared) (u:Value),BindsTo s fd ⟨[u],[]⟩ [(x,u)])
  (hsp:∀H:Hp,Only H→SqL K H a (ns.map V.int)→sp [.ref a] H (λv _=>v=.bl true) λ_ _ _=>False)
  (hCX:∀H e s',CX [] H s₁ (λ_ _ _=>False) e s'→False):
  codeAny (model P w) callerA (.call (.ref fa) ⟨[.ref a],[]⟩) (λr s'=>r=.ok (.ret (.bool true))∧OldK s₁.heap s'.heap∧s'.os=s₁.os∧AllBare s'.gens) s₁:=by
 have rv:=oj hi;have lenV:=hi.length;have core:∀H:Hp,Only H→SqL K H a (ns.map V.int)→HOk P w H s₁.heap→(∀b,H b≠none→b=a)→(H a≠none→K.lookup a=none)→
   codeAny (model P w) callerA (.call (.ref fa) ⟨[.ref a],[]⟩) (λr s'=>r=.ok (.ret (.bool true))∧OldK s₁.heap s'.heap∧s'.os=s₁.os∧AllBare s'.gens) s₁:=by
  intro H hO hS hok hA hK;have base_of:∀{b:Addr} {o:Obj},s₁.heap.get? b=some o→H b=none→(qk s₁.heap H).get? b=some o:=λe n=>Bm e n;have noA:∀{b:Addr} {o:Obj} {es:Array DictEntry} {ep:Nat},s₁.heap.get? b=some o→o.data=.dict es ep→H b=none:=λ{b o es ep} e d=>by
   cases q:H b with
   | none=>rfl
   | some u=>
    have e':b=a:=hA b (by rw[q];simp);subst e';rw[ha] at e;cases e;have d':Data.seq vs.toArray _=Data.dict es ep:=d;cases d'
  have nsK:∀{b:Addr} {m:Str→Option Value},s₁.heap.Ns b m→(qk s₁.heap H).Ns b m:=λ{b m} ⟨o,es,ep,e,d,r⟩=>⟨o,es,ep,base_of e (noA e d),d,r⟩;have hKb:K.In (qk s₁.heap H):=λb o e=>base_of (KX b o e) (by
   cases q:H b with
   | none=>rfl
   | some u=>
    have e':b=a:=hA b (by rw[q];simp);subst e';rw[hK (by rw[q];simp)] at e;cases e)
  have hM:Mod K mg (qk s₁.heap H):=⟨hKb,nsK hns,⟨mb,nsK hb,hbb⟩,let ⟨mc,h1,h2⟩:=hlim;⟨mc,nsK h1,h2⟩⟩;have e0:u9 P w K mg (qk s₁.heap H) callerA [] s₁ H:=⟨rfl,hM,λb o e=>Es e,Nat.le_of_eq (yl _ _),trivial,λb hb=>absurd (show b∈([]:List Addr) from hb) (by simp),hok,.of_eq hg⟩;refine codeAny_mono ((F _ hKb (nsK hns)).run callerA [] s₁ H ⟨[.ref a],[]⟩ [.ref a] [.ref a] _ _ hr e0 (hbind s₁ (.ref a)) (.cons rfl .nil) (hsp H hO hS)) λr s' h=>?_;cases r with
  | error e=>exact (hCX H e s' h).elim
  | ok fl=>
   cases fl with
   | next=>exact False.elim h
   | brk=>exact False.elim h
   | cont=>exact False.elim h
   | ret u=>
    obtain ⟨v,H',os,bare,un,hok',r',q⟩:=h;have q':v=.bl true:=q;subst q';obtain rfl:u=Value.bool true:=r';refine ⟨rfl,OldK.of_keep λb o e=>?_,os,bare⟩;cases q:H b with
    | none=>exact un.keep b o e q (by intro z;exact absurd (show b∈([]:List Addr) from z) (by simp)) (by simp)
    | some u=>
     rcases hO b with z | ⟨ob,xs,z⟩
     ·rw[q] at z;cases z
     ·have z2:=un.frzs b ob _ z;obtain ⟨e1,_⟩:=hok b _ z;obtain ⟨e2,_⟩:=hok' b _ z2;rw[e] at e1;cases e1;exact e2
 cases hk:K.lookup a with
 | some o=>
  have e:=KX a o hk;rw[ha] at e;cases e
  refine core (λ_=>none) (λ_=>.inl rfl) (.inr ⟨_,vs.toArray,_,hk,rfl,rfl,rfl,by rw[aa5,lenV];exact hl,by simpa using rv⟩) (λb u z=>by have z':(none:Option HO)=some u:=z;cases z') (λb z=>absurd rfl z) λz=>absurd rfl z
 | none=>
  refine core (λb=>if b=a then some (.frz { cls:=.type "list",data:=.seq vs.toArray } (.lst (ns.map V.int))) else none) (λb=>?_) (.inl (.inr ⟨{ cls:=.type "list",data:=.seq vs.toArray },if_pos rfl⟩)) (λb u z=>?_) (λb z=>?_) λ_=>hk
  ·by_cases hb:b=a
   ·exact .inr ⟨_,_,if_pos hb⟩
   ·exact .inl (if_neg hb)
  ·by_cases hb:b=a
   ·have z':=(if_pos hb).symm.trans z;cases z'
    subst hb;exact ⟨ha,by rw[aa2];exact hl,vs,_,rv,ha⟩
   ·have z':=(if_neg hb).symm.trans z;cases z'
  ·by_cases hb:b=a
   ·exact hb
   ·exact absurd (if_neg hb) z
noncomputable abbrev KOf {K:PySem.W.Frag} {h:Heap} (_:K.In h):PySem.W.Frag:=K
theorem Dw {l:PySem.W.OpenLaw} {n k:Nat} {q:Program} {loose:List Str} {XP:(Str→Option Value)→Heap→Prop} {YP:World→Heap→Prop} {d:DefRec} {K:Params→PySem.W.Frag} {CX:World→CXT} {sp:World→Sp} {x:Str}
  (hn:l.most=some n) (hn2:n≤sizeLine) (hdf:d.params.defaults=[]) (hr:br k callerA)
  (hY:∀(w:World) (h:Heap),YP w h→(K w.params).In h)
  (F:∀(w:World) (mg:Str→Option Value) (fa:Addr) (h:Heap),(K w.params).In h→h.Ns mainGlobals mg→mg d.name=some (.ref fa)→
   ∃fd:FuncData,(∀(s:Shared) (u:Value),BindsTo s fd ⟨[u],[]⟩ [(x,u)])∧
    ∀base:Heap,(K w.params).In base→base.Ns mainGlobals mg→cx l.prog w (K w.params) mg base (CX w) k fa fd [x] (sp w))
  (hsp:∀(w:World) (H:Hp) (a:Addr) (ns:List Int),ns.length≤n→Only H→SqL (K w.params) H a (ns.map V.int)→sp w [.ref a] H (λv _=>v=.bl true) λ_ _ _=>False)
  (hCX:∀(w:World) (H:Hp) (s:Shared) (e:Value) (s':Shared),CX w [] H s (λ_ _ _=>False) e s'→False):
  PySem.W.WalkO q loose XP YP l.row.toRowW d [] (λf vs=>PySem.call f vs):=by
 refine Att.r9 hn hdf λw s₀ s₁ mg mb fa o pm cd doc a vs ns G Y ho hd hcd hmg hobj hints hlen hg=>?_;have KX:=hY w _ Y;obtain ⟨fd,hb,hF⟩:=F w mg fa _ KX G.T.g hmg;exact Bq KX G.T.g G.T.b G.T.builtins G.T.nolimit hg hobj hints (aar hlen hn2) hr hF hb (λH hO hS=>hsp w H a ns hlen hO hS) λH e s'=>hCX w H s₁ e s'
noncomputable def aq (s:Stmt):Arguments:=match s with
 | .FunctionDef _ a _ _ _ _ _ _ _ _=>a
 | _=>{ posonlyargs:=[],args:=[],vararg:=none,kwonlyargs:=[],kw_defaults:=[],kwarg:=none,defaults:=[] }
noncomputable def ak (s:Stmt):List Stmt:=match s with
 | .FunctionDef _ _ b _ _ _ _ _ _ _=>b
 | _=>[]
noncomputable def af (s:Stmt):Scope:=match s with
 | .FunctionDef _ _ _ _ _ _ sc _ _ _=>sc
 | _=>{ kind:=.function,names:=[],isGenerator:=false,isCoroutine:=false }
noncomputable abbrev CX0:CXT:=λ_ _ _ _ _ _=>False
abbrev E0:XK:=λ_ _ _=>False
theorem pass0 {X:Cx}:Passes CX0 X E0:=λ_ _ _ _ _ _ _ h=>h.elim
structure Fun (K:PySem.W.Frag) (x qual:Str) (st:Stmt) (f:Addr) (fd:FuncData):Prop where
 ex:∃(oc:Value) (od:Option Addr) (kV doc pm:Value) (an:Option Addr) (cdv ct:Value) (osl:Array (Option Value)),
  fd=PySem.W.fnOf x qual (aq st) (ak st) (af st) .none kV doc pm an cdv ct∧K.lookup f=some ⟨oc,od,.func fd,osl⟩∧PySem.W.codeIn K cdv qual=true
 kp:PySem.W.keepIn K (.ref f)=true
section
variable {P:Program} {w:World} {K:PySem.W.Frag} {mg:Str→Option Value} {base:Heap}
theorem Fun.ok {x qual:Str} {st:Stmt} {f:Addr} {fd:FuncData} {N ps:List Str} {k:Nat} {sp:Sp} (F:Fun K x qual st f fd) (S:ao N ps (af st)) (len:∀vs H Q E,sp vs H Q E→vs.length=ps.length)
  (hbody:∀(cdv:Value) (A:Around) (outer:List Env) (s:Shared) (H:Hp) (vs:List V) (Q:VK) (E:XK),br k (A.deeper (envOfC qual (af st) s.heap.objs.size f cdv))→sp vs H Q E→
   ∃t,PSs (ik CX0 P w K mg base N qual (af st) f cdv A outer s H E).nox (ak st) t∧t { nx:=λ_ H'=>Q .non H',rt:=Q } (start N vs) H):cx P w K mg base CX0 (k+1) f fd ps sp:=by
 obtain ⟨oc,od,kV,doc,pm,an,cdv,ct,osl,rfl,lk,hcd⟩:=F.ex;refine fn_of lk hcd S len λA outer s H vs Q E hr hsp=>?_;obtain ⟨t,h,q⟩:=hbody cdv A outer s H vs Q E hr hsp;exact ⟨t,h.nox,q⟩
theorem Fun.binds {x qual:Str} {st:Stmt} {f:Addr} {fd:FuncData} {ps:List Str} (F:Fun K x qual st f fd)
  (h:∀(kV doc pm:Value) (an:Option Addr) (cdv ct:Value) (us:List Value),us.length=ps.length→bindArgs (PySem.W.fnOf x qual (aq st) (ak st) (af st) .none kV doc pm an cdv ct) ⟨us,[]⟩=pure (ps.zip us)):Binds K fd ps []:=by
 obtain ⟨oc,od,kV,doc,pm,an,cdv,ct,osl,rfl,lk,hcd⟩:=F.ex;exact .all (h kV doc pm an cdv ct)
theorem bh {x qual:Str} {st:Stmt} {f:Addr} {oc:Value} {od an:Option Addr} {osl:Array (Option Value)} {kV doc pm cdv ct:Value} (l:K.lookup f=some ⟨oc,od,.func (PySem.W.fnOf x qual (aq st) (ak st) (af st) .none kV doc pm an cdv ct),osl⟩)
  (c:PySem.W.codeIn K cdv qual=true) (k:PySem.W.keepIn K (.ref f)=true):Fun K x qual st f (PySem.W.fnOf x qual (aq st) (ak st) (af st) .none kV doc pm an cdv ct):=⟨⟨oc,od,kV,doc,pm,an,cdv,ct,osl,rfl,l,c⟩,k⟩
end
theorem d3 {A:Around} {k:Nat} (hr:br k A):A.units+1 < cLine:=Nat.lt_of_le_of_lt (Nat.add_le_add_left (by decide:1≤64) _) hr.units
section
variable {X:Cx}
theorem pv (i:Nat) {x:Str} {pos:Pos} (hN:X.N[i]?=some x:=by rfl) (hv:Vis X.env.scope x:=by first | exact aa1 rfl | exact aa0 (aa1 rfl) | exact aa0 (aa0 rfl)) (hd:(x==("__debug__":Str))=false:=by decide)
  (hcd:(x==("__classdict__":Str))=false:=by decide):PE X (.Name x pos) (tVar i):=pe_var hN hv hd hcd
end
theorem iteF {A B:Prop} (h:B):if false=true then A else B:=by
 rw[if_neg aaa];exact h
theorem iteT {A B:Prop} (h:A):if true=true then A else B:=by
 rw[if_pos rfl];exact h
theorem iy {c A B:Prop} [Decidable c] (h1:c→A) (h2:¬c→B):if c then A else B:=by
 by_cases h:c
 ·rw[if_pos h];exact h1 h
 ·rw[if_neg h];exact h2 h
def ah (H H':Hp):Prop:=∀b o,H b=some o→H' b=some o
theorem ah.refl (H:Hp):ah H H:=λ_ _ h=>h
theorem ah.trans {H H1 H2:Hp} (a:ah H H1) (b:ah H1 H2):ah H H2:=λc o h=>b c o (a c o h)
theorem ah.free {H H':Hp} (e:ah H H') {l:Addr} (h:H' l=Option.none):H l=Option.none:=by
 cases q:H l with
 | none=>rfl
 | some o=>
  rw[e l o q] at h;cases h
theorem ah.seq {K:PySem.W.Frag} {H H':Hp} {a:Addr} {xs:List V} (e:ah H H') (h:SqL K H a xs):SqL K H' a xs:=by
 rcases h with (h | ⟨o,h⟩) | h
 ·exact .inl (.inl (e _ _ h))
 ·exact .inl (.inr ⟨o,e _ _ h⟩)
 ·exact .inr h
section
variable {κ:Type} [DecidableEq κ]
noncomputable def av (kvs:List (κ×V)) (k:κ):Option V:=(kvs.find? λkv=>decide (kv.1=k)).map (·.2)
noncomputable def putK (kvs:List (κ×V)) (k:κ) (v:V):List (κ×V):=
 if (kvs.any λkv=>decide (kv.1=k))=true then kvs.map (λkv=>if kv.1=k then (kv.1,v) else kv) else kvs++[(k,v)]
theorem bo {p:κ×V} {r:List (κ×V)} {k:κ} (e:p.1=k):av (p::r) k=some p.2:=by simp[av,ab9,e]
theorem bj {p:κ×V} {r:List (κ×V)} {k:κ} (e:¬p.1=k):av (p::r) k=av r k:=by simp[av,ab9,e]
theorem df (k:κ):∀kvs:List (κ×V),(kvs.any λkv=>decide (kv.1=k))=(av kvs k).isSome
 | []=>rfl
 | p::r=>by
  rw[abt];by_cases e:p.1=k
  ·simp only[bo e,decide_eq_true e,aca,Option.isSome_some]
  ·rw[bj e,decide_eq_false e,Bool.false_or];exact df k r
theorem t9 (k j:κ) (y:V):∀kvs:List (κ×V),av (kvs.map λkv=>if kv.1=k then (kv.1,y) else kv) j=(av kvs j).map λx=>if j=k then y else x
 | []=>rfl
 | p::r=>by
  have ih:=t9 k j y r;rw[aan];by_cases h:p.1=k
  ·rw[if_pos h];by_cases e:p.1=j
   ·rw[bo (p:=(p.1,y)) e,bo e,abw,if_pos (e.symm.trans h)]
   ·rw[bj (p:=(p.1,y)) e,bj e,ih]
  ·rw[if_neg h];by_cases e:p.1=j
   ·rw[bo (p:=p) e,bo e,abw,if_neg (λz=>h (e.trans z))]
   ·rw[bj (p:=p) e,bj e,ih]
theorem oz (k j:κ) (y:V):∀kvs:List (κ×V),av kvs k=none→av (kvs++[(k,y)]) j=if j=k then some y else av kvs j
 | [],_=>by
  by_cases e:k=j
  ·rw[if_pos e.symm];exact bo (p:=(k,y)) e
  ·rw[if_neg (λz=>e z.symm)];exact bj (p:=(k,y)) e
 | p::r,hn=>by
  rw[aco];have hk:¬p.1=k:=λz=>by rw[bo z] at hn;cases hn
  rw[bj hk] at hn;have ih:=oz k j y r hn;by_cases e:p.1=j
  ·rw[bo e,bo e,if_neg (λz=>hk (e.trans z))]
  ·rw[bj e,bj e,ih]
theorem m5 (kvs:List (κ×V)) (k j:κ) (y:V):av (putK kvs k y) j=if j=k then some y else av kvs j:=by
 unfold putK;by_cases a:(kvs.any λkv=>decide (kv.1=k))=true
 ·rw[if_pos a,t9];rw[df] at a;by_cases e:j=k
  ·obtain ⟨x,hx⟩:=Option.isSome_iff_exists.mp a;rw[if_pos e,e,hx,abw,if_pos rfl]
  ·rw[if_neg e];cases av kvs j with
   | none=>rfl
   | some x=>rw[abw,if_neg e]
 ·rw[if_neg a];refine oz k j y kvs ?_;rw[df] at a;cases q:av kvs k with
  | none=>rfl
  | some x=>rw[q] at a;exact (a rfl).elim
theorem dj (kvs:List (κ×V)) (k:κ) (v:V):(putK kvs k v).length≤kvs.length+1:=by
 unfold putK;split
 ·rw[aa2];omega
 ·rw[aa8,aai,abg];omega
theorem Bj {kvs:List (κ×V)} {k:κ} (v:V) (h:av kvs k=none):putK kvs k v=kvs++[(k,v)]:=by
 unfold putK;rw[df,h];exact if_neg (by decide)
theorem d9.ju {o:Option V} {u:Option Value} (r:d9 o u):o.isSome=u.isSome:=by
 cases o with
 | none=>cases u with
  | none=>rfl
  | some _=>exact (show False from r).elim
 | some _=>cases u with
  | none=>exact (show False from r).elim
  | some _=>rfl
theorem KV.val {kvs:List (κ×V)} {vs:List (κ×Value)} (r:KV kvs vs) (k:κ):d9 (av kvs k) (valueAt vs k):=by
 unfold KV at r;induction r with
 | nil=>exact True.intro
 | @cons p q ps qs h t ih=>
  obtain ⟨h1,h2⟩:=h;by_cases e:p.1=k
  ·have e':q.1=k:=h1.symm.trans e;have b:valueAt (q::qs) k=some q.2:=by simp[valueAt,ab9,e']
   rw[bo e,b];exact h2
  ·have e':¬q.1=k:=λz=>e (h1.trans z);have b:valueAt (q::qs) k=valueAt qs k:=by simp[valueAt,ab9,e']
   rw[bj e,b];exact ih
theorem KV.any {kvs:List (κ×V)} {vs:List (κ×Value)} (r:KV kvs vs) (k:κ):(kvs.any λkv=>decide (kv.1=k))=vs.any λkv=>decide (kv.1=k):=by
 unfold KV at r;induction r with
 | nil=>rfl
 | cons h t ih=>rw[abt,abt,ih,h.1]
theorem KV.repl {kvs:List (κ×V)} {vs:List (κ×Value)} (r:KV kvs vs) (k:κ) {y:V} {u:Value} (ry:RelV y u):
  KV (kvs.map λkv=>if kv.1=k then (kv.1,y) else kv) (vs.map λkv=>if kv.1=k then (kv.1,u) else kv):=by
 unfold KV at r ⊢;induction r with
 | nil=>exact .nil
 | @cons p q ps qs h t ih=>
  rw[aan,aan];refine .cons ?_ ih;obtain ⟨h1,h2⟩:=h;by_cases e:p.1=k
  ·rw[if_pos e,if_pos (h1.symm.trans e)];exact ⟨h1,ry⟩
  ·rw[if_neg e,if_neg (λz=>e (h1.trans z))];exact ⟨h1,h2⟩
theorem KV.put {kvs:List (κ×V)} {vs:List (κ×Value)} (r:KV kvs vs) (k:κ) {y:V} {u:Value} (ry:RelV y u):KV (putK kvs k y) (stored vs k u):=by
 unfold putK stored;rw[r.any k];by_cases e:(vs.any λkv=>decide (kv.1=k))=true
 ·rw[if_pos e,if_pos e];exact r.repl k ry
 ·rw[if_neg e,if_neg e];exact Paired.snoc r ⟨rfl,ry⟩
theorem KV.keys {kvs:List (κ×V)} {vs:List (κ×Value)} (r:KV kvs vs):kvs.map (·.1)=vs.map (·.1):=by
 unfold KV at r;induction r with
 | nil=>rfl
 | cons h t ih=>rw[aan,aan,ih,h.1]
theorem KV.length {kvs:List (κ×V)} {vs:List (κ×Value)} (r:KV kvs vs):kvs.length=vs.length:=Paired.length r
end
theorem ua {P:Program} {w:World} {k:Key} {u:Value} (r:RelV (kV k) u):(bb P w).is k u=true:=by
 cases k with
 | inl i=>obtain ⟨t,e⟩:=(show ∃t,u=Value.int i t from r);subst e;exact tw P w i t
 | inr x=>obtain ⟨t,e⟩:=(show ∃t,u=Value.str x t from r);subst e;exact ti P w x t
theorem n4 {P:Program} {w:World}:∀{ks:List Key} {us:List Value},Vals (ks.map kV) us→ItemsAre (bb P w) ks us
 | [],_,r=>by rw[acn] at r;cases r;exact .nil
 | k::ks,_,r=>by
  rw[aan] at r;cases r with
  | cons h t=>exact .cons (ua h) (n4 t)
abbrev KT (H:Hp):List (List Key×V)→List (List Key×Addr×Value)→Prop:=Paired λp q=>p.1=q.1∧H q.2.1=some (.tup (p.1.map kV))∧RelV p.2 q.2.2
theorem KT.val {H:Hp} {kvs:List (List Key×V)} {xs:List (List Key×Addr×Value)} (r:KT H kvs xs) (k:List Key):d9 (av kvs k) ((atKey xs k).map (·.2)):=by
 induction r with
 | nil=>exact True.intro
 | @cons p q ps qs h t ih=>
  obtain ⟨h1,_,h2⟩:=h;by_cases e:p.1=k
  ·have e':q.1=k:=h1.symm.trans e;have b:atKey (q::qs) k=some q.2:=by simp[atKey,ab9,e']
   rw[bo e,b];exact h2
  ·have e':¬q.1=k:=λz=>e (h1.trans z);have b:atKey (q::qs) k=atKey qs k:=by simp[atKey,ab9,e']
   rw[bj e,b];exact ih
theorem KT.repl {H:Hp} {kvs:List (List Key×V)} {xs:List (List Key×Addr×Value)} (r:KT H kvs xs) (k:List Key) {y:V} {u:Value} (ry:RelV y u):
  KT H (kvs.map λkv=>if kv.1=k then (kv.1,y) else kv) (xs.map (putAt k u)):=by
 induction r with
 | nil=>exact .nil
 | @cons p q ps qs h t ih=>
  rw[aan,aan];refine .cons ?_ ih;obtain ⟨h1,h2,h3⟩:=h;unfold putAt;by_cases e:p.1=k
  ·rw[if_pos e,if_pos (h1.symm.trans e)];exact ⟨h1,h2,ry⟩
  ·rw[if_neg e,if_neg (λz=>e (h1.trans z))];exact ⟨h1,h2,h3⟩
theorem KT.put {H:Hp} {kvs:List (List Key×V)} {xs:List (List Key×Addr×Value)} (r:KT H kvs xs) (k:List Key) {b:Addr} {y:V} {u:Value} (hb:H b=some (.tup (k.map kV))) (ry:RelV y u):
  KT H (putK kvs k y) (storedH xs k b u):=by
 have e:(kvs.any λkv=>decide (kv.1=k))=(atKey xs k).isSome:=by
  rw[df,(r.val k).ju,ade]
 unfold putK storedH;rw[e];by_cases q:(atKey xs k).isSome=true
 ·rw[if_pos q,if_pos q];exact r.repl k ry
 ·rw[if_neg q,if_neg q];exact Paired.snoc r ⟨rfl,hb,ry⟩
theorem KT.keeps {H H':Hp} {kvs:List (List Key×V)} {xs:List (List Key×Addr×Value)} (r:KT H kvs xs) (ht:∀b ys,H b=some (.tup ys)→H' b=some (.tup ys)):KT H' kvs xs:=
 Paired.mapP r λ_ _ z=>⟨z.1,ht _ _ z.2.1,z.2.2⟩
section
variable {P:Program} {w:World} {H:Hp} {h:Heap} {a:Addr}
theorem rd_of {u:HO} (ok:HOk P w H h) (e:Rd H a u):ay P w H h a u:=e.ok ok
theorem gq {kvs:List (Key×V)} (ok:HOk P w H h) (e:Rd H a (.dK kvs)):kvs.length≤sizeLine∧(a==sysModules)=false∧∃vs,KV kvs vs∧h.DictOf (bb P w) a vs:=
 show ay P w H h a (.dK kvs) from rd_of ok e
theorem dk_of {kvs:List (Key×V)} (ok:HOk P w H h) (e:H a=some (.dK kvs)):kvs.length≤sizeLine∧(a==sysModules)=false∧∃vs,KV kvs vs∧h.DictOf (bb P w) a vs:=gq ok (.inl e)
theorem ip {ks:List Key} (ok:HOk P w H h) (e:H a=some (.tup (ks.map kV))):(tupleKind (bb P w)).is h ks a:=by
 obtain ⟨_,its,r,o,h1,h2,n,h3,_⟩:=(show ay P w H h a (.tup (ks.map kV)) from ok a _ e);exact ⟨o,its.toArray,n,h1,h2,h3,by simpa using n4 r⟩
theorem xm {kvs:List (List Key×V)} (ok:HOk P w H h) (e:Rd H a (.dT kvs)):kvs.length≤sizeLine∧(a==sysModules)=false∧
  ∃xs,KT H kvs xs∧h.DictOfH (tupleKind (bb P w)) a xs:=by
 obtain ⟨z,y,xs,r,o,es,ep,h1,h2,h3,h4,h5⟩:=(show ay P w H h a (.dT kvs) from rd_of ok e);refine ⟨z,y,xs,r,o,es,ep,h1,h2,h3,h4,λx hx=>?_,h5⟩;have all:∀{l:List (List Key×V)} {m:List (List Key×Addr×Value)},KT H l m→∀x∈m,(tupleKind (bb P w)).is h x.1 x.2.1:=by
  intro l m q;induction q with
  | nil=>intro x hx;exact nomatch hx
  | @cons p q ps qs hq t ih=>
   intro x hx;rcases List.mem_cons.mp hx with e | hx
   ·subst e;exact ip ok (by rw[←hq.1];exact hq.2.1)
   ·exact ih x hx
 exact all r x hx
theorem dt_of {kvs:List (List Key×V)} (ok:HOk P w H h) (e:H a=some (.dT kvs)):kvs.length≤sizeLine∧(a==sysModules)=false∧
  ∃xs,KT H kvs xs∧h.DictOfH (tupleKind (bb P w)) a xs:=xm ok (.inl e)
end
def nk (H:Hp) (a:Addr) (y:V) (r:Option V):Prop:=
 (∃kvs k,Rd H a (.dK kvs)∧y=kV k∧r=av kvs k)∨∃kvs k b,Rd H a (.dT kvs)∧y=.ref b∧H b=some (.tup (k.map kV))∧r=av kvs k
def DPut (H:Hp) (a:Addr) (y v:V) (H':Hp):Prop:=
 (∃kvs k,H a=some (.dK kvs)∧y=kV k∧kvs.length < sizeLine∧H'=upd H a (.dK (putK kvs k v)))∨
 ∃kvs k b,H a=some (.dT kvs)∧y=.ref b∧H b=some (.tup (k.map kV))∧kvs.length < sizeLine∧H'=upd H a (.dT (putK kvs k v))
theorem nk.k {H:Hp} {a:Addr} {kvs:List (Key×V)} {k:Key} (e:H a=some (.dK kvs)):nk H a (kV k) (av kvs k):=.inl ⟨kvs,k,.inl e,rfl,rfl⟩
theorem DPut.k {H:Hp} {a:Addr} {kvs:List (Key×V)} {k:Key} {v:V} (e:H a=some (.dK kvs)) (hl:kvs.length < sizeLine):DPut H a (kV k) v (upd H a (.dK (putK kvs k v))):=.inl ⟨kvs,k,e,rfl,hl,rfl⟩
section
variable {X:Cx} {pins:List (Addr×Obj)} {σ:St} {H:Hp} {s:Shared} {a:Addr} {y v:V} {u r:Value} {o:Option V} {A:Around} {E:Value→Shared→Prop}
theorem Inv.big (I:Inv X pins σ H s):sysModules < s.heap.objs.size:=by
 have h:mainGlobals < s.heap.objs.size:=(I.mod.glob.keeps I.bk).lt;exact acp (by decide) h
theorem zi {Q:Value→Shared→Prop} (hu:A.units+1 < cLine) (I:Inv X pins σ H s) (g:nk H a y (some v)) (ry:RelV y u) (h:∀w' s',Inv X pins σ H s'→RelV v w'→Q w' s'):
  wpAny (model X.prog X.w) A (getItem (.ref a) u) Q E s:=by
 rcases g with ⟨kvs,k,e,ey,l⟩ | ⟨kvs,k,b,e,ey,eb,l⟩
 ·subst ey;obtain ⟨z,hd,vs,rel,dd⟩:=gq I.hok e;obtain ⟨w',hw,rw'⟩:=d9.some_of (v:=v) (o:=valueAt vs k) (by rw[l];exact rel.val k);exact wpAny_getItem_of (ua ry) dd.mapOf hw (h w' _ (I.tok _) rw')
 ·subst ey;cases (show u=Value.ref b from ry)
  obtain ⟨z,hd,xs,rel,dd⟩:=xm I.hok e;obtain ⟨w',hw,rw'⟩:=d9.some_of (v:=v) (o:=(atKey xs k).map (·.2)) (by rw[l];exact rel.val k);obtain ⟨p,hp,hp2⟩:=Option.map_eq_some_iff.mp hw;refine wpAny_getItem_heap (tupleKind_room_in1 hu) (ip I.hok eb) dd hp ?_;rw[hp2];exact h w' _ (I.tok _) rw'
theorem C6 {Q:Value→Shared→Prop} (hu:A.units+1 < cLine) (I:Inv X pins σ H s) (g:nk H a y o) (ry:RelV y u) (h:∀s',Inv X pins σ H s'→Q (.bool (!o.isSome)) s'):
  wpAny (model X.prog X.w) A (compareOp .NotIn u (.ref a)) Q E s:=by
 rcases g with ⟨kvs,k,e,ey,l⟩ | ⟨kvs,k,b,e,ey,eb,l⟩
 ·subst ey;obtain ⟨z,hd,vs,rel,dd⟩:=gq I.hok e;refine wpAny_notIn_of (ua ry) hd dd.mapOf ?_;rw[←(rel.val k).ju,←l];exact h _ (I.tok _)
 ·subst ey;cases (show u=Value.ref b from ry)
  obtain ⟨z,hd,xs,rel,dd⟩:=xm I.hok e;refine wpAny_notIn_heap (tupleKind_room_in1 hu) (ip I.hok eb) hd dd ?_;have q:=(rel.val k).ju;rw[ade] at q;rw[←q,←l];exact h _ (I.tok _)
theorem rn {h':Heap} {t':Nat} {ob:HO} (I:Inv X pins σ H s) (mu:Mut (H a)) (hs:Heap.SameBut a s.heap h') (he:∃q,h'.get? a=some q) (new:ay X.prog X.w (upd H a ob) h' a ob):
  Inv X pins σ (upd H a ob) { s with heap:=h',toks:=t' }:=
 I.write (x:=a) (e:=a) mu (.inl rfl) (λb q hb z=>(hs.2 b hb).trans z) he new
theorem Aw {P:Program} {w:World} {H':Hp} {h':Heap} {kvs:List (Key×V)} {vs:List (Key×Value)} (z:kvs.length≤sizeLine) (hd:(a==sysModules)=false) (rel:KV kvs vs) (dd:h'.DictOf (bb P w) a vs):
  ay P w H' h' a (.dK kvs):=⟨z,hd,vs,rel,dd⟩
theorem ye {H':Hp} {Q:Unit→Shared→Prop} (hu:A.units+1 < cLine) (I:Inv X pins σ H s) (g:DPut H a y v H') (ry:RelV y u) (rv:RelV v r) (h:∀s',Inv X pins σ H' s'→Q () s'):
  wpAny (model X.prog X.w) A (setItem (.ref a) u r) Q E s:=by
 rcases g with ⟨kvs,k,e,ey,l,eH⟩ | ⟨kvs,k,b,e,ey,eb,l,eH⟩
 ·subst ey eH;obtain ⟨z,hd,vs,rel,dd⟩:=dk_of I.hok e;have hz:vs.length≤sizeLine:=by rw[←rel.length];exact z
  have hl:(putK kvs k v).length≤sizeLine:=by have:=dj kvs k v;omega
  refine wpAny_setItem_pairs (hsz:=hz) (ua ry) dd λh' dd' hs=>h _ ?_;have he:∃q,h'.get? a=some q:=let ⟨q,_,_,hq,_⟩:=dd';⟨q,hq⟩
  exact rn I (by rw[e];exact True.intro) hs he (Aw hl hd (rel.put k rv) dd')
 ·subst ey eH;cases (show u=Value.ref b from ry)
  obtain ⟨z,hd,xs,rel,dd⟩:=dt_of I.hok e;have hz:xs.length≤sizeLine:=by rw[←Paired.length rel];exact z
  have hl:(putK kvs k v).length≤sizeLine:=by have:=dj kvs k v;omega
  refine wpAny_setItem_heap (hsz:=hz) (tupleKind_room_in1 hu) (ip I.hok eb) dd λh' dd' hs=>h _ ?_;obtain ⟨q,es,ep,hq,h2,h3,h4,_,h5⟩:=dd';refine rn I (by rw[e];exact True.intro) hs ⟨q,hq⟩ ⟨hl,hd,_,(rel.put k eb rv).keeps λc ys ec=>?_,q,es,ep,hq,h2,h3,h4,h5⟩;rw[ag (ne_of ec e (λz=>nomatch z))];exact ec
end
def NoSl (i:Expr):Prop:=∀ov iv,subscripted i false ov iv=operate [ov,iv] (getItem ov iv)
theorem Dp {prog:Program} {w:World} {A:Around} {E:Value→Shared→Prop} {s:Shared} {env:Env} {value slice:Expr} {pos:Pos} {T id:String} {Q:Value→Shared→Prop}
  (hl:typeLookup (.type T) "__getitem__"=pure (some (.builtin id))) (hs:NoSl slice)
  (h:wpAny (model prog w) A (eval value env) (λo s₁=>wpAny (model prog w) A (eval slice env) (λi s₂=>s₂.TypeIs o T∧wpAny (model prog w) A (getItem o i) Q E s₂) E s₁) E s):
  wpAny (model prog w) A (eval (.Subscript value slice pos) env) Q E s:=by
 refine Subscript_ (wpAny_mono h (λo s₁ h₁=>wpAny_mono h₁ (λi s₂ h₂=>?_) λ_ _ x=>x) λ_ _ x=>x);obtain ⟨hT,h₂⟩:=h₂;unfold subscriptTail;refine wpAny_bind ?_;rw[getitemInPython_of_ne hT.not_modules];refine wpAny_bind (wpAny_specialOf hT hl ?_);have fin:wpAny (model prog w) A (subscripted slice false o i) (λr s₃=>wpAny (model prog w) A (letTemporaryGo value o r >>=λ_=>pure r) Q E s₃) E s₂:=by
  rw[hs o i];exact wpAny_operating (wpAny_mono h₂ (λr s₃ h₃=>wpAny_bind (wpAny_letTemporaryGo (wpAny_pure h₃))) λ_ _ x=>x)
 first
  | exact wpAny_pure (wpAny_bind fin)
  | exact wpAny_bind (wpAny_pure (wpAny_bind fin))
  | exact wpAny_bind fin
theorem sk {X:Cx} {pins:List (Addr×Obj)} {σ:St} {H:Hp} {s:Shared} {a:Addr} {y:V} {o:Option V} (I:Inv X pins σ H s) (g:nk H a y o):s.TypeIs (.ref a) "dict":=by
 rcases g with ⟨kvs,k,e,_,_⟩ | ⟨kvs,k,b,e,_,_,_⟩
 ·obtain ⟨_,_,vs,_,dd⟩:=gq I.hok e;exact dd.typeIs
 ·obtain ⟨_,_,xs,_,dd⟩:=xm I.hok e;exact dd.typeIs
def tDGet (td ty:TE):TE:=λσ H Q=>td σ H λx H1=>ty σ H1 λy H2=>∃a v,x=.ref a∧nk H2 a y (some v)∧Q v H2
def tDIn (ty td:TE):TE:=λσ H Q=>ty σ H λy H1=>td σ H1 λx H2=>∃a o,x=.ref a∧nk H2 a y o∧Q (.bl o.isSome) H2
def xk (ty td:TE):TE:=λσ H Q=>ty σ H λy H1=>td σ H1 λx H2=>∃a o,x=.ref a∧nk H2 a y o∧Q (.bl (!o.isSome)) H2
def sDPut (td ty tv:TE):TS:=λD σ H=>tv σ H λv H1=>td σ H1 λx H2=>ty σ H2 λy H3=>∃a H4,x=.ref a∧DPut H3 a y v H4∧D.nx σ H4
section
variable {X:Cx} {o i e value:Expr} {pos pos' tpos:Pos} {td ty tv:TE}
theorem wo (hu:X.A.units+1 < cLine) (ho:PE X o td) (hi:PE X i ty) (hs:NoSl i):PE X (.Subscript o i pos) (tDGet td ty):=by
 intro pins s σ H Q I h;refine Dp PySem.F.slot_dict_getitem.lookup hs (thn (ho pins s σ H _ I h) λu s1 ⟨x,H1,I1,rx,q1⟩=>thn (hi pins s1 σ H1 _ I1 q1) λiv s2 ⟨y,H2,I2,ry,a,v,ex,g,q2⟩=>?_);subst ex;obtain rfl:u=Value.ref a:=rx;exact ⟨sk I2 g,zi hu I2 g ry λw' s3 I3 rw'=>⟨v,H2,I3,rw',q2⟩⟩
theorem o6 (hu:X.A.units+1 < cLine) (hi:PE X i ty) (ho:PE X o td):PC X .NotIn i o (xk ty td):=by
 intro pins s σ H Q I h;refine thn (hi pins s σ H _ I h) λiv s1 ⟨y,H1,I1,ry,q1⟩=>thn (ho pins s1 σ H1 _ I1 q1) λu s2 ⟨x,H2,I2,rx,a,ov,ex,g,q2⟩=>?_;subst ex;obtain rfl:u=Value.ref a:=rx;exact C6 hu I2 g ry λs3 I3=>⟨.bl (!ov.isSome),H2,I3,rfl,q2⟩
theorem Eo (hu:X.A.units+1 < cLine) (ho:PE X o td) (hi:PE X i ty) (hv:PE X value tv) (hs:swapsWith value (some (.Subscript o i pos')) pos.line X.env=pure false):
  PS X (.Assign [.Subscript o i pos'] value pos) (sDPut td ty tv):=by
 intro pins s σ H D I h;refine wpAny_Assign_Subscript (thn (hv pins s σ H _ I h) λr s1 ⟨v,H1,I1,rv,q1⟩=>thn (ho pins s1 σ H1 _ I1 q1) λu s2 ⟨x,H2,I2,rx,q2⟩=>thn (hi pins s2 σ H2 _ I2 q2) λiv s3 ⟨y,H3,I3,ry,a,H4,ex,g,q3⟩=>?_) hs;subst ex;obtain rfl:u=Value.ref a:=rx;exact ye hu I3 g ry rv λs4 I4=>⟨σ,H4,I4,q3⟩
end
theorem t7 {P:Program} {w:World} {H:Hp} (h:Heap) (hb:sysModules < h.objs.size):ay P w H (h.push { cls:=.type "dict",data:=.dict #[] }) h.objs.size (.dK []):=
 ⟨ab0 _,beq_eq_false_iff_ne.mpr (Ne.symm (aab hb)),[],.nil,Heap.DictOf.new h⟩
def Ab:TE:=λ_ H Q=>∀p,H p=none→Q (.ref p) (upd H p (.dK []))
section
variable {X:Cx} {pos:Pos}
theorem Bk:PE X (.Dict [] [] pos) Ab:=λpins s σ H Q I h=>
 wpAny_Dict_empty ⟨.ref s.heap.objs.size,_,I.laid (a:=s.heap.objs.size) (o:=.dK []) (t':=s.toks) (λ_ _ q=>Heap.get?_push_of_some _ q) (aa3 _) (t7 s.heap I.big),rfl,h _ (I.hok.fresh (aa3 _))⟩
end
def rd:List (TE×TE)→St→Hp→(List (V×V)→Hp→Prop)→Prop
 | [],_,H,Q=>Q [] H
 | (tk,tv)::r,σ,H,Q=>tk σ H λx H1=>tv σ H1 λy H2=>rd r σ H2 λps H3=>Q ((x,y)::ps) H3
abbrev VV:List (V×V)→List (Value×Value)→Prop:=Paired λp q=>RelV p.1 q.1∧RelV p.2 q.2
def PPs (X:Cx) (pos:Pos) (keys:List (Option Expr)) (values:List Expr) (trs:List (TE×TE)):Prop:=
 ∀(pins:List (Addr×Obj)) (s:Shared) (σ:St) (H:Hp) (Q:List (V×V)→Hp→Prop),Inv X pins σ H s→rd trs σ H Q→
  wpAny (model X.prog X.w) X.A (evalPairs (pairTrees keys values X.env pos)) (λvs s'=>∃ps H',Inv X pins σ H' s'∧VV ps vs∧Q ps H') X.xe s
theorem ql {X:Cx} {pos:Pos}:PPs X pos [] [] []:=λpins s σ H Q I h=>pairTrees_nil_walk ⟨[],H,I,.nil,h⟩
theorem Bp {X:Cx} {pos:Pos} {k v:Expr} {ks:List (Option Expr)} {vs:List Expr} {tk tv:TE} {trs:List (TE×TE)} (hk:PE X k tk) (hv:PE X v tv) (hr:PPs X pos ks vs trs):
  PPs X pos (some k::ks) (v::vs) ((tk,tv)::trs):=λpins s σ H Q I h=>
 pairTrees_cons_walk (thn (hk pins s σ H _ I h) λu s1 ⟨x,H1,I1,rx,q1⟩=>thn (hv pins s1 σ H1 _ I1 q1) λw2 s2 ⟨y,H2,I2,ry,q2⟩=>
  thn (hr pins s2 σ H2 _ I2 q2) λws s3 ⟨ps,H3,I3,rel,q3⟩=>⟨(x,y)::ps,H3,I3,.cons ⟨rx,ry⟩ rel,q3⟩)
noncomputable def bq (kvs more:List (Key×V)):List (Key×V):=more.foldl (λacc kv=>putK acc kv.1 kv.2) kvs
theorem KV.merge:∀{more:List (Key×V)} {rs:List (Key×Value)} {kvs:List (Key×V)} {vs:List (Key×Value)},KV more rs→KV kvs vs→KV (bq kvs more) (merged vs rs):=by
 intro more rs kvs vs r;unfold KV at r;induction r generalizing kvs vs with
 | nil=>intro q;exact q
 | @cons p q ps qs h t ih=>
  intro r0;have e:KV (putK kvs p.1 p.2) (stored vs q.1 q.2):=by
   have:=r0.put p.1 h.2;rw[←h.1];exact this
  exact ih e
theorem g6:∀(more kvs:List (Key×V)),(bq kvs more).length≤kvs.length+more.length
 | [],kvs=>by show kvs.length≤kvs.length+0;omega
 | p::r,kvs=>by
  have h1:=g6 r (putK kvs p.1 p.2);have h2:=dj kvs p.1 p.2;show (bq (putK kvs p.1 p.2) r).length≤_
  rw[aai];omega
theorem m8 {P:Program} {w:World}:∀{kvs:List (Key×V)} {ws:List (Value×Value)},VV (kvs.map λkv=>(kV kv.1,kv.2)) ws→∃rs,Carries (bb P w) ws rs∧KV kvs rs
 | [],_,r=>by rw[acn] at r;cases r;exact ⟨[],True.intro,.nil⟩
 | p::kvs,_,r=>by
  rw[aan] at r;cases r with
  | @cons a b as bs h t=>
   obtain ⟨rs,c,q⟩:=m8 (P:=P) (w:=w) t;obtain ⟨b1,b2⟩:=b;exact ⟨(p.1,b2)::rs,⟨ua h.1,rfl,c⟩,.cons ⟨rfl,h.2⟩ q⟩
def tDisp (trs:List (TE×TE)):TE:=λσ H Q=>∀p,H p=none→rd trs σ (upd H p (.dK [])) λps H2=>H2 p=some (.dK [])∧∃kvs:List (Key×V),ps=kvs.map (λkv=>(kV kv.1,kv.2))∧kvs.length≤15∧Q (.ref p) (upd H2 p (.dK (bq [] kvs)))
theorem C5 {X:Cx} {pos:Pos} {keys:List (Option Expr)} {values:List Expr} {trs:List (TE×TE)} (h:PPs X pos keys values trs) (hall:keys.all (·.isSome)=true) (hl:keys.length=values.length) (h0:keys≠[])
  (h15:keys.length≤15):PE X (.Dict keys values pos) (tDisp trs):=by
 intro pins s σ H Q I q;have hn:=I.hok.fresh (aa3 s.heap.objs.size);have I1:=I.laid (a:=s.heap.objs.size) (o:=.dK []) (h':=s.heap.push { cls:=.type "dict",data:=.dict #[] }) (t':=s.toks) (λ_ _ q=>Heap.get?_push_of_some _ q) (aa3 _) (t7 s.heap I.big);refine wpAny_Dict_walk (knd:=bb X.prog X.w) hall hl h0 h15 (thn (h pins _ σ _ _ I1 (q _ hn)) λws s2 ⟨ps,H2,I2,rel,e,kvs,ep,lk,q2⟩=>?_);subst ep;obtain ⟨rs,c,rk⟩:=m8 (P:=X.prog) (w:=X.w) rel;obtain ⟨z,hd,vs0,r0,dd⟩:=dk_of I2.hok e;cases r0
 refine ⟨rs,c,dd,λh' dd' hs=>⟨.ref s.heap.objs.size,_,?_,rfl,q2⟩⟩;have hz:(bq [] kvs).length≤sizeLine:=by
  have h1:=g6 kvs [];rw[abg] at h1;rw[sizeLine_eq];omega
 have he:∃q,h'.get? s.heap.objs.size=some q:=let ⟨q,_,_,hq,_⟩:=dd';⟨q,hq⟩
 exact rn I2 (by rw[e];exact True.intro) hs he (Aw hz hd (rk.merge .nil) dd')
section
variable {κ:Type} [DecidableEq κ]
theorem zp {kvs:List (κ×V)} {k:κ} (h:av kvs k=none):¬k∈kvs.map (·.1):=by
 intro m;obtain ⟨p,hp,e⟩:=List.mem_map.mp m;have q:(kvs.any λkv=>decide (kv.1=k))=true:=List.any_eq_true.mpr ⟨p,hp,decide_eq_true e⟩;rw[df,h] at q;exact absurd q (by simp)
theorem xc:∀{l:List κ} {k:κ},l.Nodup→¬k∈l→(l++[k]).Nodup
 | [],k,_,_=>by simp
 | a::r,k,h,hk=>by
  obtain ⟨h1,h2⟩:=List.nodup_cons.mp h;show (a::(r++[k])).Nodup
  refine List.nodup_cons.mpr ⟨λm=>?_,xc h2 λm=>hk (List.mem_cons.mpr (aa0 m))⟩;rcases List.mem_append.mp m with q | q
  ·exact h1 q
  ·exact hk (List.mem_cons.mpr (aa1 (List.mem_singleton.mp q).symm))
theorem Ek {kvs:List (κ×V)} {k:κ} (v:V) (hn:(kvs.map (·.1)).Nodup) (h:av kvs k=none):((putK kvs k v).map (·.1)).Nodup:=by
 rw[Bj v h,aat];exact xc hn (zp h)
end
theorem lookup_mem {α:Type} {x:Str} {c:α}:∀{l:List (Str×α)},l.lookup x=some c→(x,c)∈l
 | [],h=>by cases h
 | (y,d)::r,h=>by
  rw[ab1] at h;cases e:x==y with
  | true=>
   rw[e] at h;have e':x=y:=eq_of_beq e;cases h
   subst e';exact aa7
  | false=>
   rw[e] at h;exact aad _ (lookup_mem h)
noncomputable def jr (ix:List Nat) (σ:St):St:=ix.map λj=>(σ[j]?).getD none
def SubP (cs:List (Str×Addr)):List (Str×Addr)→Prop
 | []=>True
 | p::r=>cs.lookup p.1=some p.2∧SubP cs r
theorem SubP.of {cs:List (Str×Addr)}:∀{cl:List (Str×Addr)},SubP cs cl→∀p∈cl,cs.lookup p.1=some p.2
 | [],_,_,h=>by cases h
 | p::r,⟨h1,h2⟩,q,hq=>by
  rcases List.mem_cons.mp hq with e | e
  ·rw[e];exact h1
  ·exact SubP.of h2 q e
def tm (X:Cx) (scope:Scope):List Str→List Nat→Prop
 | [],[]=>True
 | x::fr,j::ix=>(X.N[j]?=some x∧X.env.kindOf x=some .cell∧(relabel scope X.env).names.lookup x=some .cell)∧tm X scope fr ix
 | _,_=>False
theorem tm.len {X:Cx} {scope:Scope}:∀{fr:List Str} {ix:List Nat},tm X scope fr ix→fr.length=ix.length
 | [],[],_=>rfl
 | x::fr,j::ix,h=>by rw[aai,aai,tm.len h.2]
 | [],_::_,h=>h.elim
 | _::_,[],h=>h.elim
theorem tm.get {X:Cx} {scope:Scope}:∀{fr:List Str} {ix:List Nat},tm X scope fr ix→∀(k j:Nat),ix[k]?=some j→∃x,fr[k]?=some x∧X.N[j]?=some x∧X.env.kindOf x=some .cell∧(relabel scope X.env).names.lookup x=some .cell
 | [],[],_,k,j,e=>by simp at e
 | x::fr,i::ix,h,0,j,e=>by
  have e':i=j:=by simpa using e
  subst e';exact ⟨x,rfl,h.1⟩
 | x::fr,i::ix,h,k+1,j,e=>by
  obtain ⟨y,hy,r⟩:=tm.get h.2 k j (by simpa using e);exact ⟨y,by simpa using hy,r⟩
 | [],_::_,h,_,_,_=>h.elim
 | _::_,[],h,_,_,_=>h.elim
structure d6 (X:Cx) (scope:Scope) (own fr:List Str) (ix:List Nat) (cl:List (Str×Addr)):Prop where
 clos:closureFor scope X.env=pure cl
 kind:scope.kind=.function
 nocell:(scope.names.all λy=>decide (y.2≠.cell))=true
 names:(scope.names.all λy=>decide (y.2≠.local)||decide (scope.names.lookup y.1=some .local))=true
 sub:SubP X.env.cells cl
 has:((relabel scope X.env).names.all λy=>!(decide (y.2=.cell)||decide (y.2=.free))||(cl.lookup y.1).isSome)=true
 out':tm X scope fr ix
section
variable {X:Cx} {scope:Scope} {own fr:List Str} {ix:List Nat} {cl:List (Str×Addr)}
theorem d6.len (C:d6 X scope own fr ix cl):fr.length=ix.length:=C.out'.len
theorem d6.out (C:d6 X scope own fr ix cl):∀(k j:Nat),ix[k]?=some j→∃x,fr[k]?=some x∧X.N[j]?=some x∧Vis X.env.scope x∧X.env.kindOf x≠some .local∧(relabel scope X.env).names.lookup x≠some .local:=λk j e=>by
 obtain ⟨x,h1,h2,h3,h4⟩:=C.out'.get k j e;exact ⟨x,h1,h2,.inr (.inl h3),(by rw[h3];intro z;cases z),(by rw[h4];intro z;cases z)⟩
theorem d6.wu (C:d6 X scope own fr ix cl):∀x∈scope.names,x.2≠.cell:=λx hx=>of_decide_eq_true (List.all_eq_true.mp C.nocell x hx)
theorem d6.vo (C:d6 X scope own fr ix cl):∀x∈scope.names,x.2=.local→scope.names.lookup x.1=some .local:=λx hx e=>by
 have h:=List.all_eq_true.mp C.names x hx;rw[acx] at h;rcases h with h | h
 ·exact absurd e (of_decide_eq_true h)
 ·exact of_decide_eq_true h
theorem d6.sx (C:d6 X scope own fr ix cl):∀x c,cl.lookup x=some c→X.env.cells.lookup x=some c:=λx c h=>C.sub.of _ (lookup_mem h)
theorem d6.has' (C:d6 X scope own fr ix cl):∀x,((relabel scope X.env).names.lookup x=some .cell∨(relabel scope X.env).names.lookup x=some .free)→∃c,cl.lookup x=some c:=λx hx=>by
 have key:∀k,(relabel scope X.env).names.lookup x=some k→(k=.cell∨k=.free)→∃c,cl.lookup x=some c:=λk e hk=>by
  have h:=List.all_eq_true.mp C.has (x,k) (lookup_mem e);rw[acx] at h;rcases h with h | h
  ·rcases hk with rfl | rfl
   ·simp at h
   ·simp at h
  ·exact Option.isSome_iff_exists.mp h
 rcases hx with h | h
 ·exact key _ h (.inl rfl)
 ·exact key _ h (.inr rfl)
end
noncomputable def cxC (X:Cx) (scope:Scope) (cl:List (Str×Addr)) (ns:List Str) (fp:List Addr) (s:Shared) (H:Hp):Cx where
 prog:=X.prog
 w:=X.w
 K:=X.K
 mg:=X.mg
 base:=X.base
 A:=X.A
 N:=ns
 s₀:=s
 H₀:=H
 env:=compEnvC scope cl s.heap.objs.size X.env
 outer:=X.stack
 stack:=X.stack
 ex:=fp
 fn:=λ_=>false
 calm:=X.calm
 pn:=[]
 xe:=λ_ _=>False
section
variable {X:Cx} {scope:Scope} {own fr:List Str} {ix:List Nat} {cl:List (Str×Addr)} {pins:List (Addr×Obj)} {σ:St} {H:Hp} {s:Shared} {fp:List Addr}
theorem cxC_ok (C:d6 X scope own fr ix cl) (I:Inv X pins σ H s) (f:∀b∈fp,iq X pins H b) (lt:∀b∈fp,b < s.heap.objs.size):(cxC X scope cl (own++fr) fp s H).Ok where
 mod:=I.ok.mod
 kind:=C.kind
 glob:=I.ok.glob
 blt:=I.ok.blt
 above:=aa3 _
 inj:=λx y c h1 h2=>I.ok.inj x y c (C.sx x c h1) (C.sx y c h2)
 has:=λx hx=>C.has' x hx
 cab:=λx c h _=>acq h
 hd:=I.ok.hd
 frames:=I.ok.frames
 stk:=.inl rfl
 exf:=λb hb=>⟨aab (lt b hb),λx c e=>(f b hb).2.2.2.2.1 x c (C.sx x c e)⟩
 bs:=λb o e=>I.bs b o e
 bsz:=aar I.ok.bsz I.sz
 noex:=λb o e hb=>by
  rcases (f b hb).2.2.2.1 with z | z
  ·exact I.ok.noex b o e z
  ·exact absurd (aa6 (Heap.lt_size e) (aar I.ok.bsz z)) (ab3 _)
 exfs:=λb hb z=>by
  rcases List.mem_cons.mp (I.vy b z) with q | q
  ·exact (f b hb).2.1 q
  ·exact (f b hb).2.2.1 q
 jk:=I.stack
 frf:=I.qm
theorem su (C:d6 X scope own fr ix cl) (I:Inv X pins σ H s) (f:∀b∈fp,iq X pins H b) (lt:∀b∈fp,b < s.heap.objs.size) {h₁:Heap} {t:Nat} {m:Str→Option Value}
  (hns:h₁.Ns s.heap.objs.size m) (k:∀b o,s.heap.get? b=some o→h₁.get? b=some o):
  Inv (cxC X scope cl (own++fr) fp s H) [] (ab8 own.length none++jr ix σ) H { s with heap:=h₁,toks:=t } where
 ok:=cxC_ok C I f lt
 os:=rfl
 bare:=I.bare
 base:=Un.kept k
 loc:=⟨m,hns,λi x v e1 e2 e3=>by
  have e1:(own++fr)[i]?=some x:=e1;by_cases hi:i < own.length
  ·rw[aal (by simpa using hi),acs] at e2;rw[if_pos hi] at e2;cases e2
  ·have hi':own.length≤i:=adi hi;rw[aaj (by simpa using hi')] at e2;rw[aaj hi'] at e1;rw[abl] at e2;unfold jr at e2;rw[aag] at e2;cases q:ix[i - own.length]? with
   | none=>rw[q] at e2;cases e2
   | some j=>
    rw[q] at e2;have e2':(σ[j]?).getD none=some v:=aa9 e2;obtain ⟨x',hx',hN,hv,hk,hl'⟩:=C.out _ j q;rw[e1] at hx';cases hx'
    have e4:σ[j]?=some (some v):=by
     cases z:σ[j]? with
     | none=>rw[z] at e2';cases e2'
     | some w=>rw[z] at e2';exact congrArg some e2'
    obtain ⟨mX,hnX,hl⟩:=I.loc;obtain ⟨u,r,l⟩:=hl j x v hN e4 hv;rcases l with ⟨kl,_⟩ | ⟨kk,c,ec,z⟩
    ·exact absurd kl hk
    ·have kY:(relabel scope X.env).names.lookup x=some .cell∨(relabel scope X.env).names.lookup x=some .free:=by
      rcases e3 with e3 | e3 | e3
      ·exact absurd e3 hl'
      ·exact .inl e3
      ·exact .inr e3
     obtain ⟨c',hc'⟩:=C.has' x kY;have hcc:=C.sx x c' hc';rw[ec] at hcc;cases hcc
     obtain ⟨o,ho,hd⟩:=z;exact ⟨u,r,.inr ⟨kY,c,hc',⟨o,k c o ho,hd⟩⟩⟩⟩
 cell:=λx c e=>by
  obtain ⟨v,o,ho,hd⟩:=I.cell x c (C.sx x c e);exact ⟨v,o,k c o ho,hd⟩
 free:=I.hok.fresh (aa3 _)
 freeC:=λx c e=>I.freeC x c (C.sx x c e)
 pin:=λp hp=>by cases hp
 hok:=I.hok.kept k
 len:=by
  show (ab8 own.length none++jr ix σ).length=(own++fr).length
  rw[aa8,aa8,abl,C.len];unfold jr;rw[aa2]
theorem m4 (I:Inv X pins σ H s) (f:∀b∈fp,iq X pins H b) {ns:List Str} {τ:St} {H':Hp} {s':Shared} {pins':List (Addr×Obj)} (J:Inv (cxC X scope cl ns fp s H) pins' τ H' s'):Inv X pins σ H' s':=
 I.Bg (ch:=fp) J.os J.base J.hok J.bare λb hb=>⟨(f b hb).2.2.2.1,(f b hb).2.1,(f b hb).2.2.2.2.1,(f b hb).2.2.2.2.2⟩
theorem ja {σ':St} (I:Inv X pins σ H s) {H':Hp} {s':Shared} {h':Heap} (J:Inv X pins σ' H' s') (free:H' s.heap.objs.size=none) (sb:Heap.SameBut s.heap.objs.size s'.heap h'):Inv X pins σ' H' { s' with heap:=h' }:=
 J.turned (it:=s.heap.objs.size) (t':=s'.toks) (λb o hb e=>(sb.2 b hb).trans e) free (aaw I.lt) (.inr I.sz)
  (λx c e z=>by
   obtain ⟨v,q⟩:=I.cell x c e;exact absurd (z ▸ q.lt) (ab3 _))
  (λp hp z=>absurd (z ▸ Heap.lt_size (I.pin p hp).1) (ab3 _))
end
section
variable {prog:Program} {w:World} {A:Around} {R:Result→Shared→Prop} {s:Shared}
theorem i9 {elt target iter:Expr} {ifs:List Expr} {scope:Scope} {pos:Pos} {it acc:Value} {env:Env} (I:Nat→Shared→Prop)
  (turn:∀n s,I n s→wpAny (model prog w) A (pyNext it) (λr s₁=>match r with
   | none=>R (.ok .next) s₁
   | some v=>wpAny (model prog w) A (letOwnedTupleGo target it v) (λ_ s₁'=>wpAny (model prog w) A (assign target env v) (λ_ s₂=>
     wpAny (model prog w) A (forIn ifs true λc r=>if r=true then do let ok ←isTrue c env (eval c env);pure (ForInStep.yield ok) else pure (ForInStep.yield r)) (λok s₃=>
      if ok=true then wpAny (model prog w) A (eval elt env) (λx s₄=>
       wpAny (model prog w) A (call (.builtin "list.append") [acc,x]) (λ_ s₅=>∃m,m < n∧I m s₅) (notedBy (model prog w) A env λe s'=>R (.error e) s') s₄) (notedBy (model prog w) A env λe s'=>R (.error e) s') s₃
      else ∃m,m < n∧I m s₃) (notedBy (model prog w) A env λe s'=>R (.error e) s') s₂) (notedBy (model prog w) A env λe s'=>R (.error e) s') s₁') (notedBy (model prog w) A env λe s'=>R (.error e) s') s₁)
    (notedBy (model prog w) A env λe s'=>R (.error e) s') s)
  (n:Nat) (h:I n s):
  codeAny (model prog w) A (.compLoop (.ListComp elt [⟨target,iter,ifs,0⟩] scope pos) 0 it acc env) R s:=by
 refine codeAny_loop rfl I (λn s hI=>?_) n h;show wpAny _ A ((compTurn (.ListComp elt [⟨target,iter,ifs,0⟩] scope pos) 0 it acc env).onRaise (λx=>do noteFrame x env;theTreesLotGoes x)) _ _ s
 refine wpAny_noted ?_;rw[compTurn_list];refine wpAny_bind (wpAny_standAt (wpAny_bind (wpAny_mono (turn n s hI) (λr s₁ h₁=>?_) λ_ _ h'=>h')));cases r with
 | none=>exact wpAny_pure h₁
 | some v=>
  refine wpAny_bind (wpAny_mono h₁ (λ_ s₁' h₁'=>?_) λ_ _ h'=>h');refine wpAny_bind (wpAny_mono h₁' (λ_ s₂ h₂=>wpAny_bind (wpAny_mono h₂ (λok s₃ h₃=>?_) λ_ _ h'=>h')) λ_ _ h'=>h');cases ok with
  | false=>exact wpAny_pure ⟨rfl,h₃⟩
  | true=>
   exact wpAny_bind (wpAny_bind (wpAny_mono h₃ (λx s₄ h₄=>wpAny_bind (wpAny_mono h₄ (λ_ s₅ h₅=>wpAny_pure (wpAny_pure ⟨rfl,h₅⟩)) λ_ _ h'=>h')) λ_ _ h'=>h'))
end
def u7 (X:Cx) (ifs:List Expr) (t:TT):Prop:=
 ∀(pins:List (Addr×Obj)) (s:Shared) (σ:St) (H:Hp) (Q:Bool→Hp→Prop),Inv X pins σ H s→t σ H Q→
  wpAny (model X.prog X.w) X.A (forIn ifs true λc r=>if r=true then do let ok ←isTrue c X.env (eval c X.env);pure (ForInStep.yield ok) else pure (ForInStep.yield r)) (TP X pins σ Q) X.xe s
def tNoIf:TT:=λ_ H Q=>Q true H
theorem pif0 {X:Cx}:u7 X [] tNoIf:=λpins s σ H Q I h=>wpAny_tests_nil ⟨H,I,h⟩
theorem pif1 {X:Cx} {c:Expr} {t:TT} (h:PT X c t):u7 X [c] t:=λpins s σ H Q I q=>wpAny_tests_one (h pins s σ H Q I q)
def LC (n:Nat) (fr:St) (g:TG) (tc:TT) (te:TE) (J:It) (D:Addr) (H1:Hp) (Q:Hp→Prop):Prop:=
 ∃W:Nat→Nat→Hp→Prop,(∃m,W 0 m (upd H1 D (.lst [])))∧∀i m H,W i m H→
  (J.stop i H∧Q H)∨(J.go i H∧∀(τ:St) x H',τ.length=n→J.yld i H x H'→g x (τ++fr) H' λσ2 H2=>(∃τ':St,τ'.length=n∧σ2=τ'++fr)∧tc σ2 H2 λb H3=>
   if b=true then te σ2 H3 λy H4=>∃ys,H4 D=some (.lst ys)∧ys.length < sizeLine∧∃m',m' < m∧W (i+1) m' (upd H4 D (.lst (ys++[y]))) else ∃m',m' < m∧W (i+1) m' H3)
def tLC (n:Nat) (ix:List Nat) (wi:TI) (g:TG) (tc:TT) (te:TE):TE:=λσ H Q=>wi σ H λJ H1=>∀D,H1 D=none→LC n (jr ix σ) g tc te J D H1 λH'=>Q (.ref D) H'
section
variable {X:Cx} {scope:Scope} {own fr:List Str} {ix:List Nat} {cl:List (Str×Addr)} {elt iter tg:Expr} {ifs:List Expr} {pos:Pos} {wi:TI} {g:TG} {tc:TT} {te:TE}
theorem lj {E:Value→Shared→Prop} {RR:Value→Addr→Result→Shared→Prop} (C:d6 X scope own fr ix cl) (hc:X.calm=true)
  (hg:∀fp s H,PG (cxC X scope cl (own++fr) fp s H) tg g) (ht:∀fp s H,u7 (cxC X scope cl (own++fr) fp s H) ifs tc) (he:∀fp s H,PE (cxC X scope cl (own++fr) fp s H) elt te)
  {pins:List (Addr×Obj)} {σ:St} {H2:Hp} {s2:Shared} {it:Addr} {fp:List Addr} {tn:Nat→Heap→Prop} {J:It} {Q:Hp→Prop} (I2:Inv X pins σ H2 s2) (T:Turn X.prog X.w X.K tg J fp it tn) (st2:tn 0 s2.heap) (f2:∀b∈fp,iq X pins H2 b)
  (q:LC own.length (jr ix σ) g tc te J s2.heap.objs.size H2 Q)
  (hRR:∀(s3 s':Shared) (H3 H':Hp) (τ:St),Inv X pins σ H3 s3→Inv X pins σ H' s'→H' s3.heap.objs.size=none→(∃m,s'.heap.Ns s3.heap.objs.size m)→Q H'→RR (.ref s2.heap.objs.size) s3.heap.objs.size (.ok .next) s'):
  wpAny (model X.prog X.w) X.A (newList []) (λacc s₃=>wpAny (model X.prog X.w) X.A (newFunctionEnv scope X.env.globals cl [] X.env.qual none .none (some X.env)) (λcenv s₄=>
   codeAny (model X.prog X.w) X.A (.compStart (.ListComp elt [⟨tg,iter,ifs,0⟩] scope pos) 0 (.ref it) acc { cenv with scope:=relabel scope X.env }) (RR acc cenv.locals) s₄) E s₃) E s2:=by
 refine wpAny_newObj_type ?_;have I3:Inv X pins σ (upd H2 s2.heap.objs.size (.lst [])) { s2 with heap:=s2.heap.push { cls:=.type "list",dict:=none,data:=.seq ([]:List Value).toArray } }:=I2.lnew (t':=s2.toks) (its:=[]) .nil (ab0 _);have lt2:∀b∈fp,b < s2.heap.objs.size:=λb hb=>by
  obtain ⟨o,e,_⟩:=T.obj 0 _ st2 b hb;exact Heap.lt_size e
 have fneD:∀b∈fp,b≠s2.heap.objs.size:=λb hb=>aab (lt2 b hb);generalize hs3:({ s2 with heap:=s2.heap.push { cls:=.type "list",dict:=none,data:=.seq ([]:List Value).toArray } }:Shared)=s3 at I3 ⊢;have hsz:s3.heap.objs.size=s2.heap.objs.size+1:=by rw[←hs3];exact Heap.size_push ..
 have kp23:∀b o,s2.heap.get? b=some o→s3.heap.get? b=some o:=λb o e=>by rw[←hs3];exact Heap.get?_push_of_some _ e
 have f3:∀b∈fp,iq X pins (upd H2 s2.heap.objs.size (.lst [])) b:=λb hb=>by
  obtain ⟨f0,fr⟩:=f2 b hb;exact ⟨by rw[ag (fneD b hb)];exact f0,fr⟩
 have lt3:∀b∈fp,b < s3.heap.objs.size:=λb hb=>by rw[hsz];exact ac4 (lt2 b hb)
 refine wpAny_newFunctionEnv C.wu (by intro y hy;simp at hy) (λh₁ hns₁ hsb₁=>?_) C.kind;have k34:∀b o,s3.heap.get? b=some o→h₁.get? b=some o:=λb o e=>
  (hsb₁.2 b (aab (Heap.lt_size e))).trans (Heap.get?_push_of_some _ e)
 have I4:=su C I3 f3 lt3 (t:=s3.toks+([]:List (Str×Value)).length) hns₁ k34;have st4:tn 0 h₁:=T.keep 0 _ _ st2 λb _ o e=>k34 b o (kp23 b o e);obtain ⟨W,⟨m0,w0⟩,turn⟩:=q;have loop:∀s4:Shared,s4={ s3 with heap:=h₁,toks:=s3.toks+([]:List (Str×Value)).length }→
   codeAny (model X.prog X.w) X.A (.compLoop (.ListComp elt [⟨tg,iter,ifs,0⟩] scope pos) 0 (.ref it) (.ref s2.heap.objs.size) (compEnvC scope cl s3.heap.objs.size X.env)) (RR (.ref s2.heap.objs.size) s3.heap.objs.size) s4:=by
  rintro s4 rfl;have stat:∀{H':Hp},(∀b∈fp,H' b=none)→∀b∈fp,iq (cxC X scope cl (own++fr) fp s3 (upd H2 s2.heap.objs.size (.lst []))) [] H' b:=λ{H'} hn b hb=>
   ⟨hn b hb,aab (lt3 b hb),I4.ok.exfs b hb,.inl hb,(I4.ok.exf b hb).2,λp hp=>by cases hp⟩
  refine i9 (λn s'=>∃i τ H',τ.length=own.length∧Inv (cxC X scope cl (own++fr) fp s3 (upd H2 s2.heap.objs.size (.lst []))) [] (τ++jr ix σ) H' s'∧tn i s'.heap∧(∀b∈fp,H' b=none)∧W i n H') ?_ m0
   ⟨0,ab8 own.length none,_,abl,I4,st4,λb hb=>(f3 b hb).1,w0⟩
  rintro n s5 ⟨i,τ,H5,hτ,I5,st5,fr5,w5⟩;rcases turn i n H5 w5 with ⟨stop,qn⟩ | ⟨go,step⟩
  ·refine wpAny_mono (T.done (cxC X scope cl (own++fr) fp s3 (upd H2 s2.heap.objs.size (.lst []))) rfl rfl rfl hc i [] s5 _ H5 (λ_ _=>False) I5 (stat fr5) st5 stop) (λr s6 ⟨hr,I6⟩=>?_) λ_ _ z=>z.elim;subst hr;obtain ⟨mm,hmm,_⟩:=I6.loc;exact hRR s3 s6 _ H5 τ I3 (m4 I3 f3 I6) I6.free ⟨mm,hmm⟩ qn
  ·refine wpAny_mono (T.item (cxC X scope cl (own++fr) fp s3 (upd H2 s2.heap.objs.size (.lst []))) rfl rfl rfl hc i [] s5 _ H5 (λ_ _=>False) I5 (stat fr5) st5 go) (λr s6 ⟨u,hr,h6⟩=>?_) λ_ _ z=>z.elim;subst hr;refine wpAny_mono h6 (λ_ s7 ⟨x,H7,I7,r7,y7,st7,fr7⟩=>?_) λ_ _ z=>z.elim;have I7':=I7.pinned (stat fr7) (T.obj _ _ st7);refine wpAny_mono (hg fp s3 _ _ s7 _ H7 x u _ I7' r7 (step τ x H7 hτ y7)) (λ_ s8 ⟨σ8,H8,I8,⟨τ',hτ',e8⟩,q8⟩=>?_) λ_ _ z=>z.elim;have fin:∀{H9:Hp} {s9:Shared},Inv (cxC X scope cl (own++fr) fp s3 (upd H2 s2.heap.objs.size (.lst []))) ([]++js fp s7.heap) σ8 H9 s9→(∃m',m' < n∧W (i+1) m' H9)→
     ∃m,m < n∧∃i τ H',τ.length=own.length∧Inv (cxC X scope cl (own++fr) fp s3 (upd H2 s2.heap.objs.size (.lst []))) [] (τ++jr ix σ) H' s9∧tn i s9.heap∧(∀b∈fp,H' b=none)∧W i m H':=λ{H9 s9} I9 hw=>by
    obtain ⟨m',hm,w9⟩:=hw;refine ⟨m',hm,i+1,τ',H9,hτ',e8 ▸ I9.ft,T.keep _ _ _ st7 λb hb o e=>(I9.pin (b,o) (aah _ (aah _ (cn hb e)))).1,λb hb=>?_,w9⟩;obtain ⟨o,e,d⟩:=T.obj _ _ st7 b hb;exact (I9.pin (b,o) (aah _ (aah _ (cn hb e)))).2.1
   refine wpAny_mono (ht fp s3 _ _ s8 σ8 H8 _ I8 q8) (λok s9 ⟨H9,I9,q9⟩=>?_) λ_ _ z=>z.elim;cases ok with
   | false=>exact fin I9 q9
   | true=>
    refine wpAny_mono (he fp s3 _ _ s9 σ8 H9 _ I9 q9) (λy s10 ⟨v10,H10,I10,r10,ys,hD,hz,q10⟩=>?_) λ_ _ z=>z.elim;refine wpAny_mono (jx (X:=cxC X scope cl (own++fr) fp s3 (upd H2 s2.heap.objs.size (.lst []))) _ s10 σ8 H10 (.ref s2.heap.objs.size) [v10] _ [y] (λ_ H'=>∃m',m' < n∧W (i+1) m' H') I10 rfl (.cons r10 .nil) ⟨_,ys,v10,rfl,rfl,hD,hz,q10⟩) (λ_ s11 ⟨_,H11,I11,_,q11⟩=>?_) λ_ _ z=>z.elim;exact fin I11 q11
 exact codeAny_compStart_list (loop _ rfl) (T.self _ 0 _ _ _ st4 (loop _ rfl))
theorem pe_lc (C:d6 X scope own fr ix cl) (hc:X.calm=true) (hi:PI X tg iter wi) (hg:∀fp s H,PG (cxC X scope cl (own++fr) fp s H) tg g)
  (ht:∀fp s H,u7 (cxC X scope cl (own++fr) fp s H) ifs tc) (he:∀fp s H,PE (cxC X scope cl (own++fr) fp s H) elt te)
  (hs:∀x,foldedSetIterable iter X.env x=pure x:=by intro _;rfl):PE X (.ListComp elt [⟨tg,iter,ifs,0⟩] scope pos) (tLC own.length ix wi g tc te):=by
 intro pins s σ H Q I h;rw[eval_ListComp];refine wpAny_comprehension_free (use:=none) rfl hs C.clos C.kind C.vo (thn (hi pins s σ H _ I h) λv s1 h1=>thn h1 λitv s2 h2=>?_);obtain ⟨it,fp,tn,J,H2,e,I2,T,st2,f2,q⟩:=h2;subst e;refine lj (RR:=λacc D=>compPost (model X.prog X.w) X.A X.xe none (EP X pins σ Q) acc D) C hc hg ht he I2 T st2 f2 (q _ (I2.hok.fresh (aa3 _))) λs3 s' H3 H' τ I3 I' hn hm q'=>?_;obtain ⟨m,hm⟩:=hm;exact ⟨m,hm,λh' sb=>⟨.ref s2.heap.objs.size,H',ja I3 I' hn sb,rfl,q'⟩⟩
def zq (i n:Nat) (ix:List Nat) (wi:TI) (g:TG) (tc:TT) (te:TE):TS:=λD σ H=>wi σ H λJ H1=>∀l,H1 l=none→LC n (jr ix σ) g tc te J l H1 λH'=>D.nx (σ.set i (some (.ref l))) H'
theorem Ci {i:Nat} {x:Str} {px spos:Pos} (hN:X.N.Nodup) (hx:X.N[i]?=some x) (hl:Loc X.env.scope x) (C:d6 X scope own fr ix cl) (hc:X.calm=true) (hi:PI X tg iter wi)
  (hg:∀fp s H,PG (cxC X scope cl (own++fr) fp s H) tg g) (ht:∀fp s H,u7 (cxC X scope cl (own++fr) fp s H) ifs tc) (he:∀fp s H,PE (cxC X scope cl (own++fr) fp s H) elt te)
  (hsw:swapsWith (.ListComp elt [⟨tg,iter,ifs,0⟩] scope pos) (some (.Name x px)) spos.line X.env=pure true:=by rfl)
  (hs:∀x,foldedSetIterable iter X.env x=pure x:=by intro _;rfl) (hf:X.fn x=true∨X.env.scope.names.lookup x=some .local:=by first | exact .inl rfl | exact .inr rfl | assumption):
  PS X (.Assign [.Name x px] (.ListComp elt [⟨tg,iter,ifs,0⟩] scope pos) spos) (zq i own.length ix wi g tc te):=by
 intro pins s σ H D I h;rw[exec_Assign_Name_used _ _ _ _ hsw];refine wpAny_bind (wpAny_standAt (wpAny_bind ?_));show wpAny _ X.A (do let _ ←comprehension (.ListComp elt [⟨tg,iter,ifs,0⟩] scope pos) scope X.env _ (newList []) false (eval iter X.env) (some (assign (.Name x px) X.env))) _ _ s
 refine wpAny_bind (wpAny_mono (wpAny_comprehension_free (use:=some (assign (.Name x px) X.env)) (Q:=λ_ s'=>SP X pins D .next s') rfl hs C.clos C.kind C.vo
  (thn (hi pins s σ H _ I h) λv s1 h1=>thn h1 λitv s2 h2=>?_)) (λ_ s' hq=>wpAny_pure (wpAny_pure hq)) λ_ _ e=>e)
 obtain ⟨it,fp,tn,J,H2,e,I2,T,st2,f2,q⟩:=h2;subst e;refine lj (RR:=λacc C=>compPost (model X.prog X.w) X.A X.xe (some (assign (.Name x px) X.env)) (λ_ s'=>SP X pins D .next s') acc C) C hc hg ht he I2 T st2 f2 (q _ (I2.hok.fresh (aa3 _))) λs3 s' H3 H' τ I3 I' hn hm q'=>?_;obtain ⟨m,hm⟩:=hm;show wpAny _ X.A (assign (.Name x px) X.env (.ref s2.heap.objs.size)) _ _ _
 refine wpAny_assign_Name (oy I' hN hx hl (v:=.ref s2.heap.objs.size) rfl (λs'' I'' hsb=>?_) hf);obtain ⟨a,sba,ha⟩:=hsb;have hne:s3.heap.objs.size≠a:=by
  rcases ha with rfl | ha
  ·exact aaw I3.lt
  ·obtain ⟨v,qv⟩:=I3.cell x a ha;exact aaw qv.lt
 exact ⟨m,hm.sameBut sba hne,λh' sb=>⟨_,H',ja I3 I'' hn sb,q'⟩⟩
end
noncomputable def Its (z:Str):It:=⟨λi _=>i < z.cps.size,λi H x H'=>H'=H∧∃c,z.cps[i]?=some c∧x=.str ⟨#[c]⟩,λi _=>i=z.cps.size⟩
def iStr (tl:TE):TI:=λσ H R=>tl σ H λx H1=>∃z,x=.str z∧R (Its z) H1
noncomputable def wb (z:Str) (lo hi:Option Int):Str:=⟨((z.cps.toList.drop (HT.sIx z.length 0 lo)).take (HT.sIx z.length z.length hi - HT.sIx z.length 0 lo)).toArray⟩
theorem qy (z:Str) (lo hi:Option Int):(wb z lo hi).length≤z.length:=by
 show ((z.cps.toList.drop _).take _).toArray.size≤z.cps.size
 rw[aa5,aaf,aax,aae];omega
theorem Dc (n:Nat) (lo:Option Int):(match lo with | none=>(0:Int) | some i=>max 0 (min (if i < 0 then i+(n:Int) else i) n))=((HT.sIx n 0 lo:Nat):Int):=by
 cases lo with
 | none=>rfl
 | some i=>
  show max 0 (min (if i < 0 then i+(n:Int) else i) n)=((HT.sIx n 0 (some i):Nat):Int)
  unfold HT.sIx;by_cases h:i < 0
  ·simp only[h,if_true] <;> omega
  ·simp only[h,if_false] <;> omega
theorem Eb (n:Nat) (hi:Option Int):(match hi with | none=>(n:Int) | some i=>max 0 (min (if i < 0 then i+(n:Int) else i) n))=((HT.sIx n n hi:Nat):Int):=by
 cases hi with
 | none=>rfl
 | some i=>
  show max 0 (min (if i < 0 then i+(n:Int) else i) n)=((HT.sIx n n (some i):Nat):Int)
  unfold HT.sIx;by_cases h:i < 0
  ·simp only[h,if_true] <;> omega
  ·simp only[h,if_false] <;> omega
theorem jf (lo hi:Option Int) (n:Nat):Builtin.Str.strSliceIndices lo hi 1 n=(aaq (HT.sIx n n hi - HT.sIx n 0 lo)).map (HT.sIx n 0 lo+·):=by
 have e:Builtin.Str.strSliceIndices lo hi 1 n=sliceRange (match lo with | none=>(0:Int) | some i=>max 0 (min (if i < 0 then i+(n:Int) else i) n)) (match hi with | none=>(n:Int) | some i=>max 0 (min (if i < 0 then i+(n:Int) else i) n)) 1:=by
  cases lo <;> cases hi <;> rfl
 rw[e,Dc n lo,Eb n hi,sliceRange_one]
theorem yw (z:Str) (lo hi:Option Int):(⟨((Builtin.Str.strSliceIndices lo hi 1 z.length).filterMap (z.cps[·]?)).toArray⟩:Str)=wb z lo hi:=by
 rw[jf,pick_run];rfl
theorem vn (z:Str) (lo hi:Option Int) (h:(Builtin.Str.strSliceIndices lo hi 1 z.length).length=z.length):wb z lo hi=z:=by
 rw[jf,aa2,aau] at h;have h1:HT.sIx z.length 0 lo≤z.length:=HT.vf _ _ (ab0 _) lo;have h2:HT.sIx z.length z.length hi≤z.length:=HT.vf _ _ (aa3 _) hi;unfold wb;by_cases h0:z.length=0
 ·have e0:z.cps.toList=[]:=by
   apply ab7
   rw[aae];exact h0
  rw[e0];have e1:z.cps=#[]:=by
   apply acb
   exact h0
  cases z with
  | mk c=>cases e1;simp
 ·have a:HT.sIx z.length 0 lo=0:=by omega
  have b:HT.sIx z.length z.length hi=z.length:=by omega
  rw[a,b,ad1,ad7];have e:z.cps.toList.take z.length=z.cps.toList:=by
   apply abm
   rw[aae];exact aa3 _
  rw[e]
section
variable {X:Cx}
def rSlS:V→Option Int→Option Int→Hp→VK→Prop:=λx lo hi H Q=>∃z,x=.str z∧z.length≤sizeLine∧Q (.str (wb z lo hi)) H
theorem part_of {v:Value} {o:Option Int} (p:IsPart v o):∃l:Option (Int×Tok),partValue l=v∧l.map (·.1)=o:=by
 cases p with
 | none=>exact ⟨none,rfl,rfl⟩
 | int i t=>exact ⟨some (i,t),rfl,rfl⟩
theorem zy:SlR X rSlS:=by
 intro pins s σ H x v vl vu lo hi sl Q I rx hs pl pu h;obtain ⟨z,rfl,hz,q⟩:=h;obtain ⟨t,rfl⟩:=rx;obtain ⟨l,el,e1⟩:=part_of pl;obtain ⟨u,eu,e2⟩:=part_of pu;subst el eu e1 e2;refine ⟨"str",_,F.slot_str_getitem.lookup,typeIs_str s z t,wpAny_getItem_str_slice (l:=l) (u:=u) (st:=none) hs rfl ?_⟩;unfold sliceMade slicePicked;by_cases c:(((none:Option (Int×Tok)).map (·.1)).getD 1==1&&(Builtin.Str.strSliceIndices (l.map (·.1)) (u.map (·.1)) (((none:Option (Int×Tok)).map (·.1)).getD 1) z.length).length==z.length)=true
 ·rw[if_pos c];rw[abj] at c;have c2:(Builtin.Str.strSliceIndices (l.map (·.1)) (u.map (·.1)) 1 z.length).length=z.length:=eq_of_beq c.2;have e:=vn z _ _ c2;rw[e] at q;exact ⟨.str z,H,I,⟨t,rfl⟩,q⟩
 ·rw[if_neg c];have e:=yw z (l.map (·.1)) (u.map (·.1));show ((⟨((Builtin.Str.strSliceIndices (l.map (·.1)) (u.map (·.1)) 1 z.length).filterMap (z.cps[·]?)).toArray⟩:Str).length≤sizeLine∧EP X pins σ Q (.str ⟨((Builtin.Str.strSliceIndices (l.map (·.1)) (u.map (·.1)) 1 z.length).filterMap (z.cps[·]?)).toArray⟩ s.toks) { s with toks:=s.toks+1 })
  rw[e];exact ⟨aar (qy z _ _) hz,⟨.str _,H,I.tok _,⟨_,rfl⟩,q⟩⟩
noncomputable def t5 (z:Str) (n:Nat):Str:=⟨(ab8 n z.cps.toList).flatten.toArray⟩
theorem o7 (x:List Nat):∀(n:Nat) (acc:Array Nat),(ab8 n x.toArray).foldl (·++·) acc=acc++(ab8 n x).flatten.toArray
 | 0,acc=>by simp
 | n+1,acc=>by
  rw[ad6,acy,o7 x n,ad6,List.flatten_cons];apply Array.toList_inj.mp
  simp
theorem De (z:Str) (n:Int) (h:0≤n):Txt.mul z n=t5 z n.toNat:=by
 unfold Txt.mul t5;by_cases h1:n < 1
 ·rw[if_pos h1];have e:n.toNat=0:=by omega
  rw[e];rfl
 ·rw[if_neg h1];by_cases h2:(n==1||z.length==0)=true
  ·rw[if_pos h2];rw[acx] at h2;rcases h2 with h2 | h2
   ·have e:n=1:=eq_of_beq h2;subst e;show z=⟨(ab8 1 z.cps.toList).flatten.toArray⟩
    simp
   ·have e:z.length=0:=eq_of_beq h2;have e0:z.cps=#[]:=acb e;cases z with
    | mk c=>cases e0;simp
  ·rw[if_neg h2];have e:=o7 z.cps.toList n.toNat #[];have e3:z.cps.toList.toArray=z.cps:=by simp
   rw[e3] at e;rw[e];simp
theorem um:OpR X (binaryOp .Mult) (λx y H Q=>∃z n,x=.str z∧y=.int n∧0≤n∧n≤1000∧z.length≤1000∧Q (.str (t5 z n.toNat)) H):=by
 intro pins s σ H x y v u Q I rx ry h;obtain ⟨z,n,rfl,rfl,h0,h1,h2,q⟩:=h;obtain ⟨t,rfl⟩:=rx;obtain ⟨t',rfl⟩:=ry;have hb:z.length*n.toNat≤1000*1000:=Nat.mul_le_mul h2 (by omega);refine SB.mul ⟨by rw[Bool.or_eq_false_iff];exact ⟨decide_eq_false (by omega),decide_eq_false (by omega)⟩,λhn1 _=>?_,λ_ _=>?_⟩ λt' k=>⟨.str _,H,I.tok _,⟨_,rfl⟩,by rw[De z n h0];exact q⟩
 ·have hp:0 < n:=by omega
  have h3:(z.length:Int)*n≤1000*n:=Int.mul_le_mul_of_nonneg_right (by omega) h0;have h4:(z.length:Int)≤(2 ^ 63 - 1) / n:=Int.le_ediv_of_mul_le hp (by omega);omega
 ·unfold Builtin.Str.tooLong;exact decide_eq_false (by have:=sizeLine_eq;omega)
theorem ma:∀{ys:List Str} {us:List Value},Vals (ys.map V.str) us→StrsAre us ys
 | [],_,.nil=>.nil
 | y::ys,u::us,.cons r t=>by
  obtain ⟨t',rfl⟩:=r;exact .cons _ _ (ma t)
theorem Dz:MtR X "str.join" (λx xs H Q=>∃sep p ys,x=.str sep∧xs=[.ref p]∧SqL X.K H p (ac7 V.str ys)∧(ys.map (·.length)).sum+ys.length*sep.length≤1000000∧Q (.str (Txt.join sep ys)) H):=by
 intro pins s σ H x xs v us Q I rx rv h;obtain ⟨sep,p,ys,rfl,rfl,hq,hb,q⟩:=h;obtain ⟨t,rfl⟩:=rx;obtain ⟨u,rfl,ru⟩:=rv.one;cases ru
 obtain ⟨its,r,pl,hz⟩:=I.list hq;exact join_list pl.isList (by simpa using ma r) (by omega) λt' k=>⟨.str _,H,I.tok _,⟨_,rfl⟩,q⟩
theorem j0:d0 X (.builtin "isinstance") (λxs H Q=>∃x n t b,xs=[x,.ty n]∧jo X.K H x t∧PySem.W.kitOne X.K t (.type n)=some b∧Q (.bl b) H):=by
 intro pins s σ H xs us Q I r h;obtain ⟨x,n,t,b,rfl,ty,e,q⟩:=h;obtain ⟨u,u2,rfl,r1,r2⟩:=vals2 r;cases (show u2=Value.type n from r2)
 exact yz I r1 ty e λtk=>⟨.bl b,H,I.tok tk,rfl,q⟩
end
theorem ae {H:Hp} {p:Addr} (h:H p=none) (o:HO):ah H (upd H p o):=λb u q=>by rw[ag (aj q h)];exact q
theorem ah.upd {H H':Hp} {p:Addr} (e:ah H H') (h:H p=none) (o:HO):ah H (L2.upd H' p o):=λb u q=>by rw[ag (aj q h)];exact e b u q
theorem ah.tup {K:PySem.W.Frag} {H H':Hp} {a:Addr} {xs:List V} (e:ah H H') (h:SqT K H a xs):SqT K H' a xs:=by
 rcases h with (h | ⟨o,h⟩) | h
 ·exact .inl (.inl (e _ _ h))
 ·exact .inl (.inr ⟨o,e _ _ h⟩)
 ·exact .inr h
def Has (P:Program) (w:World) (K:PySem.W.Frag) (mg:Str→Option Value) (base:Heap) (k:Nat) (x:Str) (ps:List Str) (sp:Sp):Prop:=
 ∃(f:Addr) (fd:FuncData),cx P w K mg base CX0 k f fd ps sp∧Binds K fd ps []∧PySem.W.keepIn K (.ref f)=true∧mg x=some (.ref f)
theorem Has.up {P:Program} {w:World} {K:PySem.W.Frag} {mg:Str→Option Value} {base:Heap} {j k:Nat} {x:Str} {ps:List Str} {sp:Sp} (h:Has P w K mg base j x ps sp) (l:j≤k):Has P w K mg base k x ps sp:=by
 obtain ⟨f,fd,F,r⟩:=h;exact ⟨f,fd,F.mono l,r⟩
def Def (K:PySem.W.Frag) (mg:Str→Option Value) (x:Str) (st:Stmt) (ps:List Str):Prop:=
 ∃(f:Addr) (fd:FuncData),Fun K x x st f fd∧Binds K fd ps []∧mg x=some (.ref f)
theorem Def.has {P:Program} {w:World} {K:PySem.W.Frag} {mg:Str→Option Value} {base:Heap} {k:Nat} {x:Str} {st:Stmt} {N ps:List Str} {sp:Sp} (D:Def K mg x st ps) (S:ao N ps (af st)) (len:∀vs H Q E,sp vs H Q E→vs.length=ps.length)
  (hbody:∀(f:Addr) (cdv:Value) (A:Around) (outer:List Env) (s:Shared) (H:Hp) (vs:List V) (Q:VK) (E:XK),br k (A.deeper (envOfC x (af st) s.heap.objs.size f cdv))→sp vs H Q E→
   ∃t,PSs (ik CX0 P w K mg base N x (af st) f cdv A outer s H E).nox (ak st) t∧t { nx:=λ_ H'=>Q .non H',rt:=Q } (start N vs) H):Has P w K mg base (k+1) x ps sp:=by
 obtain ⟨f,fd,F,b,m⟩:=D;exact ⟨f,fd,F.ok S len λcdv A outer s H vs Q E hr h=>hbody f cdv A outer s H vs Q E hr h,b,F.kp,m⟩
section
variable {X:Cx} {k:Nat} {ps:List Str} {sp:Sp} {x:Str} {p pos:Pos} {e:Expr} {es:List Expr} {t:TA}
theorem pe_has (h:Has X.prog X.w X.K X.mg X.base k x ps sp) (hr:br k X.A) (ha:PA X (e::es) t) (hg:Gl X x:=by rfl) (hdb:(x==("__debug__":Str))=false:=by decide+kernel)
  (he:starEach (e::es) X.env=(false,eval e X.env)::starEach es X.env:=by rfl) (hpl:(backTo pos (starEach es X.env)).any (·.1)=false:=by rfl):
  PE X (.Call (.Name x p) (e::es) [] pos) (m6 sp [] E0 t):=by
 obtain ⟨f,fd,F,b,kp,m⟩:=h;exact rh F hr hg m kp b .nil pass0 ha hdb he hpl
end
theorem v7 {J:It} {fr:St} {tc:TT} {te:TE} {D:Addr} {H1:Hp} {Q:Hp→Prop} (n:Nat) (item:Nat→V) (P:Nat→List V→Prop) (hn:n < sizeLine) (hD:H1 D=none)
  (hgo:∀i H,i < n→ah H1 H→J.go i H) (hyld:∀i H x H',i < n→ah H1 H→J.yld i H x H'→H'=H∧x=item i) (hstop:∀H,ah H1 H→J.stop n H)
  (h0:P 0 [])
  (step:∀i ys H (G:Hp→Prop) (K':V→Hp→Prop),i < n→P i ys→ys.length≤i→ah H1 H→(∀H3,ah H H3→P (i+1) ys→G H3)→(∀y H4,ah H H4→P (i+1) (ys++[y])→K' y H4)→tc ([some (item i)]++fr) H λb H3=>if b=true then te ([some (item i)]++fr) H3 K' else G H3)
  (done:∀ys H,P n ys→ys.length≤n→ah H1 H→H D=some (.lst ys)→Q H):LC 1 fr (lr 0) tc te J D H1 Q:=by
 refine ⟨λi m H=>m=n - i∧i≤n∧∃ys,H D=some (.lst ys)∧P i ys∧ys.length≤i∧ah H1 H,⟨n,by simp,ab0 _,[],aa,h0,aa3 _,ae hD _⟩,?_⟩;rintro i m H ⟨rfl,hi,ys,hys,hP,hl,hS⟩;by_cases hlt:i < n
 ·refine .inr ⟨hgo i H hlt hS,λτ x H' hτ hy=>?_⟩;obtain ⟨e1,e2⟩:=hyld i H x H' hlt hS hy;subst e1 e2;obtain ⟨a,rfl⟩:∃a,τ=[a]:=List.length_eq_one_iff.mp hτ;refine ⟨⟨[some (item i)],rfl,rfl⟩,step i ys H' (λH3=>∃m',m' < n - i∧m'=n - (i+1)∧i+1≤n∧∃ys,H3 D=some (.lst ys)∧P (i+1) ys∧ys.length≤i+1∧ah H1 H3)
   (λy H4=>∃zs,H4 D=some (.lst zs)∧zs.length < sizeLine∧∃m',m' < n - i∧m'=n - (i+1)∧i+1≤n∧∃ys,upd H4 D (.lst (zs++[y])) D=some (.lst ys)∧P (i+1) ys∧ys.length≤i+1∧ah H1 (upd H4 D (.lst (zs++[y])))) hlt hP hl hS (λH3 q1 q2=>?_) (λy H4 q1 q2=>?_)⟩
  ·exact ⟨n - (i+1),by omega,rfl,hlt,ys,q1 _ _ hys,q2,Nat.le_succ_of_le hl,hS.trans q1⟩
  ·refine ⟨ys,q1 _ _ hys,by omega,n - (i+1),by omega,rfl,hlt,ys++[y],aa,q2,?_,(hS.trans q1).upd hD _⟩;rw[aa8,aay];omega
 ·have e:i=n:=by omega
  subst e;exact .inl ⟨hstop H hS,done ys H hP hl hS hys⟩
theorem kd {K:PySem.W.Frag} {a:Addr} {xs:List V} {fr:St} {tc:TT} {te:TE} {D:Addr} {H1:Hp} {Q:Hp→Prop} (P:Nat→List V→Prop) (hS:SqL K H1 a xs) (hn:xs.length < sizeLine) (hD:H1 D=none) (h0:P 0 [])
  (step:∀i x ys H (G:Hp→Prop) (K':V→Hp→Prop),xs[i]?=some x→P i ys→ys.length≤i→ah H1 H→(∀H3,ah H H3→P (i+1) ys→G H3)→(∀y H4,ah H H4→P (i+1) (ys++[y])→K' y H4)→tc ([some x]++fr) H λb H3=>if b=true then te ([some x]++fr) H3 K' else G H3)
  (done:∀ys H,P xs.length ys→ys.length≤xs.length→ah H1 H→H D=some (.lst ys)→Q H):LC 1 fr (lr 0) tc te (Itl K a) D H1 Q:=by
 have at':∀i,i < xs.length→xs[i]?=some (xs.getD i .non):=λi hi=>by
  rw[abu,aa4 hi];rfl
 exact v7 xs.length (λi=>xs.getD i .non) P hn hD (λi H hi hs=>⟨xs,_,hs.seq hS,at' i hi⟩)
  (λi H x H' hi hs hy=>⟨hy.1,aa9 ((hy.2 xs (hs.seq hS)).symm.trans (at' i hi))⟩) (λH hs=>⟨xs,hs.seq hS,aa3 _⟩) h0
  (λi ys H G K' hi hp hl hs hG hK=>step i _ ys H G K' (at' i hi) hp hl hs hG hK) done
theorem lc_tup {K:PySem.W.Frag} {a:Addr} {xs:List V} {fr:St} {tc:TT} {te:TE} {D:Addr} {H1:Hp} {Q:Hp→Prop} (P:Nat→List V→Prop) (hS:SqT K H1 a xs) (hn:xs.length < sizeLine) (hD:H1 D=none) (h0:P 0 [])
  (step:∀i x ys H (G:Hp→Prop) (K':V→Hp→Prop),xs[i]?=some x→P i ys→ys.length≤i→ah H1 H→(∀H3,ah H H3→P (i+1) ys→G H3)→(∀y H4,ah H H4→P (i+1) (ys++[y])→K' y H4)→tc ([some x]++fr) H λb H3=>if b=true then te ([some x]++fr) H3 K' else G H3)
  (done:∀ys H,P xs.length ys→ys.length≤xs.length→ah H1 H→H D=some (.lst ys)→Q H):LC 1 fr (lr 0) tc te (Itt K a) D H1 Q:=by
 have at':∀i,i < xs.length→xs[i]?=some (xs.getD i .non):=λi hi=>by
  rw[abu,aa4 hi];rfl
 exact v7 xs.length (λi=>xs.getD i .non) P hn hD (λi H hi hs=>⟨xs,_,hs.tup hS,at' i hi⟩)
  (λi H x H' hi hs hy=>⟨hy.1,aa9 ((hy.2 xs (hs.tup hS)).symm.trans (at' i hi))⟩) (λH hs=>⟨xs,hs.tup hS,aa3 _⟩) h0
  (λi ys H G K' hi hp hl hs hG hK=>step i _ ys H G K' (at' i hi) hp hl hs hG hK) done
theorem ud {lo:Int} {n:Nat} {fr:St} {tc:TT} {te:TE} {D:Addr} {H1:Hp} {Q:Hp→Prop} (P:Nat→List V→Prop) (hn:n < sizeLine) (hD:H1 D=none) (h0:P 0 [])
  (step:∀(i:Nat) ys H (G:Hp→Prop) (K':V→Hp→Prop),i < n→P i ys→ys.length≤i→ah H1 H→(∀H3,ah H H3→P (i+1) ys→G H3)→(∀y H4,ah H H4→P (i+1) (ys++[y])→K' y H4)→tc ([some (.int (lo+i))]++fr) H λb H3=>if b=true then te ([some (.int (lo+i))]++fr) H3 K' else G H3)
  (done:∀ys H,P n ys→ys.length≤n→ah H1 H→H D=some (.lst ys)→Q H):LC 1 fr (lr 0) tc te (Itr lo n) D H1 Q:=
 v7 n (λi=>.int (lo+i)) P hn hD (λi H hi _=>hi) (λi H x H' hi hs hy=>hy) (λH hs=>aa3 _) h0 step done
section
variable {X:Cx} {x:Str} {pos:Pos}
theorem En {a:Addr} (hm:X.mg x=some (.ref a)) (hg:Gl X x:=by rfl) (hd:(x==("__debug__":Str))=false:=by decide+kernel):PE X (.Name x pos) (tC (.ref a)):=Cv hg hm rfl hd
theorem pe_gty {T:String} (hm:X.mg x=none) (hv:bootBuiltins x=some (.type T)) (hg:Gl X x:=by rfl) (hn:x≠"__name__":=by decide+kernel) (hd:(x==("__debug__":Str))=false:=by decide+kernel):PE X (.Name x pos) (tC (.ty T)):=Et hg hm hv rfl hn hd
end
theorem i4:bootBuiltins "len"=some (.builtin "len"):=by decide+kernel
theorem aw:bootBuiltins "isinstance"=some (.builtin "isinstance"):=by decide+kernel
theorem b_int:bootBuiltins "int"=some (.type "int"):=by decide+kernel
theorem b_str:bootBuiltins "str"=some (.type "str"):=by decide+kernel
theorem vz:bootBuiltins "list"=some (.type "list"):=by decide+kernel
theorem ux:bootBuiltins "dict"=some (.type "dict"):=by decide+kernel
theorem sr:bootBuiltins "sorted"=some (.builtin "sorted"):=by decide+kernel
theorem cxOf_K {CX:CXT} {P:Program} {w:World} {K:PySem.W.Frag} {mg:Str→Option Value} {base:Heap} {N:List Str} {qual:Str} {scope:Scope} {f:Addr} {cd:Value} {A:Around} {outer:List Env} {s:Shared} {H:Hp} {E:XK}:(ik CX P w K mg base N qual scope f cd A outer s H E).K=K:=rfl
theorem nox_K {X:Cx}:X.nox.K=X.K:=rfl
inductive je:List Expr→List V→Prop where
 | nil:je [] []
 | str {x:Str} {j:Nat} {pos:Pos} {es:List Expr} {vs:List V} (h:je es vs):je (.Constant (.str x) j pos::es) (.str x::vs)
 | int {i:Int} {j:Nat} {pos:Pos} {es:List Expr} {vs:List V} (h:je es vs):je (.Constant (.int i) j pos::es) (.int i::vs)
def tVals (vs:List V):TA:=λ_ H Q=>Q vs H
theorem Cb {X:Cx} {es:List Expr} {vs:List V} (h:je es vs):PA X es (tVals vs):=by
 induction h with
 | nil=>exact dw
 | str _ ih=>exact ba zx ih
 | int _ ih=>exact ba Bf ih
def ForW (g:TG) (tb:TS) (D:Ends) (J:It) (σ:St) (H1:Hp):Prop:=∃W:Nat→Nat→St→Hp→Prop,(∃m,W 0 m σ H1)∧∀i m σ H,W i m σ H→
 (J.stop i H∧D.nx σ H)∨(J.go i H∧∃N:St→Hp→Prop,(∀σ' H',N σ' H'→∃m',m' < m∧W (i+1) m' σ' H')∧∀x H',J.yld i H x H'→g x σ H' λσ2 H2=>tb { D with nx:=N,ct:=N,bk:=D.nx } σ2 H2)
theorem Ej (wi:TI) (g:TG) (tb:TS) (D:Ends) (σ:St) (H:Hp):tFor wi g tb D σ H=wi σ H λJ H1=>ForW g tb D J σ H1:=rfl
section
variable {K:PySem.W.Frag} {a:Addr} {xs:List V} {g:TG} {tb:TS} {D:Ends} {σ:St} {H:Hp}
theorem gg (Pv:Nat→St→Hp→Prop) (h0:Pv 0 σ H) (hl:∀i σ H,i≤xs.length→Pv i σ H→SqL K H a xs)
  (hs:∀i x σ H,xs[i]?=some x→Pv i σ H→g x σ H λσ2 H2=>tb { D with nx:=Pv (i+1),ct:=Pv (i+1),bk:=D.nx } σ2 H2) (hd:∀σ H,Pv xs.length σ H→D.nx σ H):ForW g tb D (Itl K a) σ H:=Ac Pv h0 hl hs hd
theorem uy {lo:Int} {n:Nat} (Pv:Nat→St→Hp→Prop) (h0:Pv 0 σ H)
  (hs:∀i σ H,i < n→Pv i σ H→g (.int (lo+i)) σ H λσ2 H2=>tb { D with nx:=Pv (i+1),ct:=Pv (i+1),bk:=D.nx } σ2 H2) (hd:∀σ H,Pv n σ H→D.nx σ H):ForW g tb D (Itr lo n) σ H:=yi Pv h0 hs hd
end
section
variable {X:Cx} (K:PySem.W.Frag) (hK:X.K=K)
include hK
theorem sd:IxR X (rIxL K):=by subst hK;exact xh
theorem Er:IxR X (rIxT K):=by subst hK;exact eh
theorem u6:OpR X (compareOp .In) (rIn K false):=by subst hK;exact yq
theorem nc:OpR X (compareOp .NotIn) (rIn K true):=by subst hK;exact qa
end
def tMid (t u:TS):TS:=λD σ H=>∃M:St→Hp→Prop,t { D with nx:=M } σ H∧∀σ' H',M σ' H'→u D σ' H'
theorem Cr {t u:TS} {D:Ends} {σ:St} {H:Hp} (M:St→Hp→Prop) (h1:t { D with nx:=M } σ H) (h2:∀σ' H',M σ' H'→u D σ' H'):tMid t u D σ H:=⟨M,h1,h2⟩
section
variable {X:Cx} {st:Stmt} {rest:List Stmt} {t u:TS}
theorem Ea (h1:PS X st t) (h2:PSs X rest u):PSs X (st::rest) (tMid t u):=by
 intro pins s σ H D I h;obtain ⟨M,h,hM⟩:=h;refine wpAny_execs_cons (thn (h1 pins s σ H { D with nx:=M } I h) λf s1 q=>?_);cases f with
 | next=>
  obtain ⟨σ',H',I',q⟩:=q;exact h2 pins s1 σ' H' D I' (hM σ' H' q)
 | ret v=>exact q
 | brk=>exact q
 | cont=>exact q
end
theorem Dl {K:PySem.W.Frag} {z:Str} {H:Hp}:tyV K "str" (.str z) H=True:=eq_true rfl
theorem zu {K:PySem.W.Frag} {a:Addr} {xs:List V} {H:Hp} (h:H a=some (.lst xs)):tyV K "list" (.ref a) H:=.inl ⟨rfl,xs,SqL.of h⟩
theorem bw {K:PySem.W.Frag} {H:Hp} {t:Addr} {xs:List V} {i:Int} {v:V} {Q:VK} (h:H t=some (.tup xs)) (hv:atI xs i=some v) (q:Q v H):rIxT K (.ref t) (.int i) H Q:=⟨t,xs,i,v,rfl,rfl,SqT.of h,hv,q⟩
theorem ar {K:PySem.W.Frag} {H:Hp} {t:Addr} {xs:List V} {i:Int} {v:V} {Q:VK} (h:H t=some (.lst xs)) (hv:atI xs i=some v) (q:Q v H):rIxL K (.ref t) (.int i) H Q:=⟨t,xs,i,v,rfl,rfl,SqL.of h,hv,q⟩
theorem gc {H:Hp} {a b:Addr} {xs ys:List V} {Q:VK} (h1:H a=some (.lst xs)) (h2:H b=some (.lst ys)) (hz:xs.length+ys.length≤sizeLine) (q:∀p,H p=none→Q (.ref p) (upd H p (.lst (xs++ys)))):rCat (.ref a) (.ref b) H Q:=⟨a,b,xs,ys,rfl,rfl,h1,h2,hz,q⟩
end L2
namespace HT
open PySem PySem.Spec PyProof.Rows L2
section
variable {prog:Program} {w:World} {A:Around} {E:Value→Shared→Prop} {s:Shared}
theorem gi {t sl:Addr} {items:Array Value} {vl vu:Value} {lo hi:Option Int} {Q:Value→Shared→Prop} (ht:IsTup s.heap t items) (hs:s.heap.IsSliceOf sl vl vu .none) (pl:IsPart vl lo) (pu:IsPart vu hi)
  (hw:sIx items.size 0 lo=0∧sIx items.size items.size hi=items.size) (h:Q (.ref t) s) (hsz:items.size≤sizeLine):wpAny (model prog w) A (getItem (.ref t) (.ref sl)) Q E s:=by
 obtain ⟨os,hos,hcs,hds⟩:=id hs;have hTs:s.TypeIs (.ref sl) "slice":=⟨os,hos,hcs⟩;unfold getItem;try with_reducible refine wpAny_holding ?_
 first | refine wpAny_bind (wpAny_pure ?_) | skip
 refine wpAny_bind (wpAny_sequenceKey ht.typeIs (by decide) ?_);refine wpAny_bind (wpAny_callSpecial?_slot (name:=Str.ofString "__getitem__") ht.typeIs PyProof.Rows.slot_tuple_getitem
  (wpAny_call_entry PyProof.Rows.slot_tuple_getitem ht.typeIs entry_tuple_getitem ?_ (args_tuple_getitem _ _)))
 show wpAny _ _ (Builtin.Tuple.tupleItemsOf (.ref t) >>=_) _ _ s
 refine wpAny_bind (tupleItemsOf_ ht ?_);refine wpAny_bind (wpAny_typeOf hTs ?_);rw[if_pos (by decide)];refine wpAny_bind (d7 hs pl pu ?_);have hyes:((((sIx items.size 0 lo:Nat):Int)==0&&(1:Int)==1&&(sIx items.size items.size hi - sIx items.size 0 lo)==items.size)=true):=by
  rw[hw.1,hw.2];simp
 show wpAny _ _ (if (((sIx items.size 0 lo:Nat):Int)==0&&(1:Int)==1&&(sIx items.size items.size hi - sIx items.size 0 lo)==items.size)=true then _ else _) _ _ s
 rw[if_pos hyes];refine wpAny_bind ?_;show wpAny _ _ (typeOf (.ref t) >>=λv=>pure (v==.type "tuple")) _ _ s
 refine wpAny_bind (wpAny_typeOf ht.typeIs (wpAny_pure ?_));rw[if_pos (by decide)];refine wpAny_bind (wpAny_rule ?_);first
  | exact wpAny_bind (wpAny_pure (wpAny_pure ⟨_,rfl,wpAny_pure h⟩))
  | exact wpAny_pure ⟨_,rfl,wpAny_pure h⟩
  | exact wpAny_bind (wpAny_pure ⟨_,rfl,wpAny_pure h⟩)
end
end HT
namespace L2
open PySem PySem.Spec PyProof.Rows
section
variable {X:Cx}
def rSlU:V→Option Int→Option Int→Hp→VK→Prop:=λx lo hi H Q=>∃a xs,x=.ref a∧H a=some (.tup xs)∧∀p H',ah H H'→H' p=some (.tup (fj xs lo hi))→Q (.ref p) H'
theorem Ax {xs:List V} {lo hi:Option Int} (h:HT.sIx xs.length 0 lo=0∧HT.sIx xs.length xs.length hi=xs.length):fj xs lo hi=xs:=by
 unfold fj;rw[h.1,h.2,ad1,ad7,abd]
theorem Ey:SlR X rSlU:=by
 intro pins s σ H x v vl vu lo hi sl Q I rx hs pl pu h;obtain ⟨a,xs,rfl,ha,q⟩:=h;by_cases hw:HT.sIx xs.length 0 lo=0∧HT.sIx xs.length xs.length hi=xs.length
 ·cases rx
  obtain ⟨its,r,ht,hz⟩:=I.tuple (SqT.of ha);have hlen:its.toArray.size=xs.length:=by rw[aa5];exact r.length.symm
  exact ⟨"tuple",_,PyProof.Rows.slot_tuple_getitem.lookup,ht.typeIs,HT.gi ht hs pl pu (by rw[hlen];exact hw) ⟨.ref a,H,I,rfl,q a H (ah.refl H) (by rw[Ax hw];exact ha)⟩ (by rw[hlen];exact hz)⟩
 ·exact sl_tup pins s σ H _ v vl vu lo hi sl Q I rx hs pl pu ⟨a,xs,rfl,SqT.of ha,hw,λp hp=>q p _ (λc o h=>by rw[ag (aj h hp)];exact h) aa⟩
theorem C7 {H:Hp} {a:Addr} {xs:List V} {lo hi:Option Int} {Q:VK} (ha:H a=some (.tup xs)) (q:∀p H',ah H H'→H' p=some (.tup (fj xs lo hi))→Q (.ref p) H'):rSlU (.ref a) lo hi H Q:=⟨a,xs,rfl,ha,q⟩
theorem wz (k:Key):cm (kV k)=true:=by cases k <;> rfl
theorem eqV_kV (a b:Key):eqV (kV a) (kV b)=decide (a=b):=by
 cases a <;> cases b <;> simp[eqV,kV] <;> exact Bool.beq_eq_decide_eq _ _
theorem jj {as bs:List Key} (hl:as.length=bs.length):((aaq as.length).all λj=>decide (as[j]?=bs[j]?))=decide (as=bs):=by
 rw[abv,acr,decide_eq_true_eq];constructor
 ·intro h;apply adf
  intro j;by_cases hj:j < as.length
  ·exact of_decide_eq_true (h j (List.mem_range.mpr hj))
  ·rw[List.getElem?_eq_none_iff.mpr (by omega),List.getElem?_eq_none_iff.mpr (by omega)]
 ·intro h j _;rw[h];exact decide_eq_true rfl
theorem fv {A:Around} {s:Shared} {as bs:List Key} {us ws:List Value} (r1:Vals (as.map kV) us) (r2:Vals (bs.map kV) ws) (j:Nat) (h1:j < us.toArray.size) (h2:j < ws.toArray.size):
  SeqAt.EqAt A s us.toArray[j] ws.toArray[j] (decide (as[j]?=bs[j]?)):=by
 have l1:=r1.length;have l2:=r2.length;rw[aa2] at l1 l2;have j1:j < as.length:=by rw[l1];simpa using h1
 have j2:j < bs.length:=by rw[l2];simpa using h2
 obtain ⟨u,hu,ru⟩:=r1.get (i:=j) (x:=kV as[j]) (by rw[aag,aa4 j1];rfl);obtain ⟨w,hw,rw'⟩:=r2.get (i:=j) (x:=kV bs[j]) (by rw[aag,aa4 j2];rfl);have e1:us.toArray[j]=u:=by
  have:us[j]'(by simpa using h1)=u:=by rw[aa4 (by simpa using h1)] at hu;exact aa9 hu
  simpa using this
 have e2:ws.toArray[j]=w:=by
  have:ws[j]'(by simpa using h2)=w:=by rw[aa4 (by simpa using h2)] at hw;exact aa9 hw
  simpa using this
 rw[e1,e2,aa4 j1,aa4 j2];have e3:decide (some as[j]=some bs[j])=eqV (kV as[j]) (kV bs[j]):=by
  rw[eqV_kV];apply decide_eq_decide.mpr
  exact ⟨λh=>aa9 h,λh=>by rw[h]⟩
 rw[e3];exact vq ru rw' (wz _) (wz _)
def rEqK (K:PySem.W.Frag) (neg:Bool):R2:=λx y H Q=>∃a b as bs,x=.ref a∧y=.ref b∧((SqT K H a (ac7 kV as)∧SqT K H b (ac7 kV bs))∨(SqL K H a (ac7 kV as)∧SqL K H b (ac7 kV bs)))∧Q (.bl (if neg then !decide (as=bs) else decide (as=bs))) H
theorem Bh (hu:X.A.units < cLine):OpR X (compareOp .Eq) (rEqK X.K false):=by
 intro pins s σ H x y v u Q I rx ry h;obtain ⟨a,b,as,bs,rfl,rfl,hd,q⟩:=h;cases rx
 cases ry
 rcases hd with ⟨ha,hb⟩ | ⟨ha,hb⟩
 ·obtain ⟨its,r1,p1,_⟩:=I.tuple ha;obtain ⟨its2,r2,p2,_⟩:=I.tuple hb;have l1:=r1.length;have l2:=r2.length;rw[aa2] at l1 l2;refine SeqAt.eq_tupleAt (show s.heap.IsTuple a its.toArray from p1) (show s.heap.IsTuple b its2.toArray from p2) hu (λj h1 h2=>fv r1 r2 j h1 h2) ?_;refine ai I q ?_;show decide (as=bs)=_
  rw[aa5,aa5,←l1,←l2];by_cases hl:as.length=bs.length
  ·rw[←hl,Nat.min_self,jj hl];simp
  ·have:¬as=bs:=λe=>hl (by rw[e]);simp[this,hl]
 ·obtain ⟨its,r1,p1,_⟩:=I.list ha;obtain ⟨its2,r2,p2,_⟩:=I.list hb;have l1:=r1.length;have l2:=r2.length;rw[aa2] at l1 l2;by_cases hl:as.length=bs.length
  ·refine SeqAt.eq_listAt p1.isList p2.isList (by rw[aa5,aa5,←l1,←l2,hl]) hu (λj h1 h2=>fv r1 r2 j h1 h2) ?_;refine ai I q ?_;show decide (as=bs)=_
   rw[aa5,←l1,jj hl]
  ·refine SeqAt.eq_list_lengthsAt p1.isList p2.isList (by rw[aa5,aa5,←l1,←l2];simpa using hl) hu ?_;refine ai I q ?_;show decide (as=bs)=_
   exact decide_eq_false λe=>hl (by rw[e])
theorem op_neK (hu:X.A.units < cLine):OpR X (compareOp .NotEq) (rEqK X.K true):=by
 intro pins s σ H x y v u Q I rx ry h;obtain ⟨a,b,as,bs,rfl,rfl,hd,q⟩:=h;cases rx
 cases ry
 rcases hd with ⟨ha,hb⟩ | ⟨ha,hb⟩
 ·obtain ⟨its,r1,p1,_⟩:=I.tuple ha;obtain ⟨its2,r2,p2,_⟩:=I.tuple hb;have l1:=r1.length;have l2:=r2.length;rw[aa2] at l1 l2;refine SeqAt.RcNeAt.tuples (show s.heap.IsTuple a its.toArray from p1) (show s.heap.IsTuple b its2.toArray from p2) hu (λj h1 h2=>fv r1 r2 j h1 h2) _ _ _ _ ?_;refine ai I q ?_;show (!decide (as=bs))=_
  rw[aa5,aa5,←l1,←l2];by_cases hl:as.length=bs.length
  ·rw[←hl,Nat.min_self,jj hl];simp
  ·have:¬as=bs:=λe=>hl (by rw[e]);simp[this,hl]
 ·obtain ⟨its,r1,p1,_⟩:=I.list ha;obtain ⟨its2,r2,p2,_⟩:=I.list hb;have l1:=r1.length;have l2:=r2.length;rw[aa2] at l1 l2;by_cases hl:as.length=bs.length
  ·refine SeqAt.RcNeAt.lists p1.isList p2.isList (by rw[aa5,aa5,←l1,←l2,hl]) hu (λj h1 h2=>fv r1 r2 j h1 h2) _ _ _ _ ?_;refine ai I q ?_;show (!decide (as=bs))=_
   rw[aa5,←l1,jj hl]
  ·refine SeqAt.RcNeAt.lists_lengths p1.isList p2.isList (by rw[aa5,aa5,←l1,←l2];simpa using hl) hu _ _ _ _ ?_;refine ai I q ?_;show (!decide (as=bs))=_
   rw[decide_eq_false λe=>hl (by rw[e])];rfl
end
section
variable {X:Cx} {k:Nat} {ps:List Str} {sp:Sp} {x:Str} {p pos:Pos} {e:Expr} {es:List Expr} {t:TA}
def FnV (P:Program) (w:World) (K:PySem.W.Frag) (mg:Str→Option Value) (base:Heap) (k:Nat) (ps:List Str) (sp:Sp) (v:V):Prop:=
 ∃(f:Addr) (fd:FuncData),v=.ref f∧cx P w K mg base CX0 k f fd ps sp∧Binds K fd ps []∧PySem.W.keepIn K (.ref f)=true
def tCallV (P:Program) (w:World) (K:PySem.W.Frag) (mg:Str→Option Value) (base:Heap) (k:Nat) (ps:List Str) (i:Nat) (t:TA):TE:=λσ H Q=>∃v sp,σ[i]?=some (some v)∧FnV P w K mg base k ps sp v∧t σ H λvs H1=>sp vs H1 Q E0
end
noncomputable def Itv (K:PySem.W.Frag) (a:Addr) (n:Nat):It:=
 ⟨λi H=>i < n∧∃xs,SqL K H a xs∧xs.length=n,λi H x H'=>H'=H∧∀xs,SqL K H a xs→xs[n - 1 - i]?=some x,λi H=>i=n⟩
def iRev (K:PySem.W.Frag) (ta:TA):TI:=λσ H R=>ta σ H λvs H1=>∃a xs,vs=[.ref a]∧SqL K H1 a xs∧R (Itv K a xs.length) H1
section
variable {CX:CXT} {P:Program} {w:World} {K:PySem.W.Frag} {mg:Str→Option Value} {base:Heap} {N:List Str} {qual:Str} {scope:Scope} {f:Addr} {cd:Value} {A:Around} {outer:List Env} {s:Shared} {H:Hp} {E:XK}
theorem cxOf_P:(ik CX P w K mg base N qual scope f cd A outer s H E).prog=P:=rfl
theorem cxOf_w:(ik CX P w K mg base N qual scope f cd A outer s H E).w=w:=rfl
theorem Ef:(ik CX P w K mg base N qual scope f cd A outer s H E).mg=mg:=rfl
theorem cxOf_b:(ik CX P w K mg base N qual scope f cd A outer s H E).base=base:=rfl
end
theorem rel_is {P:Program} {w:World} {k:Key} {u:Value} (h:(bb P w).is k u=true):RelV (kV k) u:=by
 rcases bc h with ⟨i,t,rfl,rfl⟩ | ⟨x,t,rfl,rfl⟩
 ·exact ⟨t,rfl⟩
 ·exact ⟨t,rfl⟩
noncomputable def eqD (ka kb:List (Key×V)):Bool:=ka.length==kb.length&&ka.all λp=>match av kb p.1 with | none=>false | some y=>eqV p.2 y
theorem mw {κ:Type} [DecidableEq κ] {kvs:List (κ×V)} {k:κ} {y:V} (h:av kvs k=some y):(k,y)∈kvs:=by
 unfold av at h;obtain ⟨p,hp,rfl⟩:=Option.map_eq_some_iff.mp h;have h1:=List.find?_some hp;have h2:=List.mem_of_find?_eq_some hp;have:p.1=k:=by simpa using h1
 subst this;exact h2
theorem qr {A:Around} {s:Shared} {kb:List (Key×V)} {kbv:List (Key×Value)} (rb:KV kb kbv) (fb:∀p∈kb,cm p.2=true):∀{ka:List (Key×V)} {kav:List (Key×Value)},KV ka kav→(∀p∈ka,cm p.2=true)→
  PySem.W.KeqHits A s kbv kav (ka.all λp=>match av kb p.1 with | none=>false | some y=>eqV p.2 y)
 | _,_,.nil,_=>.nil
 | (k,v)::_,(k',u)::_,.cons r t,f=>by
  obtain ⟨e,r⟩:=r;have e:k=k':=e;subst e;have rv:=rb.val k;have ih:=qr (A:=A) (s:=s) rb fb t λp hp=>f p (aad _ hp);rw[aci];cases hk:av kb k with
  | none=>
   rw[hk] at rv;cases hv:valueAt kbv k with
   | none=>simp only[hk,Bool.false_and];exact .miss hv
   | some y=>rw[hv] at rv;exact rv.elim
  | some y=>
   rw[hk] at rv;cases hv:valueAt kbv k with
   | none=>rw[hv] at rv;exact rv.elim
   | some y'=>
    rw[hv] at rv;simp only[hk];exact .hit hv (vq r rv (f _ aa7) (fb _ (mw hk))) ih
def rEqD (neg:Bool):R2:=λx y H Q=>∃a b ka kb,x=.ref a∧y=.ref b∧Rd H a (.dK ka)∧Rd H b (.dK kb)∧(∀p∈ka,cm p.2=true)∧(∀p∈kb,cm p.2=true)∧Q (.bl (if neg then !eqD ka kb else eqD ka kb)) H
section
variable {X:Cx}
theorem op_eqD (hu:X.A.units < cLine):OpR X (compareOp .Eq) (rEqD false):=by
 intro pins s σ H x y v u Q I rx ry h;obtain ⟨a,b,ka,kb,rfl,rfl,ha,hb,fa,fb,q⟩:=h;cases rx
 cases ry
 obtain ⟨_,da,va,ra,oa⟩:=gq I.hok ha;obtain ⟨_,db,vb,rb,ob⟩:=gq I.hok hb;refine PySem.W.keq_eq da db oa ob hu (λ_=>qr rb fb ra fa) ?_;refine ai I q ?_;rw[←ra.length,←rb.length];rfl
theorem ji:d0 X (.type "dict") (λxs H Q=>∃p kvs,xs=[.ref p]∧Rd H p (.dK kvs)∧∀l,H l=none→Q (.ref l) (upd H l (.dK kvs))):=by
 intro pins s σ H xs us Q I r h;obtain ⟨p,kvs,rfl,hp,q⟩:=h;obtain ⟨u,rfl,rx⟩:=vals1 r;cases rx
 obtain ⟨z,hd,vs,rv,dd⟩:=gq I.hok hp;refine kt_call_dict hd dd (by rw[←rv.length];exact z) λh' dd' sb=>?_;have hf:H s.heap.objs.size=none:=I.hok.fresh (aa3 _);have hs:(s.heap.objs.size==sysModules)=false:=beq_eq_false_iff_ne.mpr (aaw I.big);exact ⟨.ref s.heap.objs.size,_,I.laid (t':=s.toks) (λb o e=>(sb.2 b (aab (Heap.lt_size e))).trans (Heap.get?_push_of_some _ e)) (aa3 _) (show ay X.prog X.w _ h' _ (.dK kvs) from ⟨z,hs,vs,rv,dd'⟩),rfl,q _ hf⟩
theorem fk:∀{xs:List V} {us:List Value},xs.length=us.length→(∀(i:Nat) (x:V),xs[i]?=some x→∃u,us[i]?=some u∧RelV x u)→Vals xs us
 | [],[],_,_=>.nil
 | x::xs,u::us,hl,h=>by
  refine .cons ?_ (fk (by simpa using hl) λi y hy=>?_)
  ·obtain ⟨u',e,r⟩:=h 0 x rfl;cases e
   exact r
  ·obtain ⟨u',e,r⟩:=h (i+1) y (by simpa using hy);exact ⟨u',by simpa using e,r⟩
 | [],_::_,hl,_=>by simp at hl
 | _::_,[],hl,_=>by simp at hl
theorem uf:d0 X (.type "range") (λxs H Q=>∃j:Int,xs=[.int j]∧∀l,H l=none→Q (.ref l) (upd H l (.rng 0 j))):=by
 intro pins s σ H xs us Q I r h;obtain ⟨j,rfl,q⟩:=h;obtain ⟨u,rfl,rx⟩:=vals1 r;obtain ⟨t,rfl⟩:=rx;refine call_range_1 ?_;exact ⟨.ref s.heap.objs.size,_,I.laid (λb o e=>Heap.get?_push_of_some _ e) (aa3 _) (show ay X.prog X.w _ _ _ (.rng 0 j) from ⟨_,_,_,Heap.get?_push_size _ rfl⟩),rfl,q _ (I.hok.fresh (aa3 _))⟩
theorem nr (hc:X.calm=true):d0 X (.type "list") (λxs H Q=>∃(p:Addr) (j:Int),xs=[.ref p]∧H p=some (.rng 0 j)∧0≤j∧j≤1000000∧∀l,H l=none→Q (.ref l) (upd H l (.lst ((aaq j.toNat).map λi=>V.int (i:Nat))))):=by
 intro pins s σ H xs us Q I r h;obtain ⟨p,j,rfl,hp,h0,h1,q⟩:=h;obtain ⟨u,rfl,rx⟩:=vals1 r;cases rx
 have sz:=sizeLine_eq;obtain ⟨t,u,v,e⟩:=(show ay X.prog X.w H s.heap p (.rng 0 j) from I.hok p _ hp);refine call_list_range (n:=j.toNat) (I.ok.hd hc) (show IsRange s.heap p 0 j 1 t u v from e) (small_one (by decide) (by decide) (by omega) (by omega)) (by rw[rangeSize_one];split <;> omega) (by omega) λh' tk acc' c' hk hS' hacc=>?_;have rv:Vals ((aaq j.toNat).map λi=>V.int (i:Nat)) acc'.toList:=by
  refine fk ?_ λi x hx=>?_
  ·rw[aa2,aau,aae,hacc.1]
  ·rw[aag] at hx;obtain ⟨k,hk',rfl⟩:=Option.map_eq_some_iff.mp hx;obtain ⟨hlt,rfl⟩:=List.getElem?_eq_some_iff.mp hk';rw[aau] at hlt;have hi:i < acc'.size:=by rw[hacc.1];exact hlt
   obtain ⟨t',ht'⟩:=hacc.2 i acc'[i] (by rw[aak hi]);refine ⟨acc'[i],by rw[ab5,aak hi],t',?_⟩;rw[ht',abz];congr 1
   omega
 refine ⟨.ref s.heap.objs.size,_,I.laid hk (aa3 _) (show ay X.prog X.w _ h' _ (.lst ((aaq j.toNat).map λi=>V.int (i:Nat))) from ⟨by rw[aa2,aau];omega,_,c',rv,by simpa using hS'⟩),rfl,q _ (I.hok.fresh (aa3 _))⟩
end
end L2
namespace Pc
open PySem PySem.Spec L2 PyProof.Rows
noncomputable abbrev uw:Str:="abcdefghijklmnopqrstuvwxyz"
noncomputable def j6:List V:=[.str "add",.str "sub",.str "mul",.str "neg",.str "any",.str "var",.str "put",.str "load",.str "out"]
theorem iw {α:Type} (l:List α) (k:Int) (h0:0≤k) (h1:k < (l.length:Int)):∃c,atI l k=some c∧c∈l:=by
 have hk:k.toNat < l.length:=by omega
 have e:k=((k.toNat:Nat):Int):=by omega
 have q:atI l ((k.toNat:Nat):Int)=some l[k.toNat]:=cy (aa4 hk);rw[←e] at q;exact ⟨_,q,abq hk⟩
theorem join_le (sep:Str) (ys:List Str):(Txt.join sep ys).length≤(ys.map (·.length)).sum+ys.length*sep.length:=by
 show (Builtin.Str.glued sep ys).length≤_
 rw[StrLaws.glued_eq_join];exact StrLaws.join_length_le sep ys
theorem qt (x:Nat):(⟨#[x]⟩:Str).length=1:=rfl
noncomputable abbrev parts:List (Key×V):=[(Sum.inr "add",.int 2),(Sum.inr "sub",.int 2),(Sum.inr "mul",.int 2),(Sum.inr "neg",.int 1)]
noncomputable def arS (z:Str):Nat:=if z="add" then 2 else if z="sub" then 2 else if z="mul" then 2 else if z="neg" then 1 else 0
theorem arS_le (z:Str):arS z≤2:=by
 unfold arS;repeat' split
 all_goals decide
theorem yh {z:Str} (h:0 < arS z):z="add"∨z="sub"∨z="mul"∨z="neg":=by
 unfold arS at h;by_cases h1:z="add"
 ·exact .inl h1
 by_cases h2:z="sub"
 ·exact .inr (.inl h2)
 by_cases h3:z="mul"
 ·exact .inr (.inr (.inl h3))
 by_cases h4:z="neg"
 ·exact .inr (.inr (.inr h4))
 rw[if_neg h1,if_neg h2,if_neg h3,if_neg h4] at h;exact absurd h (by decide)
theorem Dq (c:Nat):c∈uw.cps.toList↔(97≤c∧c≤122):=by
 have e:uw.cps.toList=List.range' 97 26:=by decide+kernel
 rw[e,List.mem_range'];constructor
 ·rintro ⟨i,h1,h2⟩;omega
 ·intro h;exact ⟨c - 97,by omega,by omega⟩
theorem let_at (k:Int):∃c:Nat,atI uw.cps.toList (k % 26)=some (97+c)∧c < 26:=by
 obtain ⟨c,h1,h2⟩:=iw uw.cps.toList (k % 26) (aao _ (by decide)) (by rw[show uw.cps.toList.length=26 by decide+kernel];omega);have h:=(Dq c).mp h2;exact ⟨c - 97,by rw[show 97+(c - 97)=c by omega];exact h1,by omega⟩
noncomputable def keptS:List Str:=["add","sub","mul","neg","any","var","put","load","out"]
theorem Bt:arS "neg"=1:=by decide+kernel
theorem xf {zs:List Str} {k:Int} {n:Nat} (hn:zs.length=n) (h0:0≤k) (h1:k < (n:Int)):∃z,atI (zs.map V.str) k=some (.str z)∧z∈zs:=by
 obtain ⟨x,h1,h2⟩:=iw (zs.map V.str) k h0 (by rw[aa2,hn];exact h1);obtain ⟨z,hz,rfl⟩:=List.mem_map.mp h2;exact ⟨z,h1,hz⟩
theorem Ad (ns:List Int) (lo hi:Option Int):∃ms:List Int,fj (ns.map V.int) lo hi=ms.map V.int∧ms.length≤ns.length:=by
 refine ⟨_,by unfold fj;rw[←List.map_drop,←ad5],?_⟩;rw[aaf,aax];omega
noncomputable def opN (z:Str) (a b:Int):Int:=if z="add" then a+b else if z="sub" then a - b else if z="mul" then a*b else -a
end Pc
namespace L2
open PySem PySem.Spec PyProof.Rows
def dy (i:Int):Prop:=∃n,n≤1000000∧i.natAbs < 2 ^ n
theorem dy.le {i:Int} (h:dy i):Builtin.Int.intBits i≤2 ^ 20:=by
 obtain ⟨n,hn,hi⟩:=h;unfold Builtin.Int.intBits;split
 ·exact ab0 _
 ·rename_i h0
  have hne:i.natAbs≠0:=by
   intro e;exact h0 (by rw[Int.natAbs_eq_zero.mp e];rfl)
  have:=(Nat.log2_lt hne).mpr hi;have e:(2:Nat) ^ 20=1048576:=rfl;omega
def CBits (i j:Int):Prop:=dy i∧dy j
theorem Dg {X:Cx}:OpR X (binaryOp .Mult) (rI CBits λi j=>.int (i*j)):=opI λ_ _ _ _ _ _ _ hc q=>mul_int q (IntMulOk.of_bits hc.1.le hc.2.le)
end L2
namespace Pc
open PySem PySem.Spec L2 PyProof.Rows
def km:Sp:=λvs H Q _=>∃(z:Str) (pl:Addr) (xs:List Int),vs=[.str z,.ref pl]∧0 < arS z∧H pl=some (.lst (ac7 V.int xs))∧xs.length=arS z∧(∀x∈xs,dy x)∧Q (.int (opN z (xs.getD 0 0) (xs.getD 1 0))) H
section
variable {κ:Type} [DecidableEq κ]
theorem Ar {kvs:List (κ×V)} {k:κ} (v:V) (hn:(kvs.map (·.1)).Nodup):((putK kvs k v).map (·.1)).Nodup:=by
 cases h:av kvs k with
 | none=>exact Ek v hn h
 | some y=>
  have e:(putK kvs k v).map (·.1)=kvs.map (·.1):=by
   unfold putK;rw[if_pos (by rw[df,h];rfl),abn];apply List.map_congr_left
   intro p _;show (if p.1=k then (p.1,v) else p).1=p.1
   split <;> rfl
  rw[e];exact hn
theorem rl {kvs:List (κ×V)} {k:κ} {v:V} {p:κ×V} (h:p∈putK kvs k v):p∈kvs∨p=(k,v):=by
 unfold putK at h;split at h
 ·obtain ⟨q,hq,rfl⟩:=List.mem_map.mp h;by_cases e:q.1=k
  ·rw[if_pos e,e];exact .inr rfl
  ·rw[if_neg e];exact .inl hq
 ·rcases List.mem_append.mp h with h | h
  ·exact .inl h
  ·exact .inr (List.mem_singleton.mp h)
theorem qo:∀{kvs:List (κ×V)} {k:κ} {v:V},(kvs.map (·.1)).Nodup→(k,v)∈kvs→av kvs k=some v
 | [],_,_,_,h=>by cases h
 | p::r,k,v,hn,h=>by
  have hn:(p.1::r.map (·.1)).Nodup:=hn;obtain ⟨h1,h2⟩:=List.nodup_cons.mp hn;rcases List.mem_cons.mp h with e | e
  ·rw[bo (by rw[←e]),←e]
  ·rw[bj (λz=>h1 (by rw[z];exact List.mem_map.mpr ⟨(k,v),e,rfl⟩))];exact qo h2 e
end
theorem Cs (i:Int):eqV (.int i) (.int i)=true:=by show (i==i)=true;exact beq_self_eq_true i
theorem Aa {kvs:List (Key×V)} (hn:(kvs.map (·.1)).Nodup) (hi:∀p∈kvs,∃i:Int,p.2=.int i):eqD kvs kvs=true:=by
 unfold eqD;rw[abj,acr];refine ⟨beq_self_eq_true _,λp hp=>?_⟩;obtain ⟨k,v⟩:=p;obtain ⟨i,e⟩:=hi _ hp;have e:v=.int i:=e;subst e;show (match av kvs k with | none=>false | some y=>eqV (.int i) y)=true
 rw[qo hn hp];exact Cs i
inductive gr (vals kvs:List (Key×V)):List V→Int→Int→Prop
 | put (b n:Int):gr vals kvs [.str "put",.int b,.int n] b n
 | load (b:Int) (z:Str) (n:Int) (h:av vals (Sum.inr z)=some (.int n)):gr vals kvs [.str "load",.int b,.str z] b n
 | neg (b x m:Int) (h:av kvs (Sum.inl x)=some (.int m)) (b1:dy m):gr vals kvs [.str "neg",.int b,.int x] b (-m)
 | bin (z:Str) (b x y m n:Int) (hz:arS z=2) (h1:av kvs (Sum.inl x)=some (.int m)) (h2:av kvs (Sum.inl y)=some (.int n)) (b1:dy m) (b2:dy n):gr vals kvs [.str z,.int b,.int x,.int y] b (opN z m n)
theorem gr.at1 {vals kvs:List (Key×V)} {ts:List V} {b n:Int} (h:gr vals kvs ts b n):atI ts 1=some (.int b):=by cases h <;> rfl
noncomputable def bf (fs:List (Int×Int)):List (Key×V):=fs.foldl (λk p=>putK k (Sum.inl p.1) (.int p.2)) []
theorem lz (fs:List (Int×Int)) (b n:Int):bf (fs++[(b,n)])=putK (bf fs) (Sum.inl b) (.int n):=by
 unfold bf;rw[adg];rfl
theorem og {P:List (Key×V)→Prop} (h0:P []) (hs:∀kvs (p:Int×Int),P kvs→P (putK kvs (Sum.inl p.1) (.int p.2))) (fs:List (Int×Int)):P (bf fs):=by
 have:∀(fs:List (Int×Int)) (kvs:List (Key×V)),P kvs→P (fs.foldl (λk p=>putK k (Sum.inl p.1) (.int p.2)) kvs):=by
  intro fs;induction fs with
  | nil=>exact λkvs h=>h
  | cons p r ih=>exact λkvs h=>ih _ (hs kvs p h)
 exact this fs [] h0
theorem tj (fs:List (Int×Int)):((bf fs).map (·.1)).Nodup:=og (P:=λk=>(k.map (·.1)).Nodup) ach (λkvs p h=>Ar _ h) fs
theorem pz (fs:List (Int×Int)):∀p∈bf fs,∃b i:Int,p=(Sum.inl b,.int i):=og (P:=λk=>∀p∈k,∃b i:Int,p=(Sum.inl b,V.int i)) (λ_ h=>nomatch h) (λkvs p h q hq=>by
 rcases rl hq with z | z
 ·exact h q z
 ·exact ⟨p.1,p.2,z⟩) fs
theorem n6 (fs:List (Int×Int)):(bf fs).length≤fs.length:=by
 have:∀(fs:List (Int×Int)) (kvs:List (Key×V)),(fs.foldl (λk p=>putK k (Sum.inl p.1) (.int p.2)) kvs).length≤kvs.length+fs.length:=by
  intro fs;induction fs with
  | nil=>exact λkvs=>aa3 _
  | cons p r ih=>
   intro kvs;have h1:=ih (putK kvs (Sum.inl p.1) (.int p.2));have h2:=dj kvs (Sum.inl p.1) (.int p.2);show (r.foldl _ (putK kvs (Sum.inl p.1) (.int p.2))).length≤_
   rw[aai];omega
 have h:=this fs [];rw[abg,Nat.zero_add] at h;exact h
theorem uu (fs:List (Int×Int)):∃ns:List Int,(bf fs).map (·.1)=ns.map Sum.inl∧ns.length=(bf fs).length:=by
 have:∀kvs:List (Key×V),(∀p∈kvs,∃b i:Int,p=(Sum.inl b,V.int i))→∃ns:List Int,kvs.map (·.1)=ns.map Sum.inl∧ns.length=kvs.length:=by
  intro kvs;induction kvs with
  | nil=>exact λ_=>⟨[],rfl,rfl⟩
  | cons p r ih=>
   intro h;obtain ⟨ns,e,l⟩:=ih λq hq=>h q (aad _ hq);obtain ⟨b,i,rfl⟩:=h p aa7;exact ⟨b::ns,by rw[aan,aan,e],by rw[aai,aai,l]⟩
 exact this _ (pz fs)
theorem yu {fs:List (Int×Int)} {ns:List Int} (hk:(bf fs).map (·.1)=ns.map Sum.inl) {x:Int} (hx:x∈ns):∃m:Int,av (bf fs) (Sum.inl x)=some (.int m)∧(Sum.inl x,V.int m)∈bf fs:=by
 have h1:(Sum.inl x:Key)∈(bf fs).map (·.1):=by rw[hk];exact List.mem_map.mpr ⟨x,hx,rfl⟩
 obtain ⟨p,hp,e⟩:=List.mem_map.mp h1;obtain ⟨b,i,rfl⟩:=pz fs p hp;cases (show (Sum.inl b:Key)=Sum.inl x from e)
 exact ⟨i,qo (tj fs) hp,hp⟩
def cj (vals:List (Key×V)) (ts:List (List V)) (fs:List (Int×Int)):Prop:=ts.length=fs.length∧∀(i:Nat) (p:Int×Int),fs[i]?=some p→∃t,ts[i]?=some t∧gr vals (bf (fs.take i)) t p.1 p.2
theorem cj.nil (vals:List (Key×V)):cj vals [] []:=⟨rfl,λi p h=>by simp at h⟩
theorem cj.snoc {vals:List (Key×V)} {ts:List (List V)} {fs:List (Int×Int)} (h:cj vals ts fs) {t:List V} {b n:Int} (r:gr vals (bf fs) t b n):cj vals (ts++[t]) (fs++[(b,n)]):=by
 refine ⟨by rw[aa8,aa8,h.1];rfl,λi p hp=>?_⟩;by_cases hi:i < fs.length
 ·rw[aal hi] at hp;obtain ⟨t',h1,h2⟩:=h.2 i p hp;exact ⟨t',by rw[aal (by rw[h.1];exact hi)];exact h1,by rw[acf (abb hi)];exact h2⟩
 ·have hl:=(List.getElem?_eq_some_iff.mp hp).1;rw[aa8,aay] at hl;have e:i=fs.length:=by omega
  subst e;rw[aaj (aa3 _),abo] at hp;have e:(b,n)=p:=aa9 hp;subst e;refine ⟨t,by rw[aaj (by rw[h.1];exact aa3 _),h.1,abo];rfl,?_⟩;rw[adm rfl];exact r
def au (H:Hp) (rs:List V) (ts:List (List V)):Prop:=rs.length=ts.length∧∀(i:Nat) (t:List V),ts[i]?=some t→∃a,rs[i]?=some (.ref a)∧H a=some (.tup t)
theorem au.same {H H':Hp} {rs:List V} {ts:List (List V)} (h:au H rs ts) (s:ah H H'):au H' rs ts:=⟨h.1,λi t ht=>by
 obtain ⟨a,h1,h2⟩:=h.2 i t ht;exact ⟨a,h1,s _ _ h2⟩⟩
theorem au.nil (H:Hp):au H [] []:=⟨rfl,λi t h=>by simp at h⟩
theorem au.snoc {H:Hp} {rs:List V} {ts:List (List V)} (h:au H rs ts) {a:Addr} {t:List V} (ha:H a=some (.tup t)):au H (rs++[.ref a]) (ts++[t]):=by
 refine ⟨by rw[aa8,aa8,h.1];rfl,λi u hu=>?_⟩;by_cases hi:i < ts.length
 ·rw[aal hi] at hu;obtain ⟨b,h1,h2⟩:=h.2 i u hu;exact ⟨b,by rw[aal (by rw[h.1];exact hi)];exact h1,h2⟩
 ·have hl:=(List.getElem?_eq_some_iff.mp hu).1;rw[aa8,aay] at hl;have e:i=ts.length:=by omega
  subst e;rw[aaj (aa3 _),abo] at hu;have e:t=u:=aa9 hu;subst e;exact ⟨a,by rw[aaj (by rw[h.1];exact aa3 _),h.1,abo];rfl,ha⟩
theorem au.refs {H:Hp} {rs:List V} {ts:List (List V)} (h:au H rs ts):∀v∈rs,∃a,v=.ref a:=λv hv=>by
 obtain ⟨i,hi,e⟩:=List.mem_iff_getElem.mp hv;have hi':i < ts.length:=by rw[←h.1];exact hi
 obtain ⟨a,h1,_⟩:=h.2 i ts[i] (aa4 hi');rw[aa4 hi,e] at h1;exact ⟨a,aa9 h1⟩
def kn (e:Nat) (fs:List (Int×Int)):Prop:=∀b m:Int,(Sum.inl b,V.int m)∈bf fs→m.natAbs < 2 ^ e
theorem kn.nil (e:Nat):kn e []:=λb m h=>by cases h
theorem kn.le {e e':Nat} {fs:List (Int×Int)} (h:kn e fs) (l:e≤e'):kn e' fs:=λb m hm=>aa6 (h b m hm) (ad2 (by decide) l)
theorem kn.snoc {e:Nat} {fs:List (Int×Int)} (h:kn e fs) {b n:Int} (hn:n.natAbs < 2 ^ e):kn e (fs++[(b,n)]):=λx m hm=>by
 rw[lz] at hm;rcases rl hm with z | z
 ·exact h x m z
 ·cases z
  exact hn
theorem Dd {z:Str} {m n:Int} {e:Nat} (h1:m.natAbs < 2 ^ e) (h2:n.natAbs < 2 ^ e) (hz:z≠"mul"):(opN z m n).natAbs < 2 ^ (e+1):=by
 unfold opN;rw[Nat.pow_succ];split
 ·omega
 ·split
  ·omega
  ·omega
end Pc
namespace L2.Srt
open PySem PySem.W PyProof.Rows PySem.Spec
section
variable {prog:Program} {w:World} {A:Around} {E:Value→Shared→Prop} {s:Shared}
theorem qd {d:Addr} {vs:List (Key×Value)} {ep:Nat} {Q:List Value→Shared→Prop} (lo:(d==sysModules)=false) (hm:s.heap.DictAt (bb prog w) d vs ep) (hh:A.handled=none) (hsz:vs.length≤sizeLine)
  (h:∀h' tk (acc:Array Value),(∀b o,s.heap.get? b=some o→h'.get? b=some o)→s.heap.objs.size < h'.objs.size→ItemsOf (λi v=>∃k x,vs[i]?=some (k,x)∧(bb prog w).is k v=true) acc vs.length→Q acc.toList { s with heap:=h',toks:=tk }):
  wpAny (model prog w) A (collect (.ref d)) Q E s:=by
 have hd:d < s.heap.objs.size:=hm.lt_size;have pl:plainId "list.__iadd__"=true:=by decide+kernel
 have key:∀R:Result→Shared→Prop,(∀h' tk (acc:Array Value) c,(∀b o,b≠s.heap.objs.size→(s.heap.push (seqObj "list" #[] 0)).get? b=some o→h'.get? b=some o)→h'.get? s.heap.objs.size=some { cls:=.type "list",dict:=none,data:=.seq acc c,slots:=#[] }→
   ItemsOf (λi v=>∃k x,vs[i]?=some (k,x)∧(bb prog w).is k v=true) acc vs.length→R (.ok (.ret (.ref s.heap.objs.size))) { s with heap:=h',toks:=tk })→
   codeAny (model prog w) A (.builtin "list.__iadd__" ⟨[.ref s.heap.objs.size,.ref d],[]⟩) R { s with heap:=s.heap.push (seqObj "list" #[] 0) }:=by
  intro R hR;refine codeAny_builtin entry_list_iadd' ?_;rw[Around.under_plainId pl _];exact kdl_extend (s:={ s with heap:=s.heap.push (seqObj "list" #[] 0) }) (kdl_dict lo) hh (hm.push _) s.heap.objs.size (aaw hd) (aaw hd) _ 0 (Heap.get?_push_size _ rfl) (λh' tk acc c hk hS hacc=>hR h' tk acc c hk hS hacc) hsz
 unfold collect;refine wpAny_bind (wpAny_runValue (codeAny_builtin entry_proto_collect' ?_));show wpAny _ _ (newList [] >>=λv=>again (.builtin "list.__iadd__" ⟨[v,.ref d],[]⟩)) _ _ s
 refine wpAny_bind (wpAny_newList (wpAny_pure ⟨Code.quiet_builtin _ (by decide+kernel),key _ λh' tk acc c hk hS hacc=>?_⟩));refine wpAny_bind (wpAny_load hS ?_);exact wpAny_pure (h h' tk acc (λb o e=>hk b o (aab (Heap.lt_size e)) (Heap.get?_push_of_some _ e)) (Heap.lt_size hS) hacc)
end
end L2.Srt
namespace L2
open PySem PySem.Spec PyProof.Rows Srt
section
variable {X:Cx}
theorem vc {h:Heap} {vs:List Value} {out:Array Value} {b:Addr} {o:Obj} (hb:h.get? b=some o):(sortedHeap (h.push (seqObj "list" vs.toArray 0)) h.objs.size vs out).get? b=some o:=by
 have hlt:b < h.objs.size:=Heap.lt_size hb;unfold sortedHeap;have sz:(h.push (seqObj "list" vs.toArray 0)).objs.size=h.objs.size+1:=size_push' _ _;rw[Heap.get?_update_ne _ _ _ _ (aab hlt),Heap.get?_push_ne _ _ _ (by rw[size_push',Heap.size_update,sz];exact aab (aa6 hlt (by omega))),Heap.get?_push_ne _ _ _ (by rw[Heap.size_update,sz];exact aab (aa6 hlt (by omega))),Heap.get?_update_ne _ _ _ _ (aab hlt),Heap.get?_push_ne _ _ _ (aab hlt)];exact hb
theorem yt {h:Heap} {vs:List Value} {out:Array Value}:∃e,(sortedHeap (h.push (seqObj "list" vs.toArray 0)) h.objs.size vs out).get? h.objs.size=some (seqObj "list" out e):=by
 obtain ⟨e1,h1⟩:∃e,((h.push (seqObj "list" vs.toArray 0)).update h.objs.size (Obj.mapSeq λ_=>#[])).get? h.objs.size=some (seqObj "list" #[] e):=⟨_,get?_update_seq (Heap.get?_push_size _ rfl) _⟩;have sz:(h.push (seqObj "list" vs.toArray 0)).objs.size=h.objs.size+1:=size_push' _ _;unfold sortedHeap;refine ⟨_,get?_update_seq (xs:=#[]) (n:=e1) ?_ _⟩;rw[Heap.get?_push_ne _ _ _ (by rw[size_push',Heap.size_update,sz];exact aab (by omega)),Heap.get?_push_ne _ _ _ (by rw[Heap.size_update,sz];exact aab (by omega))];exact h1
theorem om:∀{vs:List Value} {ns:List Int},IntsAre vs ns→Vals (ns.map V.int) vs
 | _,_,.nil=>.nil
 | _,_,.cons _ t r=>.cons ⟨t,rfl⟩ (om r)
theorem gh:∀{vs:List Value} {ns:List Int},Vals (ns.map V.int) vs→IntsAre vs ns
 | [],[],_=>.nil
 | v::vs,n::ns,.cons r t=>by
  obtain ⟨k,rfl⟩:=r;exact .cons _ _ (gh t)
end
end L2
namespace L2
open PySem PySem.Spec PyProof.Rows PySem.SeqAt PySem.MeetsSeq PySem.MeetsSeq2 PySem.MeetsSeq3
open AutoSeq1 (wpAny_loadPart')
def sg (P:Program) (w:World) (A:Around) (s:Shared) (y x:Value):Prop:=∀(E:Value→Shared→Prop) (Q:Bool→Shared→Prop),Q true s→wpAny (model P w) A (eqBool y x) Q E s
section
variable {P:Program} {w:World} {A:Around} {E:Value→Shared→Prop} {s:Shared}
theorem o5 {a b:Addr} (h:∀(E:Value→Shared→Prop) (Q:Value→Shared→Prop),Q (.bool true) s→wpAny (model P w) A (richCompare .Eq (.ref a) (.ref b)) Q E s):sg P w A s (.ref a) (.ref b):=λE Q q=>by
 by_cases e:a=b
 ·subst e;exact EqAt.same (A:=A) (s:=s) (Value.ref a) P w E Q q
 ·have ne:¬(Value.ref a==Value.ref b)=true:=λz=>e (by injection (eq_of_beq z));unfold eqBool;refine wpAny_holding ?_;rw[if_neg ne];exact wpAny_bind (h E _ (wpAny_truthy_bool q))
theorem ne_two (l b:Addr) (xs ys:Array Value) (n m:Nat) (d e:Option Addr) (u v:Array (Option Value)) (hx:xs.size=2) (hy:ys.size=2):
  MeetsIn P w (Builtin.«list.__eq__.loop» ⟨[.ref l,.ref b,rawInt 2,rawInt 3],[]⟩) (λA R s=>s.heap.get? l=some { cls:=.type "list",dict:=d,data:=.seq xs n,slots:=u }∧s.heap.get? b=some { cls:=.type "list",dict:=e,data:=.seq ys m,slots:=v }∧R (.ok (.ret (.bool false))) s):=by
 intro A R s h;obtain ⟨hp,g,dr,tk,os⟩:=s;obtain ⟨o1,o2,h⟩:=h;have i1:xs[(2:Int).toNat]?=none:=by simp[hx]
 have i2:ys[(2:Int).toNat]?=none:=by simp[hy]
 wp_walk using wpAny_loadPart' o1,wpAny_loadPart' o2
 rw[i1,i2];wp_walk using wpAny_loadPart' o1,wpAny_loadPart' o2
 show R (.ok (.ret (.bool (xs.size !=ys.size)))) _
 rw[hx,hy];exact h
theorem ne_one (l b:Addr) (xs ys:Array Value) (n m:Nat) (d e:Option Addr) (u v:Array (Option Value)) (hx:xs.size=2) (hy:ys.size=2):
  MeetsIn P w (Builtin.«list.__eq__.loop» ⟨[.ref l,.ref b,rawInt 1,rawInt 3],[]⟩) (λA R s=>s.heap.get? l=some { cls:=.type "list",dict:=d,data:=.seq xs n,slots:=u }∧s.heap.get? b=some { cls:=.type "list",dict:=e,data:=.seq ys m,slots:=v }∧sg P w A.in1 s (xs[1]'(by omega)) (ys[1]'(by omega))∧R (.ok (.ret (.bool false))) s):=by
 intro A R s h;obtain ⟨hp,g,dr,tk,os⟩:=s;obtain ⟨o1,o2,q1,h⟩:=h;have i1:xs[(1:Int).toNat]?=some (xs[1]'(by omega)):=by simp[hx]
 have i2:ys[(1:Int).toNat]?=some (ys[1]'(by omega)):=by simp[hy]
 wp_walk using wpAny_loadPart' o1,wpAny_loadPart' o2
 rw[i1,i2];refine wpAny_bind (q1 _ _ ?_);wp_walk
 exact ⟨plainId_quiet plain_eq_loop _,codeAny_builtin entry_eq_loop (by
  rw[Around.under_plainId plain_eq_loop _];exact ne_two l b xs ys n m d e u v hx hy A R _ ⟨o1,o2,h⟩)⟩
theorem C8 (l b:Addr) (xs ys:Array Value) (n m:Nat) (d e:Option Addr) (u v:Array (Option Value)) (hx:xs.size=2) (hy:ys.size=2):
  MeetsIn P w (Builtin.«list.__eq__.loop» ⟨[.ref l,.ref b,rawInt 0,rawInt 3],[]⟩) (λA R s=>s.heap.get? l=some { cls:=.type "list",dict:=d,data:=.seq xs n,slots:=u }∧s.heap.get? b=some { cls:=.type "list",dict:=e,data:=.seq ys m,slots:=v }∧sg P w A.in1 s (xs[0]'(by omega)) (ys[0]'(by omega))∧sg P w A.in1 s (xs[1]'(by omega)) (ys[1]'(by omega))∧R (.ok (.ret (.bool false))) s):=by
 intro A R s h;obtain ⟨hp,g,dr,tk,os⟩:=s;obtain ⟨o1,o2,q0,q1,h⟩:=h;have i1:xs[(0:Int).toNat]?=some (xs[0]'(by omega)):=by simp[hx]
 have i2:ys[(0:Int).toNat]?=some (ys[0]'(by omega)):=by simp[hy]
 wp_walk using wpAny_loadPart' o1,wpAny_loadPart' o2
 rw[i1,i2];refine wpAny_bind (q0 _ _ ?_);wp_walk
 exact ⟨plainId_quiet plain_eq_loop _,codeAny_builtin entry_eq_loop (by
  rw[Around.under_plainId plain_eq_loop _];exact ne_one l b xs ys n m d e u v hx hy A R _ ⟨o1,o2,q1,h⟩)⟩
theorem Eg (l b:Addr) (xs ys:Array Value) (n m:Nat) (d e:Option Addr) (u v:Array (Option Value)) (hx:xs.size=2) (hy:ys.size=2):
  MeetsIn P w (Builtin.«list.__ne__» ⟨[.ref l,.ref b],[]⟩) (λA R s=>s.heap.get? l=some { cls:=.type "list",dict:=d,data:=.seq xs n,slots:=u }∧s.heap.get? b=some { cls:=.type "list",dict:=e,data:=.seq ys m,slots:=v }∧sg P w A.in1 s (xs[0]'(by omega)) (ys[0]'(by omega))∧sg P w A.in1 s (xs[1]'(by omega)) (ys[1]'(by omega))∧R (.ok (.ret (.bool false))) s):=by
 intro A R s h;obtain ⟨hp,g,dr,tk,os⟩:=s;obtain ⟨o1,o2,q0,q1,h⟩:=h;have f3:=AutoSeq1.sub_list_list;have ns:¬(xs.size !=ys.size)=true:=by simp[hx,hy]
 wp_walk using wpAny_loadPart' o1,wpAny_loadPart' o2
 exact ⟨plainId_quiet plain_eq_loop _,codeAny_builtin entry_eq_loop (by
  rw[Around.under_plainId plain_eq_loop _];exact C8 l b xs ys n m d e u v hx hy A R _ ⟨o1,o2,q0,q1,h⟩)⟩
theorem Ec {l b:Addr} {x1 x2 y1 y2:Value} {Q:Value→Shared→Prop} (pl:s.heap.IsList l #[x1,x2]) (pb:s.heap.IsList b #[y1,y2]) (hu:A.units < cLine) (e1:sg P w A.in1 s x1 y1) (e2:sg P w A.in1 s x2 y2) (q:Q (.bool false) s):
  wpAny (model P w) A (compareOp .NotEq (.ref l) (.ref b)) Q E s:=by
 obtain ⟨⟨c1,d1,t1,u1⟩,o1,z1,n1,v1⟩:=id pl;obtain ⟨⟨c2,d2,t2,u2⟩,o2,z2,n2,v2⟩:=id pb;simp only at z1 v1 z2 v2;subst z1 v1 z2 v2;refine wpAny_richCompare_same_room (op:=.NotEq) pl.typeIs pb.typeIs PySem.F.slot_list_ne (call_meetsIn PySem.F.slot_list_ne pl.typeIs PySem.F.entry_list_ne (PySem.F.args_list_ne_2 _ _) (Eg l b #[x1,x2] #[y1,y2] n1 n2 d1 d2 u1 u2 rfl rfl) ⟨o1,o2,e1,e2,?_⟩) hu;exact ⟨λz=>(nomatch z),q⟩
end
def rNeH (K:PySem.W.Frag):R2:=λx y H Q=>∃a b l1 l2 d1 d2 xs ka kb,x=.ref a∧y=.ref b∧SqL K H a [.ref l1,.ref d1]∧SqL K H b [.ref l2,.ref d2]∧SqL K H l1 xs∧SqL K H l2 xs∧(∀v∈xs,∃t,v=V.ref t)∧Rd H d1 (.dK ka)∧Rd H d2 (.dK kb)∧(∀p∈ka,cm p.2=true)∧(∀p∈kb,cm p.2=true)∧eqD ka kb=true∧Q (.bl false) H
section
variable {X:Cx}
theorem op_neH (hu:X.A.units+1 < cLine):OpR X (compareOp .NotEq) (rNeH X.K):=by
 intro pins s σ H x y v u Q I rx ry h;obtain ⟨a,b,l1,l2,d1,d2,xs,ka,kb,rfl,rfl,ha,hb,h1,h2,hr,k1,k2,fa,fb,he,q⟩:=h;cases rx
 cases ry
 obtain ⟨i1,r1,p1,_⟩:=I.list ha;obtain ⟨i2,r2,p2,_⟩:=I.list hb;obtain ⟨j1,t1,m1,_⟩:=I.list h1;obtain ⟨j2,t2,m2,_⟩:=I.list h2;obtain ⟨u1,u2,rfl,e1,e2⟩:=vals2 r1;obtain ⟨w1,w2,rfl,g1,g2⟩:=vals2 r2;cases e1
 cases e2
 cases g1
 cases g2
 obtain ⟨_,da,va,ra,oa⟩:=gq I.hok k1;obtain ⟨_,db,vb,rb,ob⟩:=gq I.hok k2;have same:j1=j2:=by
  refine adf λi=>?_;cases hi:xs[i]? with
  | none=>rw[t1.none_of hi,t2.none_of hi]
  | some x=>
   obtain ⟨y,hy,ry⟩:=t1.get hi;obtain ⟨z,hz,rz⟩:=t2.get hi;obtain ⟨t,rfl⟩:=hr x (abf hi);cases ry
   cases rz
   rw[hy,hz]
 subst same;have hu1:X.A.in1.units < cLine:=hu;refine Ec (by simpa using p1.isList) (by simpa using p2.isList) (aas hu) (o5 λE Q q=>?_) (o5 λE Q q=>?_) ⟨.bl false,H,I,rfl,q⟩
 ·refine RcAt.lists m1.isList m2.isList rfl hu1 (e:=λ_=>true) (λj h1 h2=>EqAt.same _) _ _ _ _ ?_;have e:(aaq j1.toArray.size).all (λ_=>true)=true:=by rw[acr];exact λ_ _=>rfl
  rw[e];exact q
 ·refine PySem.W.keq_eq da db oa ob hu1 (λ_=>qr rb fb ra fa) ?_;have e:∀z,z=true→Q (.bool z) s:=λz hz=>by rw[hz];exact q
  refine e _ ?_;rw[←ra.length,←rb.length];exact he
end
end L2
namespace L2
open PySem
theorem Dr:bootBuiltins "range"=some (.type "range"):=by decide+kernel
end L2
namespace Pc
open PySem PySem.Spec L2 PyProof.Rows
theorem kept_x {z:Str} (hl:z.length≤18):arS (z++t5 (Str.ofString "x") (if inV (.str z) j6=true then (1:Int) else 0).toNat)=0∧(z++t5 (Str.ofString "x") (if inV (.str z) j6=true then (1:Int) else 0).toNat).length≤20:=by
 by_cases h:inV (.str z) j6=true
 ·rw[if_pos h];have hz:z∈keptS:=by
   obtain ⟨v,hv,e⟩:=List.any_eq_true.mp h;simp only[j6,aav,aam,or_false] at hv;rcases hv with rfl | rfl | rfl | rfl | rfl | rfl | rfl | rfl | rfl <;> (rw[←eq_of_beq (show (_==z)=true from e)];decide+kernel)
  simp only[keptS,aav,aam,or_false] at hz;rcases hz with rfl | rfl | rfl | rfl | rfl | rfl | rfl | rfl | rfl <;> exact ⟨by decide+kernel,by decide+kernel⟩
 ·rw[if_neg h];have e:z++t5 (Str.ofString "x") (0:Int).toNat=z:=by
   show (⟨z.cps++#[]⟩:Str)=z
   rw[Array.append_empty]
  rw[e];refine ⟨?_,by omega⟩;rcases ac0 (arS z) with k | k
  ·exact k
  ·exact absurd (by rcases yh k with rfl | rfl | rfl | rfl <;> decide+kernel) h
theorem ki {ns:List Int} {k:Int} (h0:0≤k) (h1:k < (ns.length:Int)):∃n,atI (ns.map V.int) k=some (.int n)∧n∈ns:=by
 obtain ⟨x,h1,h2⟩:=iw (ns.map V.int) k h0 (by rw[aa2];exact h1);obtain ⟨z,hz,rfl⟩:=List.mem_map.mp h2;exact ⟨z,h1,hz⟩
end Pc
namespace L2
open PySem
end L2
namespace Pc
open PySem L2
theorem au.put {H:Hp} {rs:List V} {ts:List (List V)} (h:au H rs ts) {x:Addr} {o:HO} (hx:H x=some o) (ho:∀t,o≠.tup t) (o':HO):au (upd H x o') rs ts:=⟨h.1,λi t ht=>by
 obtain ⟨a,h1,h2⟩:=h.2 i t ht;refine ⟨a,h1,?_⟩;rw[ag (λe=>by rw[e,hx] at h2;exact ho t (aa9 h2))];exact h2⟩
end Pc
namespace L2
open PySem PySem.Spec PyProof.Rows
abbrev TF:=St→Hp→(Hp→Prop)→Prop
def PF (X:Cx) (es:List Expr) (n:Nat) (t:TF):Prop:=
 ∀(pins:List (Addr×Obj)) (s:Shared) (σ:St) (H:Hp) (Q:Hp→Prop) (acc:Str),Inv X pins σ H s→acc.length+n≤sizeLine→t σ H Q→
  Joins (model X.prog X.w) X.A X.xe (evalEach es X.env) acc (λout s1=>out.length≤sizeLine∧∃H1,Inv X pins σ H1 s1∧Q H1) s
noncomputable def tF0:TF:=λ_ H Q=>Q H
noncomputable def tFI (tv:TE) (t:TF):TF:=λσ H Q=>tv σ H λx H1=>∃a,x=.int a∧a.natAbs.log2 < 1920∧t σ H1 Q
def tFmts (t:TF):TE:=λσ H Q=>t σ H λH1=>∀m,Q (.str m) H1
section
variable {X:Cx} {v e1 e2:Expr} {es:List Expr} {tv:TE} {t:TF} {p pos:Pos} {c:Str} {j n:Nat}
theorem pf_nil:PF X [] 0 tF0:=λpins s σ H Q acc I ha h=>⟨ha,H,I,h⟩
theorem pf_c (r:PF X es n t) (hc:c.length≤100:=by decide+kernel):PF X (.Constant (.str c) j p::es) (100+n) t:=λpins s σ H Q acc I ha h=>
 Calls.Constant_str ⟨c,_,rfl,by rw[strLen_append];omega,r pins _ σ H Q _ (I.tok _) (by rw[strLen_append];omega) h⟩
theorem pf_i (hv:PE X v tv) (r:PF X es n t):PF X (.FormattedValue v (-1) none p::es) (2000+n) (tFI tv t):=λpins s σ H Q acc I ha h=>by
 refine wpAny_FormattedValue_plain (thn (hv pins s σ H _ I h) λu s1 ⟨x,H1,I1,r1,a,e,hl,q⟩=>?_);subst e;obtain ⟨t,rfl⟩:=r1;have hx:(Str.ofString (toString a)).length≤1921:=by rw[PySem.ofString_length];exact int_text_length_le (by decide) hl
 have sz:=sizeLine_eq;refine formatField_int_small hl ?_;exact ⟨_,_,rfl,by rw[strLen_append];show _+(Str.ofString (toString a)).length≤_;omega,r pins _ σ H1 Q _ (I1.tok _) (by rw[strLen_append];show _+(Str.ofString (toString a)).length+_≤_;omega) q⟩
theorem Co (h:PF X (e1::e2::es) n t) (hn:n≤1000000:=by decide):PE X (.JoinedStr (e1::e2::es) pos) (tFmts t):=by
 intro pins s σ H Q I hq;have sz:=sizeLine_eq;refine wpAny_JoinedStr ?_;have:=h pins s σ H _ Str.empty I (by show 0+n≤_;omega) hq;have mono:∀(xs:List (Sem Value)) (acc:Str) (Q Q':Str→Shared→Prop) (s:Shared),(∀o s,Q o s→Q' o s)→Joins (model X.prog X.w) X.A X.xe xs acc Q s→Joins (model X.prog X.w) X.A X.xe xs acc Q' s:=by
  intro xs;induction xs with
  | nil=>intro acc Q Q' s hQ h;exact hQ _ _ h
  | cons x r ih=>intro acc Q Q' s hQ h;exact thn h λu s1 ⟨y,t,e,hl,hj⟩=>⟨y,t,e,hl,ih _ _ _ _ hQ hj⟩
 exact mono _ _ _ _ _ (λo s1 ⟨hl,H1,I1,q⟩=>⟨hl,.str o,H1,I1.tok _,⟨_,rfl⟩,q o⟩) this
end
structure b8 (fs ch:List Addr) (h h':Heap):Prop where
 keep:∀b o,h.get? b=some o→b∉fs→b∉ch→h'.get? b=some o
 slot:∀b o,h.get? b=some o→b∉ch→∃sl,h'.get? b=some { o with slots:=sl }
theorem b8.refl {fs ch:List Addr} {h:Heap}:b8 fs ch h h:=⟨λ_ _ e _ _=>e,λ_ o e _=>⟨o.slots,e⟩⟩
theorem b8.un {fs ch:List Addr} {H:Hp} {h h':Heap} (t:b8 fs ch h h') (hc:∀b∈ch,∃o,h'.get? b=some o):Un fs ch H H h h' where
 keep:=λb o e _ hb hx=>t.keep b o e hb hx
 slot:=λb o e _ _ hx=>t.slot b o e hx
 free:=λ_ _ _ n _=>n
 there:=λb o e hx=>let ⟨_,q⟩:=t.slot b o e hx;⟨_,q⟩
 tups:=λ_ _ e=>e
 frzs:=λ_ _ _ e=>e
 tbls:=λ_ _ e=>⟨#[],by rw[e];simp⟩
theorem b8.hok {P:Program} {w:World} {fs ch:List Addr} {H:Hp} {h h':Heap} (t:b8 fs ch h h') (ok:HOk P w H h) (hf:∀b∈fs,H b=none) (hc:∀b∈ch,H b=none):HOk P w H h':=λb u e=>
 (ok b u e).qi (λc v hcb q=>by
  have key:∀{z},H c=some z→h'.get? c=some v:=λ{z} hz=>t.keep c v q (λx=>by rw[hf c x] at hz;cases hz) λx=>by rw[hc c x] at hz;cases hz
  rcases hcb with rfl | hcb
  ·exact key e
  ·exact key hcb) (λ_ q=>q) λ_ _ q=>q
structure Fly (n:Nat) (H:Hp) (h:Heap) (a:Addr) (cls:Value) (dx:Option Addr):Prop where
 lo:n≤a
 un:H a=none
 ob:∃oe vs,h.get? a=some oe∧oe.cls=cls∧oe.dict=dx∧oe.data=.fields vs∧1 < vs.size∧
  (vs[1]?=some .none∨∃T oT ts,vs[1]?=some (.ref T)∧n≤T∧H T=none∧T≠a∧h.get? T=some oT∧oT.data=.fields ts∧3 < ts.size)
structure gk (n:Nat) (H:Hp) (h:Heap) (a:Addr) (cls:Value) (dx:Option Addr):Prop where
 lo:n≤a
 un:H a=none
 ob:∃oe vs,h.get? a=some oe∧oe.cls=cls∧oe.dict=dx∧oe.data=.fields vs∧1 < vs.size∧
  ∃T oT ts,vs[1]?=some (.ref T)∧n≤T∧H T=none∧T≠a∧h.get? T=some oT∧oT.data=.fields ts∧3 < ts.size
section
variable {n m:Nat} {H:Hp} {h:Heap} {a:Addr} {cls:Value} {dx:Option Addr}
theorem gk.fly (x:gk n H h a cls dx):Fly n H h a cls dx:=let ⟨oe,vs,h1,h2,h3,h4,h5,h6⟩:=x.ob;⟨x.lo,x.un,oe,vs,h1,h2,h3,h4,h5,.inr h6⟩
theorem Fly.le (x:Fly n H h a cls dx) (hm:m≤n):Fly m H h a cls dx:=by
 obtain ⟨oe,vs,h1,h2,h3,h4,h5,h6⟩:=x.ob;refine ⟨aar hm x.lo,x.un,oe,vs,h1,h2,h3,h4,h5,?_⟩;rcases h6 with h6 | ⟨T,oT,ts,k1,k2,k3,k4,k5,k6,k7⟩
 ·exact .inl h6
 ·exact .inr ⟨T,oT,ts,k1,aar hm k2,k3,k4,k5,k6,k7⟩
end
section
variable {M:Model} {A:Around} {E:Value→Shared→Prop} {s:Shared} {n:Nat} {H:Hp} {a:Addr} {cls:Value} {dx:Option Addr}
theorem fq (o:Obj) (f:Array Value→Array Value):(o.mapFields f).dict=o.dict:=by
 obtain ⟨c,d,dt,sl⟩:=o;cases dt <;> rfl
theorem nv {fr:Option Addr} {Q:Unit→Shared→Prop} {fs:List Addr} (F:gk n H s.heap a cls dx)
  (q:∀h' ch,(∀b∈ch,n≤b∧H b=none∧∃o,h'.get? b=some o)→b8 fs ch s.heap h'→gk n H h' a cls dx→Q () { s with heap:=h' }):wpAny M A (setFlight (.ref a) fr) Q E s:=by
 obtain ⟨oe,vs,h1,h2,h3,h4,h5,T,oT,ts,k1,k2,k3,k4,k5,k6,k7⟩:=F.ob;unfold setFlight;refine wpAny_bind (wpAny_field h1 h4 k1 ?_);rw[if_pos (show (Value.ref T !=Value.none)=true from by simp)];refine wpAny_setField k5 k6 k7 ?_;have self:=Heap.get?_update_self (Obj.mapFields (·.setIfInBounds 3 (fr.elim Value.none λf=>rawInt f))) k5 (Obj.isFreed_of_fields (Obj.data_mapFields k6 _));have other:∀b o,b≠T→s.heap.get? b=some o→(s.heap.update T (Obj.mapFields (·.setIfInBounds 3 (fr.elim Value.none λf=>rawInt f)))).get? b=some o:=λb o hb e=>(Heap.get?_update_other _ _ (Ne.symm hb)).trans e;refine q _ [T] (λb hb=>?_) ⟨λb o e _ hb=>other b o (λz=>hb (by simp[z])) e,λb o e hb=>⟨o.slots,other b o (λz=>hb (by simp[z])) e⟩⟩ ⟨F.lo,F.un,oe,vs,other a oe (Ne.symm k4) h1,h2,h3,h4,h5,T,_,_,k1,k2,k3,k4,self,Obj.data_mapFields k6 _,by simpa using k7⟩;obtain rfl:b=T:=by simpa using hb
 exact ⟨k2,k3,_,self⟩
theorem oh {base:Heap} {di env:Env} {outer:List Env} {L:Addr} {hadNext:Bool} {head:Value} {oe:Obj} {vs:Array Value} {Q:Unit→Shared→Prop}
  (hfr:A.frames=some (di::outer)) (hl:s.heap.FunFrames base (di::outer)) (hf0:di.frame=some L) (hf:env.frame=some L) (lo:n≤a) (un:H a=none) (fresh:∀b,s.heap.objs.size≤b→H b=none)
  (h1:s.heap.get? a=some oe) (h2:oe.cls=cls) (h3:oe.dict=dx) (h4:oe.data=.fields vs) (h5:1 < vs.size)
  (q:∀h' ch,(∀b∈ch,n≤b∧H b=none∧∃o,h'.get? b=some o)→b8 (frs (di::outer)) ch s.heap h'→gk n H h' a cls dx→Q () { s with heap:=h' }):
  wpAny M A (do let f ←PySem.frameOf env;let pl ←entryPlaceOf L hadNext;let t ←EntryCells.newEntry head f .none (rawInt L) .none pl;setField (.ref a) 1 t) Q E s:=by
 have na:a∉frs (di::outer):=λhm=>by
  obtain ⟨_,o,ho,hnf⟩:=hl.mem hm;rw[h1] at ho;cases ho
  exact hnf vs h4
 have e0:PySem.frameOf env=PySem.frameOf di:=by unfold PySem.frameOf;rw[hf,hf0]
 rw[e0];refine wpAny_bind (wpAny_frameOf_fun hfr hl hf0 λg sl=>?_);refine wpAny_bind (wpAny_entryPlaceOf λpl hpl=>?_);unfold EntryCells.newEntry newFields;refine wpAny_bind (wpAny_newObj_type ?_ (hpl.sizeOk5 _ _ _ _ _));generalize ht:([head,Value.ref L,.none,rawInt L,.none]++(if pl.isEmpty then ab8 6 Value.none else pl)).toArray=ts;have hts:3 < ts.size:=by rw[←ht];simp only[aa5,aa8,aai,abg] <;> omega
 have g1:g.get? a=some oe:=(sl.2.1 a na).trans h1;have sz:g.objs.size=s.heap.objs.size:=sl.1;have p1:(g.push { cls:=.type "traceback",dict:=none,data:=.fields ts }).get? a=some oe:=Heap.get?_push_of_some _ g1;refine wpAny_setField p1 h4 h5 ?_;have na2:g.objs.size≠a:=aaw (Heap.lt_size g1);have d1:=Obj.data_mapFields h4 (·.setIfInBounds 1 (Value.ref g.objs.size));have u1:=Heap.get?_update_self (Obj.mapFields (·.setIfInBounds 1 (Value.ref g.objs.size))) p1 (Obj.isFreed_of_fields d1);have u2:((g.push { cls:=.type "traceback",dict:=none,data:=.fields ts }).update a (Obj.mapFields (·.setIfInBounds 1 (Value.ref g.objs.size)))).get? g.objs.size=some { cls:=.type "traceback",dict:=none,data:=.fields ts }:=
  (Heap.get?_update_other _ _ (Ne.symm na2)).trans (Heap.get?_push_size g rfl)
 have other:∀b o,b≠a→g.get? b=some o→((g.push { cls:=.type "traceback",dict:=none,data:=.fields ts }).update a (Obj.mapFields (·.setIfInBounds 1 (Value.ref g.objs.size)))).get? b=some o:=λb o hb e=>
  (Heap.get?_update_other _ _ (Ne.symm hb)).trans (Heap.get?_push_of_some _ e)
 refine q _ [a] (λb hb=>?_) ⟨λb o e hb hc=>other b o (λz=>hc (by simp[z])) ((sl.2.1 b hb).trans e),λb o e hc=>?_⟩ ⟨lo,un,_,_,u1,(Obj.cls_mapFields _ _).trans h2,(fq _ _).trans h3,d1,by simpa using h5,g.objs.size,_,_,by simp[h5],?_,?_,na2,u2,rfl,hts⟩
 ·obtain rfl:b=a:=by simpa using hb
  exact ⟨lo,un,_,u1⟩
 ·obtain ⟨sl',e'⟩:=sl.2.2 b o e;exact ⟨sl',other b _ (λz=>hc (by simp[z])) e'⟩
 ·exact aar lo (abb (Heap.lt_size g1))
 ·exact fresh _ (by rw[sz];exact aa3 _)
theorem b8.trans {fs c1 c2:List Addr} {h h1 h2:Heap} (x:b8 fs c1 h h1) (y:b8 fs c2 h1 h2):b8 fs (c1++c2) h h2:=by
 refine ⟨λb o e hb hc=>y.keep b o (x.keep b o e hb λz=>hc (abp _ z)) hb λz=>hc (aah _ z),λb o e hc=>?_⟩;obtain ⟨s1,e1⟩:=x.slot b o e λz=>hc (abp _ z);obtain ⟨s2,e2⟩:=y.slot b _ e1 λz=>hc (aah _ z);exact ⟨s2,e2⟩
theorem An {base:Heap} {di env:Env} {outer:List Env} {L:Addr} {Q:Unit→Shared→Prop}
  (hfr:A.frames=some (di::outer)) (hl:s.heap.FunFrames base (di::outer)) (hf0:di.frame=some L) (hf:env.frame=some L) (fresh:∀b,s.heap.objs.size≤b→H b=none) (F:Fly n H s.heap a cls dx)
  (q:∀h' ch,(∀b∈ch,n≤b∧H b=none∧∃o,h'.get? b=some o)→b8 (frs (di::outer)) ch s.heap h'→gk n H h' a cls dx→Q () { s with heap:=h' }):wpAny M A (noteFrame (.ref a) env) Q E s:=by
 obtain ⟨oe,vs,h1,h2,h3,h4,h5,h6⟩:=F.ob;unfold noteFrame;simp only[hf];rcases h6 with h6 | ⟨T,oT,ts,k1,k2,k3,k4,k5,k6,k7⟩
 ·refine wpAny_bind (wpAny_field h1 h4 h6 ?_);rw[if_neg (by decide)];exact oh hfr hl hf0 hf F.lo F.un fresh h1 h2 h3 h4 h5 q
 ·refine wpAny_bind (wpAny_field h1 h4 k1 ?_);rw[if_pos (show (Value.ref T !=Value.none)=true from by simp)];refine wpAny_bind (wpAny_field k5 k6 (x:=ts[3]) (by simp[k7]) ?_);by_cases hm:(ts[3]==rawInt L)=true
  ·rw[if_pos hm];exact wpAny_pure (q s.heap [] (λb hb=>by cases hb) .refl ⟨F.lo,F.un,oe,vs,h1,h2,h3,h4,h5,T,oT,ts,k1,k2,k3,k4,k5,k6,k7⟩)
  ·rw[if_neg hm];refine wpAny_bind (wpAny_setField k5 k6 k7 ?_);have self:=Heap.get?_update_self (Obj.mapFields (·.setIfInBounds 3 Value.none)) k5 (Obj.isFreed_of_fields (Obj.data_mapFields k6 _));have other:∀b o,b≠T→s.heap.get? b=some o→(s.heap.update T (Obj.mapFields (·.setIfInBounds 3 Value.none))).get? b=some o:=λb o hb e=>(Heap.get?_update_other _ _ (Ne.symm hb)).trans e;have nT:∀b o,s.heap.get? b=some o→(∀vs,o.data≠.fields vs)→b≠T:=λb o e d z=>by
    rw[z,k5] at e;cases e
    exact d ts k6
   have tu:b8 (frs (di::outer)) [T] s.heap (s.heap.update T (Obj.mapFields (·.setIfInBounds 3 Value.none))):=⟨λb o e _ hb=>other b o (λz=>hb (by simp[z])) e,λb o e hb=>⟨o.slots,other b o (λz=>hb (by simp[z])) e⟩⟩;refine oh hfr (hl.of_keeps λb o e d=>⟨o,other b o (nT b o e d) e,rfl⟩) hf0 hf F.lo F.un (λb hb=>fresh b (by rw[show (s.heap.update T (Obj.mapFields (·.setIfInBounds 3 Value.none))).objs.size=s.heap.objs.size from Heap.size_after_update ..] at hb;exact hb)) (other a oe (Ne.symm k4) h1) h2 h3 h4 h5 λh' ch hc tn fl=>?_;refine q h' ([T]++ch) (λb hb=>?_) (tu.trans tn) fl;rcases List.mem_append.mp hb with hb | hb
   ·obtain rfl:b=T:=by simpa using hb
    refine ⟨k2,k3,?_⟩;by_cases hc2:b∈ch
    ·exact (hc b hc2).2.2
    ·obtain ⟨sl,e⟩:=tn.slot b _ self hc2;exact ⟨_,e⟩
   ·exact hc b hb
end
def Bnd (X:Cx) (pins:List (Addr×Obj)) (n:Nat):Prop:=X.s₀.heap.objs.size≤n∧X.env.locals < n∧(∀x c,X.env.cells.lookup x=some c→c < n)∧∀p∈X.pn++pins,p.1 < n
def XE (X:Cx) (E:XK):Value→Shared→Prop:=λe s'=>∃pins σ H n a cls dx,e=.ref a∧Inv X pins σ H s'∧Bnd X pins n∧Fly n H s'.heap a cls dx∧E cls dx H
noncomputable abbrev Cx.xp (X:Cx) (E:XK):Cx:=X.gm (XE X E)
def mq (X:Cx):Prop:=∃di outer0 L,X.stack=di::outer0∧di.frame=some L∧X.env.frame=some L
noncomputable def CXE (P:Program) (w:World):CXT:=λouter H s E e s'=>∃H' a cls dx,e=.ref a∧s'.os=s.os∧AllBare s'.gens∧Un (frs outer) [] H H' s.heap s'.heap∧HOk P w H' s'.heap∧Fly s.heap.objs.size H' s'.heap a cls dx∧E cls dx H'
section
variable {X:Cx} {pins:List (Addr×Obj)} {σ:St} {H:Hp} {s:Shared} {n:Nat} {a:Addr} {cls:Value} {dx:Option Addr} {M:Model} {A:Around} {E':Value→Shared→Prop} {env:Env} {E:XK}
theorem Inv.bnd (I:Inv X pins σ H s):Bnd X pins s.heap.objs.size:=
 ⟨I.sz,I.lt,λx c e=>let ⟨_,z⟩:=I.cell x c e;z.lt,λp hp=>Heap.lt_size (I.pin p hp).1⟩
theorem Bnd.le {m:Nat} (b:Bnd X pins n) (h:n≤m):Bnd X pins m:=
 ⟨aar b.1 h,aa6 b.2.1 h,λx c e=>aa6 (b.2.2.1 x c e) h,λp hp=>aa6 (b.2.2.2 p hp) h⟩
theorem Inv.turn {ch:List Addr} {h':Heap} (I:Inv X pins σ H s) (B:Bnd X pins n) (hc:∀b∈ch,n≤b∧H b=none∧∃o,h'.get? b=some o) (t:b8 (frs X.stack) ch s.heap h'):Inv X pins σ H { s with heap:=h' }:=by
 refine I.call (g':=s.gens) (d':=s.drawn) (t':=s.toks) (t.un λb hb=>(hc b hb).2.2) (t.hok I.hok I.qm λb hb=>(hc b hb).2.1) I.bare λb hb=>?_;have lo:=(hc b hb).1;exact ⟨.inr (aar B.1 lo),aaw (aa6 B.2.1 lo),λx c e=>aab (aa6 (B.2.2.1 x c e) lo),λp hp=>aab (aa6 (B.2.2.2 p hp) lo)⟩
theorem qc {Q:Unit→Shared→Prop} (I:Inv X pins σ H s) (B:Bnd X pins n) (F:Fly n H s.heap a cls dx) (S:mq X) (hA:A.frames=X.A.frames) (hE:env.frame=X.env.frame)
  (q:∀h',Inv X pins σ H { s with heap:=h' }→gk n H h' a cls dx→Q () { s with heap:=h' }):wpAny M A (noteFrame (.ref a) env) Q E' s:=by
 obtain ⟨di,outer0,L,hs,h0,h1⟩:=S;have fr:A.frames=some (di::outer0):=by rw[hA,I.ok.frames,hs]
 have st:=I.stack;rw[hs] at st;refine An fr st h0 (hE.trans h1) (λb hb=>I.hok.fresh hb) F λh' ch hc t fl=>q h' (I.turn B hc ?_) fl;rw[hs];exact t
theorem cw {fr:Option Addr} {Q:Unit→Shared→Prop} (I:Inv X pins σ H s) (B:Bnd X pins n) (F:gk n H s.heap a cls dx)
  (q:∀h',Inv X pins σ H { s with heap:=h' }→gk n H h' a cls dx→Q () { s with heap:=h' }):wpAny M A (setFlight (.ref a) fr) Q E' s:=
 nv (fs:=frs X.stack) F λh' ch hc t fl=>q h' (I.turn B hc t) fl
theorem gk.head {h:Heap} (F:gk n H h a cls dx):∃oe vs T,h.get? a=some oe∧oe.data=.fields vs∧vs[1]?=some (.ref T):=
 let ⟨oe,vs,h1,_,_,h4,_,T,_,_,k1,_⟩:=F.ob;⟨oe,vs,T,h1,h4,k1⟩
theorem Az (S:mq X):PassesOwn (model X.prog X.w) X.A X.env (XE X E):=by
 rintro e s' ⟨pins,σ,H,n,a,cls,dx,rfl,I,B,F,q⟩;refine qc I B F S rfl rfl λh' I' F'=>?_;obtain ⟨oe,vs,T,h1,h2,h3⟩:=F'.head;show wpAny _ _ _ _ _ _
 refine wpAny_bind (wpAny_field (s:={ s' with heap:=h' }) h1 h2 h3 ?_);rw[if_neg (show ¬((Value.ref T==Value.none)=true) from by simp)];exact cw I' B F' λh'' I'' F''=>⟨pins,σ,H,n,a,cls,dx,rfl,I'',B,F''.fly,q⟩
theorem Bu {α:Type} {what:String} {Q:α→Shared→Prop} (I:Inv X pins σ H s) (B:Bnd X pins n) (F:gk n H s.heap a cls dx) (q:E cls dx H):wpAny M A (PySem.passOn what (.ref a) env:Sem α) Q (XE X E) s:=by
 unfold PySem.passOn;obtain ⟨oe,vs,T,h1,h2,h3⟩:=F.head;refine wpAny_bind (wpAny_field h1 h2 h3 ?_);rw[if_neg (show ¬((Value.ref T==Value.none)=true) from by simp)];refine wpAny_bind ?_;exact cw I B F λh' I' F'=>wpAny_throw ⟨pins,σ,H,n,a,cls,dx,rfl,I',B,F'.fly,q⟩
theorem Dk {e:Value} {R:Value→Shared→Prop} (S:mq X) (hx:X.ex=[]) (z:XE X E e s) (q:∀s',CXE X.prog X.w X.outer X.H₀ X.s₀ E e s'→R e s'):wpAny M X.A (leaving X.env e) (λ_ s'=>R e s') E' s:=by
 obtain ⟨pins,σ,H,n,a,cls,dx,rfl,I,B,F,qE⟩:=z;unfold leaving;refine wpAny_bind (qc I B F S rfl rfl λh' I' F'=>?_);refine cw (s:={ s with heap:=h' }) I' B F' λh'' I'' F''=>q _ ?_;have u:=I''.base;rw[hx] at u;exact ⟨H,a,cls,dx,rfl,I''.os,I''.bare,u,I''.hok,F''.fly.le B.1,qE⟩
theorem passX:Passes (CXE X.prog X.w) (X.xp E) E:=by
 rintro pins σ H s e s' I ⟨H',a,cls,dx,rfl,os,bare,un,hok,F,q⟩;have I0:=I.bg;exact ⟨pins,σ,H',_,a,cls,dx,rfl,I0.Bg (ch:=[]) os un hok bare (λb z=>absurd z (by simp)),I0.bnd,F,q⟩
end
section
variable {P:Program} {w:World} {K:PySem.W.Frag} {mg:Str→Option Value} {base:Heap}
theorem ve {CX:CXT} {N:List Str} {qual:Str} {scope:Scope} {f:Addr} {cd:Value} {A:Around} {outer:List Env} {s:Shared} {H:Hp} {E:XK}:mq (ik CX P w K mg base N qual scope f cd A outer s H E):=⟨_,_,_,rfl,rfl,rfl⟩
theorem Fun.okX {x qual:Str} {st:Stmt} {f:Addr} {fd:FuncData} {N ps:List Str} {k:Nat} {sp:Sp} (F:Fun K x qual st f fd) (S:ao N ps (af st)) (len:∀vs H Q E,sp vs H Q E→vs.length=ps.length)
  (hbody:∀(cdv:Value) (A:Around) (outer:List Env) (s:Shared) (H:Hp) (vs:List V) (Q:VK) (E:XK),br k (A.deeper (envOfC qual (af st) s.heap.objs.size f cdv))→sp vs H Q E→
   ∃t,PSs ((ik (CXE P w) P w K mg base N qual (af st) f cdv A outer s H E).xp E) (ak st) t∧t { nx:=λ_ H'=>Q .non H',rt:=Q } (start N vs) H):cx P w K mg base (CXE P w) (k+1) f fd ps sp:=by
 obtain ⟨oc,od,kV,doc,pm,an,cdv,ct,osl,rfl,lk,hcd⟩:=F.ex;refine fn_of lk hcd S len λA outer s H vs Q E hr hsp=>?_;obtain ⟨t,h,q⟩:=hbody cdv A outer s H vs Q E hr hsp;refine ⟨t,λpins s' σ H' D I hw=>wpAny_mono (h pins s' σ H' D (I.gm _) hw) (λ_ _ q=>q.bg) λe s'' z=>?_,q⟩;exact Dk ve rfl z λ_ y=>y
def dz (P:Program) (w:World) (K:PySem.W.Frag) (mg:Str→Option Value) (base:Heap) (k:Nat) (x:Str) (ps:List Str) (sp:Sp):Prop:=
 ∃(f:Addr) (fd:FuncData),cx P w K mg base (CXE P w) k f fd ps sp∧Binds K fd ps []∧PySem.W.keepIn K (.ref f)=true∧mg x=some (.ref f)
theorem dz.up {j k:Nat} {x:Str} {ps:List Str} {sp:Sp} (h:dz P w K mg base j x ps sp) (l:j≤k):dz P w K mg base k x ps sp:=by
 obtain ⟨f,fd,F,r⟩:=h;exact ⟨f,fd,F.mono l,r⟩
theorem Def.hasX {k:Nat} {x:Str} {st:Stmt} {N ps:List Str} {sp:Sp} (D:Def K mg x st ps) (S:ao N ps (af st)) (len:∀vs H Q E,sp vs H Q E→vs.length=ps.length)
  (hbody:∀(f:Addr) (cdv:Value) (A:Around) (outer:List Env) (s:Shared) (H:Hp) (vs:List V) (Q:VK) (E:XK),br k (A.deeper (envOfC x (af st) s.heap.objs.size f cdv))→sp vs H Q E→
   ∃t,PSs ((ik (CXE P w) P w K mg base N x (af st) f cdv A outer s H E).xp E) (ak st) t∧t { nx:=λ_ H'=>Q .non H',rt:=Q } (start N vs) H):dz P w K mg base (k+1) x ps sp:=by
 obtain ⟨f,fd,F,b,m⟩:=D;exact ⟨f,fd,F.okX S len λcdv A outer s H vs Q E hr h=>hbody f cdv A outer s H vs Q E hr h,b,F.kp,m⟩
end
section
variable {X:Cx} {E:XK} {k:Nat} {ps:List Str} {sp:Sp} {x:Str} {p pos:Pos} {e:Expr} {es:List Expr} {t:TA}
theorem Cn (h:dz X.prog X.w X.K X.mg X.base k x ps sp) (hr:br k X.A) (ha:PA (X.xp E) (e::es) t) (hg:Gl X x:=by rfl) (hdb:(x==("__debug__":Str))=false:=by decide+kernel)
  (he:starEach (e::es) X.env=(false,eval e X.env)::starEach es X.env:=by rfl) (hpl:(backTo pos (starEach es X.env)).any (·.1)=false:=by rfl):
  PE (X.xp E) (.Call (.Name x p) (e::es) [] pos) (m6 sp [] E t):=by
 obtain ⟨f,fd,F,b,kp,m⟩:=h;exact rh (X:=X.xp E) F hr hg m kp b .nil passX ha hdb he hpl
end
section
variable {X:Cx} {scope:Scope} {own fr:List Str} {ix:List Nat} {cl:List (Str×Addr)} {elt iter tg:Expr} {ifs:List Expr} {pos:Pos} {wi:TI} {g:TG} {tc:TT} {te:TE}
theorem Fly.same {n:Nat} {H:Hp} {h h':Heap} {a C:Addr} {cls:Value} {dx:Option Addr} (F:gk n H h a cls dx) (hlt:C < n) (sb:Heap.SameBut C h h'):gk n H h' a cls dx:=by
 obtain ⟨oe,vs,h1,h2,h3,h4,h5,T,oT,ts,k1,k2,k3,k4,k5,k6,k7⟩:=F.ob;exact ⟨F.lo,F.un,oe,vs,(sb.2 a (aaw (aa6 hlt F.lo))).trans h1,h2,h3,h4,h5,T,oT,ts,k1,k2,k3,k4,(sb.2 T (aaw (aa6 hlt k2))).trans k5,k6,k7⟩
theorem yy {Ex:XK} {pins:List (Addr×Obj)} {σ:St} {H3 H':Hp} {s3 s':Shared} {n:Nat} {a:Addr} {cls:Value} {dx:Option Addr} {u:Option (Value→Sem Unit)} {Q:Value→Shared→Prop} {acc:Value} (I3:Inv X pins σ H3 s3) (I':Inv X pins σ H' s') (hn:H' s3.heap.objs.size=none)
  (hm:∃m,s'.heap.Ns s3.heap.objs.size m) (hlt:s3.heap.objs.size < n) (F:gk n H' s'.heap a cls dx) (qE:Ex cls dx H'):compPost (model X.prog X.w) X.A (XE X Ex) u Q acc s3.heap.objs.size (.error (.ref a)) s':=by
 obtain ⟨m,hm⟩:=hm;refine ⟨m,hm,λh' sb cenv _=>?_⟩;exact Bu (s:={ s' with heap:=h' }) (ja I3 I' hn sb) (I3.bnd.le (abb hlt)) (Fly.same F hlt sb) qE
theorem sh {Ex:XK} (S:mq X) {E:Value→Shared→Prop} {RR:Value→Addr→Result→Shared→Prop} (C:d6 X scope own fr ix cl) (hc:X.calm=true)
  (hg:∀fp s H,PG ((cxC X scope cl (own++fr) fp s H).xp Ex) tg g) (ht:∀fp s H,u7 ((cxC X scope cl (own++fr) fp s H).xp Ex) ifs tc) (he:∀fp s H,PE ((cxC X scope cl (own++fr) fp s H).xp Ex) elt te)
  {pins:List (Addr×Obj)} {σ:St} {H2:Hp} {s2:Shared} {it:Addr} {fp:List Addr} {tn:Nat→Heap→Prop} {J:It} {Q:Hp→Prop} (I2:Inv X pins σ H2 s2) (T:Turn X.prog X.w X.K tg J fp it tn) (st2:tn 0 s2.heap) (f2:∀b∈fp,iq X pins H2 b)
  (q:LC own.length (jr ix σ) g tc te J s2.heap.objs.size H2 Q)
  (hRR:∀(s3 s':Shared) (H3 H':Hp) (τ:St),Inv X pins σ H3 s3→Inv X pins σ H' s'→H' s3.heap.objs.size=none→(∃m,s'.heap.Ns s3.heap.objs.size m)→Q H'→RR (.ref s2.heap.objs.size) s3.heap.objs.size (.ok .next) s')
  (hRE:∀(s3 s':Shared) (H3 H':Hp) (n:Nat) (a:Addr) (cls:Value) (dx:Option Addr),Inv X pins σ H3 s3→Inv X pins σ H' s'→H' s3.heap.objs.size=none→(∃m,s'.heap.Ns s3.heap.objs.size m)→s3.heap.objs.size < n→gk n H' s'.heap a cls dx→Ex cls dx H'→
   RR (.ref s2.heap.objs.size) s3.heap.objs.size (.error (.ref a)) s'):
  wpAny (model X.prog X.w) X.A (newList []) (λacc s₃=>wpAny (model X.prog X.w) X.A (newFunctionEnv scope X.env.globals cl [] X.env.qual none .none (some X.env)) (λcenv s₄=>
   codeAny (model X.prog X.w) X.A (.compStart (.ListComp elt [⟨tg,iter,ifs,0⟩] scope pos) 0 (.ref it) acc { cenv with scope:=relabel scope X.env }) (RR acc cenv.locals) s₄) E s₃) E s2:=by
 refine wpAny_newObj_type ?_;have I3:Inv X pins σ (upd H2 s2.heap.objs.size (.lst [])) { s2 with heap:=s2.heap.push { cls:=.type "list",dict:=none,data:=.seq ([]:List Value).toArray } }:=I2.lnew (t':=s2.toks) (its:=[]) .nil (ab0 _);have lt2:∀b∈fp,b < s2.heap.objs.size:=λb hb=>by
  obtain ⟨o,e,_⟩:=T.obj 0 _ st2 b hb;exact Heap.lt_size e
 have fneD:∀b∈fp,b≠s2.heap.objs.size:=λb hb=>aab (lt2 b hb);generalize hs3:({ s2 with heap:=s2.heap.push { cls:=.type "list",dict:=none,data:=.seq ([]:List Value).toArray } }:Shared)=s3 at I3 ⊢;have hsz:s3.heap.objs.size=s2.heap.objs.size+1:=by rw[←hs3];exact Heap.size_push ..
 have kp23:∀b o,s2.heap.get? b=some o→s3.heap.get? b=some o:=λb o e=>by rw[←hs3];exact Heap.get?_push_of_some _ e
 have f3:∀b∈fp,iq X pins (upd H2 s2.heap.objs.size (.lst [])) b:=λb hb=>by
  obtain ⟨f0,fr⟩:=f2 b hb;exact ⟨by rw[ag (fneD b hb)];exact f0,fr⟩
 have lt3:∀b∈fp,b < s3.heap.objs.size:=λb hb=>by rw[hsz];exact ac4 (lt2 b hb)
 refine wpAny_newFunctionEnv C.wu (by intro y hy;simp at hy) (λh₁ hns₁ hsb₁=>?_) C.kind;have k34:∀b o,s3.heap.get? b=some o→h₁.get? b=some o:=λb o e=>
  (hsb₁.2 b (aab (Heap.lt_size e))).trans (Heap.get?_push_of_some _ e)
 have I4:=su C I3 f3 lt3 (t:=s3.toks+([]:List (Str×Value)).length) hns₁ k34;have st4:tn 0 h₁:=T.keep 0 _ _ st2 λb _ o e=>k34 b o (kp23 b o e);obtain ⟨W,⟨m0,w0⟩,turn⟩:=q;have loop:∀s4:Shared,s4={ s3 with heap:=h₁,toks:=s3.toks+([]:List (Str×Value)).length }→
   codeAny (model X.prog X.w) X.A (.compLoop (.ListComp elt [⟨tg,iter,ifs,0⟩] scope pos) 0 (.ref it) (.ref s2.heap.objs.size) (compEnvC scope cl s3.heap.objs.size X.env)) (RR (.ref s2.heap.objs.size) s3.heap.objs.size) s4:=by
  rintro s4 rfl;have stat:∀{H':Hp},(∀b∈fp,H' b=none)→∀b∈fp,iq (cxC X scope cl (own++fr) fp s3 (upd H2 s2.heap.objs.size (.lst []))) [] H' b:=λ{H'} hn b hb=>
   ⟨hn b hb,aab (lt3 b hb),I4.ok.exfs b hb,.inl hb,(I4.ok.exf b hb).2,λp hp=>by cases hp⟩
  have thrown:∀e s',XE (cxC X scope cl (own++fr) fp s3 (upd H2 s2.heap.objs.size (.lst []))) Ex e s'→notedBy (model X.prog X.w) X.A (compEnvC scope cl s3.heap.objs.size X.env) (λe s'=>RR (.ref s2.heap.objs.size) s3.heap.objs.size (.error e) s') e s':=by
   rintro e s' ⟨pins',σ',H',n,a,cls,dx,rfl,J,B,F,qE⟩;obtain ⟨e0,o0,L0,k1,k2,k3⟩:=S;refine qc J B F ⟨e0,o0,L0,k1,k2,k3⟩ rfl rfl λh' J' F'=>?_;obtain ⟨mm,hmm,_⟩:=J'.loc;exact hRE s3 _ _ H' n a cls dx I3 (m4 I3 f3 J') J'.free ⟨mm,hmm⟩ B.2.1 F' qE
  refine i9 (λn s'=>∃i τ H',τ.length=own.length∧Inv (cxC X scope cl (own++fr) fp s3 (upd H2 s2.heap.objs.size (.lst []))) [] (τ++jr ix σ) H' s'∧tn i s'.heap∧(∀b∈fp,H' b=none)∧W i n H') ?_ m0
   ⟨0,ab8 own.length none,_,abl,I4,st4,λb hb=>(f3 b hb).1,w0⟩
  rintro n s5 ⟨i,τ,H5,hτ,I5,st5,fr5,w5⟩;rcases turn i n H5 w5 with ⟨stop,qn⟩ | ⟨go,step⟩
  ·refine wpAny_mono (T.done (cxC X scope cl (own++fr) fp s3 (upd H2 s2.heap.objs.size (.lst []))) rfl rfl rfl hc i [] s5 _ H5 (λ_ _=>False) I5 (stat fr5) st5 stop) (λr s6 ⟨hr,I6⟩=>?_) λ_ _ z=>z.elim;subst hr;obtain ⟨mm,hmm,_⟩:=I6.loc;exact hRR s3 s6 _ H5 τ I3 (m4 I3 f3 I6) I6.free ⟨mm,hmm⟩ qn
  ·refine wpAny_mono (T.item (cxC X scope cl (own++fr) fp s3 (upd H2 s2.heap.objs.size (.lst []))) rfl rfl rfl hc i [] s5 _ H5 (λ_ _=>False) I5 (stat fr5) st5 go) (λr s6 ⟨u,hr,h6⟩=>?_) λ_ _ z=>z.elim;subst hr;refine wpAny_mono h6 (λ_ s7 ⟨x,H7,I7,r7,y7,st7,fr7⟩=>?_) λ_ _ z=>z.elim;have I7':=I7.pinned (stat fr7) (T.obj _ _ st7);refine wpAny_mono (hg fp s3 _ _ s7 _ H7 x u _ (I7'.gm _) r7 (step τ x H7 hτ y7)) (λ_ s8 ⟨σ8,H8,I8',⟨τ',hτ',e8⟩,q8⟩=>?_) thrown;have I8:=I8'.bg;have fin:∀{H9:Hp} {s9:Shared},Inv (cxC X scope cl (own++fr) fp s3 (upd H2 s2.heap.objs.size (.lst []))) ([]++js fp s7.heap) σ8 H9 s9→(∃m',m' < n∧W (i+1) m' H9)→
     ∃m,m < n∧∃i τ H',τ.length=own.length∧Inv (cxC X scope cl (own++fr) fp s3 (upd H2 s2.heap.objs.size (.lst []))) [] (τ++jr ix σ) H' s9∧tn i s9.heap∧(∀b∈fp,H' b=none)∧W i m H':=λ{H9 s9} I9 hw=>by
    obtain ⟨m',hm,w9⟩:=hw;refine ⟨m',hm,i+1,τ',H9,hτ',e8 ▸ I9.ft,T.keep _ _ _ st7 λb hb o e=>(I9.pin (b,o) (aah _ (aah _ (cn hb e)))).1,λb hb=>?_,w9⟩;obtain ⟨o,e,d⟩:=T.obj _ _ st7 b hb;exact (I9.pin (b,o) (aah _ (aah _ (cn hb e)))).2.1
   refine wpAny_mono (ht fp s3 _ _ s8 σ8 H8 _ I8' q8) (λok s9 ⟨H9,I9',q9⟩=>?_) thrown;have I9:=I9'.bg;cases ok with
   | false=>exact fin I9 q9
   | true=>
    refine wpAny_mono (he fp s3 _ _ s9 σ8 H9 _ I9' q9) (λy s10 ⟨v10,H10,I10',r10,ys,hD,hz,q10⟩=>?_) thrown;have I10:=I10'.bg;refine wpAny_mono (jx (X:=cxC X scope cl (own++fr) fp s3 (upd H2 s2.heap.objs.size (.lst []))) _ s10 σ8 H10 (.ref s2.heap.objs.size) [v10] _ [y] (λ_ H'=>∃m',m' < n∧W (i+1) m' H') I10 rfl (.cons r10 .nil) ⟨_,ys,v10,rfl,rfl,hD,hz,q10⟩) (λ_ s11 ⟨_,H11,I11,_,q11⟩=>?_) λ_ _ z=>z.elim;exact fin I11 q11
 exact codeAny_compStart_list (loop _ rfl) (T.self _ 0 _ _ _ st4 (loop _ rfl))
theorem pe_lcX {Ex:XK} (S:mq X) (C:d6 X scope own fr ix cl) (hc:X.calm=true) (hi:PI (X.xp Ex) tg iter wi) (hg:∀fp s H,PG ((cxC X scope cl (own++fr) fp s H).xp Ex) tg g)
  (ht:∀fp s H,u7 ((cxC X scope cl (own++fr) fp s H).xp Ex) ifs tc) (he:∀fp s H,PE ((cxC X scope cl (own++fr) fp s H).xp Ex) elt te)
  (hs:∀x,foldedSetIterable iter X.env x=pure x:=by intro _;rfl):PE (X.xp Ex) (.ListComp elt [⟨tg,iter,ifs,0⟩] scope pos) (tLC own.length ix wi g tc te):=by
 intro pins s σ H Q I h;rw[eval_ListComp];refine wpAny_comprehension_free (use:=none) rfl hs C.clos C.kind C.vo (thn (hi pins s σ H _ I h) λv s1 h1=>thn h1 λitv s2 h2=>?_);obtain ⟨it,fp,tn,J,H2,e,I2',T,st2,f2,q⟩:=h2;have I2:=I2'.bg;subst e;refine sh (Ex:=Ex) S (RR:=λacc D=>compPost (model X.prog X.w) X.A (XE X Ex) none (EP (X.xp Ex) pins σ Q) acc D) C hc hg ht he I2 T st2 f2 (q _ (I2.hok.fresh (aa3 _))) (λs3 s' H3 H' τ I3 I' hn hm q'=>?_) λs3 s' H3 H' n a cls dx I3 I' hn hm hlt F qE=>?_
 ·obtain ⟨m,hm⟩:=hm;exact ⟨m,hm,λh' sb=>⟨.ref s2.heap.objs.size,H',(ja I3 I' hn sb).gm _,rfl,q'⟩⟩
 ·exact yy I3 I' hn hm hlt F qE
end
end L2
namespace PySem
open Sem (wp)
structure Xc (K:W.Frag) (C:Addr) (bm:List Value):Prop where
 lk:∃nm q N bs sn sub ab col dd k0 k1 k2 k3 k5,K.lookup C=some (excClassObj nm q C N bs bm true sn sub ab col dd k0 k1 k2 k3 k5 "ValueError.__new__")
 hv:bm.contains (.type "ValueError")=true
 hb:bm.contains (.type "BaseException")=true
 ha:bm.contains (.type "AttributeError")=false
 hn:bm.contains (.type "NameError")=false
 ho:bm.contains (.type "object")=true
 kp:W.keepIn K (.ref C)=true
 sa:∀self:Value,refuseLoop self "__setattr__" bm=pure ()
 fs:W.findIn K (.ref C) "__setattr__"=some (some (.builtin "object.__setattr__"))
 fg:W.findIn K (.ref C) "__getattribute__"=some (some (.builtin "BaseException.__getattribute__"))
 fh:W.findIn K (.ref C) "__getattr__"=some none
 fc:W.findIn K (.ref C) "__class__"=some (some (.builtin "object.__class__"))
section
variable {prog:Program} {w:World} {A:Around} {E:Value→Shared→Prop} {K:W.Frag} {C:Addr} {bm rest:List Value} {init:Value}
theorem Bz {h:Heap} {g:Array GenState} {d:Drawn} {t:Nat} {os:OsState} {R:Result→Shared→Prop} (X:K.In h) (c:Xc K C bm) (hl:rest.length≤sizeLine)
  (q:R (.ok (.ret (.ref (h.objs.size+1)))) ⟨(h.push { cls:=.type "tuple",data:=.seq rest.toArray }).push { cls:=.ref C,data:=.fields #[.ref h.objs.size,.none,.none,.none,.bool false,.none] },g,d,t,os⟩):
  codeAny (model prog w) A (.builtin "ValueError.__new__" ⟨.ref C::rest,[]⟩) R ⟨h,g,d,t,os⟩:=by
 obtain ⟨nm,qn,N,bs,sn,sub,ab,col,dd,k0,k1,k2,k3,k5,lk⟩:=c.lk;have hC:=X _ _ lk;have Fv:=PySem.F.excBase_ValueError;have hends:=Fv.ends;have z1:(Value.ref C::bm).contains (.type "ValueError")=true:=by rw[aap,c.hv,abh]
 have z2:(Value.ref C::bm).contains (.type "AttributeError")=false:=by rw[aap,c.ha];rfl
 have z3:(Value.ref C::bm).contains (.type "NameError")=false:=by rw[aap,c.hn];rfl
 refine codeAny_builtinAt Fv.entry ?_;unfold Builtin.«BaseException.__new__»;refine wpAt_bind ?_;show wpAt _ _ _ (stack >>=_) _ _ _
 refine wpAt_bind (wpAt_stack λp below=>wpAt_of_wpAny ?_);wp_walk
 refine wpAt_of_wpAny ?_;rw[Fv.owner];repeat (first | with_reducible refine wpAny_madeHere_exc Fv.canon hC ?_ | with_reducible refine wpAny_loadPart_at hC ?_ | (with_reducible refine wpAny_isSubtype_exc hC ?_;first | rw[z1] | rw[z2] | rw[z3]) | wp_step)
 show R _ _
 rw[Heap.size_push];exact q
theorem vh {h:Heap} {g:Array GenState} {d:Drawn} {t:Nat} {os:OsState} {Q:Fin→Shared→Prop} (X:K.In h) (c:Xc K C bm) (hi:W.findIn K (.ref C) "__init__"=some (some init))
  (hb:∀self,W.Looks (model prog w) h (bindSpecial init self) (init,[self])) (hl:rest.length≤sizeLine)
  (q:wpAny (model prog w) A (call init (.ref (h.objs.size+1)::rest)) (λr s'=>r=.none∧Q (.done (.ret (.ref (h.objs.size+1)))) s') E
   ⟨(h.push { cls:=.type "tuple",data:=.seq rest.toArray }).push { cls:=.ref C,data:=.fields #[.ref h.objs.size,.none,.none,.none,.bool false,.none] },g,d,t,os⟩):
  wpAny (model prog w) A (Builtin.«type.__call__» ⟨.ref C::rest,[]⟩) Q E ⟨h,g,d,t,os⟩:=by
 obtain ⟨nm,qn,N,bs,sn,sub,ab,col,dd,k0,k1,k2,k3,k5,lk⟩:=c.lk;have hC:=X _ _ lk;have Fv:=PySem.F.excBase_ValueError;repeat (first | with_reducible refine wpAny_loadPart_at hC ?_ | with_reducible refine wpAny_madeBy_exc hC ?_ | wp_step)
 refine codeAny_call_builtin_code (Code.quiet_builtin _ Fv.quiet) (wpAny_check_new_subU Fv c.hv .base hC ?_);refine Bz X c hl ?_;show wpAny _ _ _ _ _ _
 have kk:∀b o,h.get? b=some o→((h.push { cls:=.type "tuple",data:=.seq rest.toArray }).push { cls:=.ref C,data:=.fields #[.ref h.objs.size,.none,.none,.none,.bool false,.none] }).get? b=some o:=
  λb o e=>Heap.get?_push_of_some _ (Heap.get?_push_of_some _ e)
 have hC2:=kk _ _ hC;have he:((h.push { cls:=.type "tuple",data:=.seq rest.toArray }).push { cls:=.ref C,data:=.fields #[.ref h.objs.size,.none,.none,.none,.bool false,.none] }).get? (h.objs.size+1)=some
   { cls:=.ref C,data:=.fields #[.ref h.objs.size,.none,.none,.none,.bool false,.none] }:=by heap_get
 have z4:(Value.ref C::bm).contains (.ref C)=true:=by simp
 unfold isInstance;repeat (first | with_reducible refine wpAny_loadPart_at he ?_ | (with_reducible refine wpAny_isSubtype_exc hC2 ?_;rw[z4]) | wp_step)
 show wpAny _ _ (typeLookup (.ref C) _) _ _ _
 refine ((W.looks_findIn X hi).keeps kk).here ?_;refine wpAny_holding (wpAny_bind (((hb _).keeps kk).here ?_));refine wpAny_bind (wpAny_mono q (λr s' hr=>?_) λ_ _ z=>z);obtain ⟨rfl,hQ⟩:=hr;wp_walk
 exact hQ
theorem jd {s:Shared} {Q:Value→Shared→Prop} (X:K.In s.heap) (c:Xc K C bm) (hi:W.findIn K (.ref C) "__init__"=some (some init)) (hb:∀self,W.Looks (model prog w) s.heap (bindSpecial init self) (init,[self]))
  (hl:rest.length≤sizeLine)
  (q:wpAny (model prog w) (A.under (.builtin "type.__call__" ⟨.ref C::rest,[]⟩)) (call init (.ref (s.heap.objs.size+1)::rest)) (λr s'=>r=.none∧Q (.ref (s.heap.objs.size+1)) s') E
   { s with heap:=(s.heap.push { cls:=.type "tuple",data:=.seq rest.toArray }).push { cls:=.ref C,data:=.fields #[.ref s.heap.objs.size,.none,.none,.none,.bool false,.none] } }):
  wpAny (model prog w) A (call (.ref C) rest) Q E s:=by
 obtain ⟨h,g,d,t,os⟩:=s;obtain ⟨nm,qn,N,bs,sn,sub,ab,col,dd,k0,k1,k2,k3,k5,lk⟩:=c.lk;have hC:=X _ _ lk;dsimp only at hC q;have g1:=tc_lookup;have g2:=tc_bind (.ref C);have g3:(⟨h,g,d,t,os⟩:Shared).TypeIs (.ref C) "type":=⟨_,hC,rfl⟩;refine wpAny_call (codeAny_of_tree ?_);show wpAny _ _ (callAny (.ref C) _) _ _ _
 repeat (any_goals (first | assumption | with_reducible refine wpAny_loadPart_at hC ?_ | wp_step))
 refine ⟨rfl,?_⟩;refine codeAny_call_builtin_at (Code.quiet_builtin _ (by decide+kernel)) entry_typeCall (wpAny_check_type_call_sub hC (vh X c hi hb hl ?_));exact q
end
end PySem
namespace L2
open PySem PySem.Spec PyProof.Rows
noncomputable def XO (a C:Addr) (dx:Option Addr) (nw:Bool):HO:=.ext λh=>∃o vs,h.get? a=some o∧o.cls=.ref C∧o.dict=dx∧o.data=.fields vs∧(nw=true→∃t,vs=#[.ref t,.none,.none,.none,.bool false,.none])
noncomputable def XD (dx:Addr) (fs:List (Str×V)):HO:=.ext λh=>∃mA,h.Ns1 dx mA∧(∀f,d9 (fs.lookup f) (mA f))∧PySem.Within mA (fs.map (·.1))
theorem XO.mk {P:Program} {w:World} {H:Hp} {h:Heap} {a C:Addr} {dx:Option Addr} {nw:Bool} (e:∃o vs,h.get? a=some o∧o.cls=.ref C∧o.dict=dx∧o.data=.fields vs∧(nw=true→∃t,vs=#[.ref t,.none,.none,.none,.bool false,.none])):ay P w H h a (XO a C dx nw):=by
 refine ⟨e,?_,?_⟩
 ·obtain ⟨o,_,q,_⟩:=e;exact ⟨o,q⟩
 ·rintro h1 h2 ⟨o,vs,q,r⟩ k;exact ⟨o,vs,k o q,r⟩
theorem XD.mk {P:Program} {w:World} {H:Hp} {h:Heap} {dx:Addr} {fs:List (Str×V)} (e:∃mA,h.Ns1 dx mA∧(∀f,d9 (fs.lookup f) (mA f))∧PySem.Within mA (fs.map (·.1))):ay P w H h dx (XD dx fs):=by
 refine ⟨e,?_,?_⟩
 ·obtain ⟨_,⟨o,_,_,q,_⟩,_⟩:=e;exact ⟨o,q⟩
 ·rintro h1 h2 ⟨mA,⟨o,es,ep,q,r⟩,z⟩ k;exact ⟨mA,⟨o,es,ep,k o q,r⟩,z⟩
theorem XO.get {P:Program} {w:World} {H:Hp} {h:Heap} {a C:Addr} {dx:Option Addr} {nw:Bool} (x:HOk P w H h) (e:H a=some (XO a C dx nw)):∃o vs,h.get? a=some o∧o.cls=.ref C∧o.dict=dx∧o.data=.fields vs∧(nw=true→∃t,vs=#[.ref t,.none,.none,.none,.bool false,.none]):=(x a _ e).1
theorem XD.get {P:Program} {w:World} {H:Hp} {h:Heap} {dx:Addr} {fs:List (Str×V)} (x:HOk P w H h) (e:H dx=some (XD dx fs)):∃mA,h.Ns1 dx mA∧(∀f,d9 (fs.lookup f) (mA f))∧PySem.Within mA (fs.map (·.1)):=(x dx _ e).1
end L2
namespace PySem
open Sem (wp)
open Builtin Builtin.ObjectAttr
section
variable {prog:Program} {w:World} {A:Around} {E:Value→Shared→Prop} {K:W.Frag} {C x:Addr} {bm rest:List Value} {h:Heap} {g:Array GenState} {d:Drawn} {t:Nat} {os:OsState} {o:Obj} {vs:Array Value}
theorem jz {R:Result→Shared→Prop} (X:K.In h) (c:Xc K C bm) (hx:h.get? x=some o) (hc:o.cls=.ref C) {t0:Addr} (hd:o.data=.fields #[.ref t0,.none,.none,.none,.bool false,.none]) (hl:rest.length≤sizeLine)
  (q:R (.ok (.ret .none)) ⟨(h.push { cls:=.type "tuple",data:=.seq rest.toArray }).update x (Obj.mapFields (·.setIfInBounds 0 (.ref h.objs.size))),g,d,t,os⟩):
  codeAny (model prog w) A (.call (.builtin "ValueError.__init__") ⟨.ref x::rest,[]⟩) R ⟨h,g,d,t,os⟩:=by
 obtain ⟨nm,qn,N,bs,sn,sub,ab,col,dd,k0,k1,k2,k3,k5,lk⟩:=c.lk;have hC:=X _ _ lk;have Fv:=PySem.F.excBase_ValueError;have z1:(Value.ref C::bm).contains (.type "ValueError")=true:=by rw[aap,c.hv,abh]
 have short:=Fv.noStar;refine codeAny_call_builtin Fv.init.plain Fv.initEntry ?_;simp only[checkBuiltinCall,Fv.initKind,Fv.initSplit,Fv.initRow];repeat (first | (with_reducible refine wpAny_loadPart_at hx ?_;rw[hc]) | with_reducible refine wpAny_loadPart_at hC ?_ | (with_reducible refine wpAny_isSubtype_exc hC ?_;rw[z1]) | wp_step)
 refine wpAny_onRaise ?_;rw[show ∀(a b:String) (n:Nat),Bind.check ⟨.positional,"*","ValueError",.self,[⟨"args",.varPos,false⟩]⟩ a b n (ac7 (λy=>y.fst) ({ pos:=Value.ref x::rest }:Args).kw)=pure () from λa b n=>check_star_args _ _ _ _ _ _];refine wpAny_pure ?_;unfold Builtin.«BaseException.__init__»;have hx2:(h.push { cls:=.type "tuple",data:=.seq rest.toArray }).get? x=some o:=Heap.get?_push_of_some _ hx;have hz:0 < (#[.ref t0,.none,.none,.none,.bool false,.none]:Array Value).size:=by show 0 < 6;decide
 have hz1:(#[.ref t0,.none,.none,.none,.bool false,.none]:Array Value)[0]?=some (.ref t0):=rfl;repeat (first | with_reducible refine wpAny_field hx2 hd hz1 ?_ | with_reducible refine wpAny_setField hx2 hd hz ?_ | wp_step)
 all_goals first | exact q | skip
theorem m7 {M:Model} (hx:h.get? x=some o) (hc:o.cls=.ref C):W.Looks M h (typeOf (.ref x)) (.ref C):=hc ▸ (W.Looks.ld hx).andThen .now
theorem xmro {M:Model} (X:K.In h) (c:Xc K C bm):W.Looks M h (mroOf (.ref C)) (.ref C::bm):=by
 obtain ⟨nm,qn,N,bs,sn,sub,ab,col,dd,k0,k1,k2,k3,k5,lk⟩:=c.lk;exact ((W.Looks.ld (part:=none) (X _ _ lk)).andThen .now).andThen .now
theorem xsub {M:Model} (X:K.In h) (c:Xc K C bm) (b:Value):W.Looks M h (isSubtype (.ref C) b) ((Value.ref C::bm).contains b):=by
 obtain ⟨nm,qn,N,bs,sn,sub,ab,col,dd,k0,k1,k2,k3,k5,lk⟩:=c.lk;intro A' Q' E' s' k' q';obtain ⟨h2,g2,d2,t2,o2⟩:=s';exact wpAny_isSubtype_exc (k' _ _ (X _ _ lk)) q'
theorem Ae {M:Model} (X:K.In h) (c:Xc K C bm) (hx:h.get? x=some o) (hc:o.cls=.ref C) (b:Value):W.Looks M h (isInstance (.ref x) b) ((Value.ref C::bm).contains b):=(m7 hx hc).andThen (xsub X c b)
theorem W.ck {cd:ClassData} {oc:Value} {od:Option Addr} {sl:Array (Option Value)} (lk:K.lookup C=some ⟨oc,od,.cls cd,sl⟩):W.clsIn K C=some cd:=by
 unfold W.clsIn;rw[lk]
theorem pw {name:Str} {v:Value} {tk:Tok} {R:Result→Shared→Prop} (X:K.In h) (c:Xc K C bm) (hna:W.findIn K (.ref C) name=some none) (hx:h.get? x=some o) (hc:o.cls=.ref C)
  (q:wpAny (model prog w) A.in1 (instanceDict x true >>=λr=>match r with | some dd=>storeInDict dd (.str name tk) name v | none=>noDictFor (.ref x) (.ref C) name false)
   (λfin s'=>match fin with | .done f=>R (.ok f) s' | .again c'=>c'.quiet=true∧codeAny (model prog w) A c' R s') (λe s'=>R (.error e) s') ⟨h,g,d,t,os⟩):
  codeAny (model prog w) A (.call (.builtin "object.__setattr__") ⟨[.ref x,.str name tk,v],[]⟩) R ⟨h,g,d,t,os⟩:=by
 have SF:=PySem.F.store_ValueError;have z1:(Value.ref C::bm).contains (.type "object")=true:=by rw[aap,c.ho,abh]
 have I:W.Looks (model prog w) h (isInstance (.ref x) (.type "object")) true:=z1 ▸ Ae X c hx hc (.type "object");refine codeAny_call_builtin SF.slot.plain SF.entry (@W.check_slot (model prog w) _ _ ⟨h,g,d,t,os⟩ "object.__setattr__" "object" "__setattr__" (.ref x) [.str name tk,v] [] _ SF.kind SF.split I (SF.args (.ref x) (.str name tk) v) ?_);rw[W.osa_eq,refuse_eq];refine wpAny_bind (wpAny_bind ((m7 hx hc).here (wpAny_bind ((xmro X c).here ?_))));rw[refuseLoop_ref,c.sa];refine wpAny_pure (wpAny_bind ((m7 hx hc).here (wpAny_bind ((W.looks_findIn X hna).here (wpAny_bind (wpAny_pure ?_))))));exact wpAny_bind (wpAny_pure q)
theorem Br {name:Str} {v:Value} {tk:Tok} {R:Result→Shared→Prop} (X:K.In h) (c:Xc K C bm) (hna:W.findIn K (.ref C) name=some none) (hx:h.get? x=some o) (hc:o.cls=.ref C) (hd:o.data=.fields vs) (hdn:o.dict=none)
  (q:∀h' tk',h'.Ns1 h.objs.size (λy=>if y=name then some v else none)→h'.get? x=some { o with dict:=some h.objs.size }→(∀b u,b≠x→h.get? b=some u→h'.get? b=some u)→R (.ok (.ret .none)) ⟨h',g,d,tk',os⟩):
  codeAny (model prog w) A (.call (.builtin "object.__setattr__") ⟨[.ref x,.str name tk,v],[]⟩) R ⟨h,g,d,t,os⟩:=by
 refine pw X c hna hx hc ?_;obtain ⟨nm,qn,N,bs,sn,sub,ab,col,dd,k0,k1,k2,k3,k5,lk⟩:=c.lk;have hC:=X _ _ lk;have hx1:(h.push { cls:=.type "dict",data:=.dict #[] }).get? x=some o:=Heap.get?_push_of_some _ hx;have ne:x≠h.objs.size:=aab (Heap.lt_size hx);have hfr:=(Heap.get?_some_iff.mp hx).2;obtain ⟨oc,od,odt,osl⟩:=o;obtain rfl:oc=.ref C:=hc;obtain rfl:odt=.fields vs:=hd;obtain rfl:od=none:=hdn;refine wpAny_bind (wpAny_bind (wpAny_loadPart hx ?_));dsimp only;refine wpAny_bind ((W.looks_clsIn X (W.ck lk)).here ?_);dsimp only;rw[if_neg (by decide)];refine wpAny_bind (wpAny_alloc' ?_);refine wpAny_bind (wpAny_update' hx1 ?_);refine wpAny_pure ?_;have gd:((h.push { cls:=.type "dict",data:=.dict #[] }).update x λo=>{ cls:=o.cls,dict:=some h.objs.size,data:=o.data,slots:=o.slots }).get? h.objs.size=some { cls:=.type "dict",data:=.dict #[] }:=
  (Heap.get?_update_ne _ _ _ _ ne.symm).trans (Heap.get?_push_at rfl rfl)
 have nd:((h.push { cls:=.type "dict",data:=.dict #[] }).update x λo=>{ cls:=o.cls,dict:=some h.objs.size,data:=o.data,slots:=o.slots }).Ns h.objs.size (λ_=>none):=
  ⟨_,#[],_,gd,rfl,λe he=>absurd he (by simp),λ_=>rfl⟩
 show wpAny _ _ (storeInDict h.objs.size (.str name tk) name v) _ _ _
 unfold storeInDict newKeyGuard;refine wpAny_bind (wpAny_pure (wpAny_bind (wpAny_nsSet1 (Heap.Ns1.of_empty nd) λh' hn' hs=>?_)));obtain ⟨oD,esD,epD,hoD,hdD,hcD⟩:=hn'.count (Within.cons name v Within.nil);refine wpAny_bind (wpAny_lookBehind hoD (by rw[hdD];exact pastItsLine_dict (aar hcD (by rw[aai,abg,sizeLine_eq];omega))) ?_);refine wpAny_pure (q h' _ hn' ?_ λb ob hbx hb=>?_)
 ·exact (hs.2 x ne).trans (Heap.get?_update_self _ hx1 hfr)
 ·exact (hs.2 b (aab (Heap.lt_size hb))).trans ((Heap.get?_update_ne _ _ _ _ hbx).trans (Heap.get?_push_of_some _ hb))
theorem Ah {name:Str} {v:Value} {tk:Tok} {dx:Addr} {mA:Str→Option Value} {ns:List Str} {R:Result→Shared→Prop} (X:K.In h) (c:Xc K C bm) (hna:W.findIn K (.ref C) name=some none) (hx:h.get? x=some o) (hc:o.cls=.ref C) (hdn:o.dict=some dx)
  (hns:h.Ns1 dx mA) (hw:Within mA ns) (hsz:ns.length < sizeLine)
  (q:∀h' tk',h'.Ns1 dx (λy=>if y=name then some v else mA y)→Heap.SameBut dx h h'→R (.ok (.ret .none)) ⟨h',g,d,tk',os⟩):
  codeAny (model prog w) A (.call (.builtin "object.__setattr__") ⟨[.ref x,.str name tk,v],[]⟩) R ⟨h,g,d,t,os⟩:=by
 refine pw X c hna hx hc ?_;obtain ⟨nm,qn,N,bs,sn,sub,ab,col,dd,k0,k1,k2,k3,k5,lk⟩:=c.lk;have hC:=X _ _ lk;obtain ⟨oc,od,odt,osl⟩:=o;obtain rfl:oc=.ref C:=hc;obtain rfl:od=some dx:=hdn;refine wpAny_bind (wpAny_bind (wpAny_loadPart hx ?_));dsimp only;refine wpAny_bind ((W.looks_clsIn X (W.ck lk)).here ?_);dsimp only;refine wpAny_pure ?_;show wpAny _ _ (storeInDict dx (.str name tk) name v) _ _ _
 unfold storeInDict newKeyGuard;refine wpAny_bind (wpAny_pure (wpAny_bind (wpAny_nsSet1 hns λh' hn' hs=>?_)));obtain ⟨oD,esD,epD,hoD,hdD,hcD⟩:=hn'.count (Within.cons name v hw);refine wpAny_bind (wpAny_lookBehind hoD (by rw[hdD];exact pastItsLine_dict (aar hcD (by rw[aai];omega))) ?_);exact wpAny_pure (q h' _ hn' hs)
theorem o8 {name:Str} {v:Value} {Q:Unit→Shared→Prop} (X:K.In h) (c:Xc K C bm) (hx:h.get? x=some o) (hc:o.cls=.ref C)
  (q:∀tk t',codeAny (model prog w) A (.call (.builtin "object.__setattr__") ⟨[.ref x,.str name tk,v],[]⟩) (λr s'=>match r with | .ok (.ret _)=>Q () s' | .ok _=>False | .error e=>E e s') ⟨h,g,d,t',os⟩):
  wpAny (model prog w) A (setAttr (.ref x) name v) Q E ⟨h,g,d,t,os⟩:=by
 have f3:=PySem.F.store_ValueError.slot.bind (.ref x);unfold setAttr callSpecial? specialOf;refine wpAny_bind (wpAny_mkText (wpAny_bind (wpAny_bind (wpAny_bind ((W.Looks.here (s:=⟨h,g,d,t+1,os⟩) (m7 hx hc) ((W.Looks.here (s:=⟨h,g,d,t+1,os⟩) (W.looks_findIn X c.fs) ?_))))))));refine wpAny_holding ?_;rw[f3];refine wpAny_bind (wpAny_pure (wpAny_bind (wpAny_call (codeAny_mono (q _ _) λr s' z=>?_))));cases r with
 | error e=>exact z
 | ok f=>
  cases f with
  | ret u=>exact wpAny_pure (wpAny_pure z)
  | next=>exact False.elim z
  | brk=>exact False.elim z
  | cont=>exact False.elim z
theorem yf {name:Str} {v:Value} {dx:Addr} {mA:Str→Option Value} {expr:Bool} {Q:Value→Shared→Prop} (X:K.In h) (c:Xc K C bm) (hna:W.findIn K (.ref C) name=some none) (hx:h.get? x=some o) (hc:o.cls=.ref C) (hd:o.data=.fields vs)
  (hdn:o.dict=some dx) (hn:h.Ns dx mA) (hv:mA name=some v) (hh:W.handedIn v=true) (q:Q v ⟨h,g,d,t+1,os⟩):
  wpAny (model prog w) A (getAttr (.ref x) name expr) Q E ⟨h,g,d,t,os⟩:=by
 obtain ⟨nm,qn,N,bs,sn,sub,ab,col,dd,k0,k1,k2,k3,k5,lk⟩:=c.lk;have hC:=X _ _ lk;have z1:(Value.ref C::bm).contains (.type "BaseException")=true:=by rw[aap,c.hb,abh]
 have I:W.Looks (model prog w) h (isInstance (.ref x) (.type "BaseException")) true:=z1 ▸ Ae X c hx hc (.type "BaseException");have z2:(Value.builtin "BaseException.__getattribute__"==Value.builtin "object.__getattribute__")=false:=by decide+kernel
 obtain ⟨oc,od,odt,osl⟩:=o;obtain rfl:oc=.ref C:=hc;obtain rfl:odt=.fields vs:=hd;obtain rfl:od=some dx:=hdn;unfold getAttr getAttrBy;refine wpAny_bind (wpAny_mkText (wpAny_holding (wpAny_bind (W.Looks.here (s:=⟨h,g,d,t+1,os⟩) (m7 hx rfl) (wpAny_bind (W.Looks.here (s:=⟨h,g,d,t+1,os⟩) (W.looks_findIn X c.fg) ?_))))));dsimp only;rw[z2,Bool.and_false,if_neg (by decide)];unfold getAttrByItsOwn hookBefore;refine wpAny_bind ((W.Looks.here (s:=⟨h,g,d,t+1,os⟩) (W.looks_findIn X c.fh) ?_));refine wpAny_bind (wpAny_attempt (wpAny_holding ?_));unfold callGetattribute boundAndCalled;rw[if_neg (by cases expr <;> decide),PySem.F.attr_ValueError.ga.bind (.ref x)];refine wpAny_bind (wpAny_pure (wpAny_call (codeAny_call_builtin PySem.F.attr_ValueError.ga.plain PySem.F.entry_bexc_ga
  (@W.check_slot (model prog w) _ _ ⟨h,g,d,t+1,os⟩ "BaseException.__getattribute__" "BaseException" "__getattribute__" (.ref x) [.str name t] [] _ (by decide+kernel) (by decide+kernel) I (PySem.F.args_bexc_ga (.ref x) (.str name t)) ?_))))
 unfold Builtin.«object.__getattribute__»;refine wpAny_bind (wpAny_pure ?_);dsimp only;refine wpAny_bind (wpAny_pure (wpAny_bind (W.Looks.here (s:=⟨h,g,d,t+1,os⟩) (m7 hx rfl) ?_)));unfold find;refine wpAny_bind (wpAny_bind (W.Looks.here (s:=⟨h,g,d,t+1,os⟩) (W.looks_findIn X hna) (wpAny_bind (wpAny_pure (wpAny_bind (wpAny_pure ?_))))));dsimp only;unfold ownThenClass inOwnDict ownDict instanceDict;refine wpAny_bind (wpAny_bind (wpAny_bind (wpAny_bind (wpAny_loadPart hx ?_))));refine wpAny_pure ?_;dsimp only;refine wpAny_bind (wpAny_loadPart (s:=⟨h,g,d,t+1,os⟩) hx ?_);dsimp only;refine wpAny_bind (W.Looks.here (s:=⟨h,g,d,t+1,os⟩) (W.looks_clsIn X (W.ck lk)) ?_);dsimp only;refine wpAny_pure (wpAny_nsGet hn ?_);rw[hv];dsimp only;refine wpAny_bind (wpAny_rule (wpAny_pure (wpAny_pure ?_)));show wpAny _ _ (handedOut v) _ _ _
 rw[W.handedOut_of hh];exact wpAny_pure q
theorem Be {env:Env} {s:Shared} {m:Sem Value} {Q:Flow→Shared→Prop} (hh:A.handled=none)
  (q:wpAny (model prog w) A m (λv s₁=>∃e o vs C bm,v=.ref e∧K.In s₁.heap∧Xc K C bm∧s₁.heap.get? e=some o∧o.cls=.ref C∧o.data=.fields vs∧vs[1]?=some .none∧E (.ref e) s₁) E s):
  wpAny (model prog w) A (raiseStmt env (some m) none) Q E s:=by
 unfold raiseStmt;refine wpAny_bind (wpAny_mono q (λv s₁ h₁=>?_) λ_ _ x=>x);obtain ⟨e,o,vs,C,bm,rfl,X,c,he,hc,hd,h1,hE⟩:=h₁;obtain ⟨nm,qn,N,bs,sn,sub,ab,col,dd,k0,k1,k2,k3,k5,lk⟩:=c.lk;have hC:=X _ _ lk;have z1:(Value.ref C::bm).contains (.type "BaseException")=true:=by rw[aap,c.hb,abh]
 obtain ⟨hp,g,d,tk,os⟩:=s₁;obtain ⟨oc,od,odt,osl⟩:=o;obtain rfl:oc=.ref C:=hc;obtain rfl:odt=.fields vs:=hd;dsimp only at X he hC hE;repeat (first | with_reducible refine wpAny_loadPart_at he ?_ | with_reducible refine wpAny_loadPart_at hC ?_ | (with_reducible refine wpAny_isSubtype_exc hC ?_;rw[z1]) | wp_step)
 rw[h1];refine wpAny_pure ?_;rw[if_neg (by decide)];exact wpAny_pure (wpAny_raiseNew_none hh hE)
theorem xmatch {s:Shared} {bC:List Value} {D:Addr} {Q:Bool→Shared→Prop} (X:K.In s.heap) (c:Xc K C bm) (cD:Xc K D bC) (hx:s.heap.get? x=some o) (hc:o.cls=.ref C) (q:Q ((Value.ref C::bm).contains (.ref D)) s):
  wpAny (model prog w) A (excMatches (.ref x) (.ref D)) Q E s:=by
 obtain ⟨nm,qn,N,bs,sn,sub,ab,col,dd,k0,k1,k2,k3,k5,lk⟩:=cD.lk;have hD:=X _ _ lk;have z1:(Value.ref D::bC).contains (.type "BaseException")=true:=by rw[aap,cD.hb,abh]
 have f:=tc_notTuple;obtain ⟨hp,g,d,tk,os⟩:=s;dsimp only at X hx hD q;have lx:=m7 (M:=model prog w) hx hc;have ls:=xsub (M:=model prog w) X c (.ref D);unfold excMatches;repeat (first | with_reducible refine wpAny_loadPart_at hD ?_ | (with_reducible refine wpAny_isSubtype_exc hD ?_;rw[z1]) | (with_reducible refine wpAny_loadPart_at hx ?_;rw[hc]) | wp_step)
 refine ls.here ?_;cases hb:(Value.ref C::bm).contains (.ref D) with
 | true=>
  rw[hb] at q;exact wpAny_pure (wpAny_pure (wpAny_pure q))
 | false=>
  rw[hb] at q;exact wpAny_pure (wpAny_pure (wpAny_pure q))
theorem Eh:W.specialIn K (.builtin "object.__class__") "__get__"=some (some (.builtin "getset_descriptor.__get__")):=by kernel_rfl
theorem yr:W.takesIn K (.builtin "object.__class__")=some true:=by kernel_rfl
theorem xclass {od:Option Obj} {s:Shared} {Q:Option Value→Shared→Prop} (X:K.In s.heap) (c:Xc K C bm) (I:W.InstAt s.heap x o C od) (q:Q (some (.ref C)) { s with toks:=s.toks+1 }):wpAny (model prog w) A (getAttr? (.ref x) "__class__") Q E s:=by
 obtain ⟨nm,qn,N,bs,sn,sub,ab,col,dd,k0,k1,k2,k3,k5,lk⟩:=c.lk;have z1:(Value.ref C::bm).contains (.type "BaseException")=true:=by rw[aap,c.hb,abh]
 have z3:(Value.ref C::bm).contains (.type "object")=true:=by rw[aap,c.ho,abh]
 have J:W.Looks (model prog w) s.heap (isInstance (.ref x) (.type "BaseException")) true:=z1 ▸ Ae X c I.at_ I.cls (.type "BaseException");have z2:(Value.builtin "BaseException.__getattribute__"==Value.builtin "object.__getattribute__")=false:=by decide+kernel
 have hf:W.findObj K C od "__class__"=some (.bind (.builtin "getset_descriptor.__get__") (.builtin "object.__class__")):=by
  unfold W.findObj;rw[W.ck lk,abr,c.fc,abr];simp[Eh,yr]
 have hm:W.mroIn K C (.type "object")=some true:=by
  unfold W.mroIn;rw[W.ck lk,abr,if_neg (by simp),z3]
 have L0:=I.type (M:=model prog w);have L1:=W.looks_find (M:=model prog w) X I hf;obtain ⟨hh,g,d,t,os⟩:=s;dsimp only at X L0 L1 J q;unfold getAttr? getAttrBy? getAttrBy;refine wpAny_bind (wpAny_mkText (wpAny_bind (wpAny_attempt (wpAny_holding (wpAny_bind (W.Looks.here (s:=⟨hh,g,d,t+1,os⟩) L0 (wpAny_bind (W.Looks.here (s:=⟨hh,g,d,t+1,os⟩) (W.looks_findIn X c.fg) ?_))))))));dsimp only;rw[z2,Bool.and_false,if_neg (by decide)];unfold getAttrByItsOwn hookBefore;refine wpAny_bind ((W.Looks.here (s:=⟨hh,g,d,t+1,os⟩) (W.looks_findIn X c.fh) ?_));refine wpAny_bind (wpAny_attempt (wpAny_holding ?_));unfold callGetattribute boundAndCalled;rw[if_neg (by decide),PySem.F.attr_ValueError.ga.bind (.ref x)];refine wpAny_bind (wpAny_pure (wpAny_call (codeAny_call_builtin PySem.F.attr_ValueError.ga.plain PySem.F.entry_bexc_ga
  (@W.check_slot (model prog w) _ _ ⟨hh,g,d,t+1,os⟩ "BaseException.__getattribute__" "BaseException" "__getattribute__" (.ref x) [.str "__class__" t] [] _ (by decide+kernel) (by decide+kernel) J (PySem.F.args_bexc_ga (.ref x) (.str "__class__" t)) ?_))))
 unfold Builtin.«object.__getattribute__»;refine wpAny_bind (wpAny_pure ?_);dsimp only;refine wpAny_bind (wpAny_pure (wpAny_bind (W.Looks.here (s:=⟨hh,g,d,t+1,os⟩) L0 (wpAny_bind (W.Looks.here (s:=⟨hh,g,d,t+1,os⟩) L1 ?_)))));show wpAny _ _ (holding [.builtin "object.__class__"] (call (.builtin "getset_descriptor.__get__") [.builtin "object.__class__",.ref x,.ref C]) >>=ret) _ _ _
 refine wpAny_bind (wpAny_holding (wpAny_call (W.class_get (s:=⟨hh,g,d,t+1,os⟩) (ox:=o) (od:=od) X I hm ?_)));refine wpAny_pure (wpAny_pure (wpAny_pure q))
theorem xkit {od:Option Obj} (c:Xc K C bm):W.KitX K (.ref x) (.ref C) (λh=>W.InstAt h x o C od) where
 ty:=λ_ _ _ I=>I.type
 it:=λ_ _ X _=>by
  obtain ⟨nm,qn,N,bs,sn,sub,ab,col,dd,k0,k1,k2,k3,k5,lk⟩:=c.lk;intro A' Q' E' s' k q;unfold isType loadHead;exact wpAny_bind (wpAny_loadPart (k _ _ (X _ _ lk)) (wpAny_pure q))
 ne:=λh tp dd' its n sl X htp=>by
  obtain ⟨nm,qn,N,bs,sn,sub,ab,col,dd,k0,k1,k2,k3,k5,lk⟩:=c.lk;refine Bool.eq_false_iff.mpr λq=>?_;have e:C=tp:=Value.ref.inj (beq_iff_eq.mp q);subst e;have z:=congrArg (λo:Option Obj=>o.map (·.cls)) ((X _ _ lk).symm.trans htp);have z2:Value.type "type"=Value.type "tuple":=aa9 z;exact absurd z2 (by decide)
 ca:=λX I k=>xclass X c I k
theorem xo {D:Addr} {bD:List Value} (c:Xc K C bm) (cD:Xc K D bD):W.kitOne K (.ref C) (.ref D)=some ((Value.ref C::bm).contains (.ref D)):=by
 obtain ⟨nm,qn,N,bs,sn,sub,ab,col,dd,k0,k1,k2,k3,k5,lk⟩:=c.lk;obtain ⟨nm',qn',N',bs',sn',sx,ab',col',dd',k0',k1',k2',k3',k5',lk'⟩:=cD.lk;unfold W.kitOne;by_cases e:(Value.ref C==Value.ref D)=true
 ·rw[if_pos e,aap];rw[show (Value.ref D==Value.ref C)=true from by rw[beq_iff_eq] at e ⊢;exact e.symm];rfl
 ·rw[if_neg e];unfold W.kitCls;dsimp only;rw[if_pos (by rw[W.ck lk'];show (true&&((K.lookup D).map (·.cls))==some (Value.type "type"))=true;rw[lk'];rfl)];show W.mroIn K C (.ref D)=_
  unfold W.mroIn;rw[W.ck lk,abr,if_neg (by simp)]
theorem xkitTy {T:String} (c:Xc K C bm) (hT:W.kitMeta T=true):W.kitOne K (.ref C) (.type T)=some (bm.contains (.type T)):=by
 obtain ⟨nm,qn,N,bs,sn,sub,ab,col,dd,k0,k1,k2,k3,k5,lk⟩:=c.lk;unfold W.kitOne;rw[if_neg (by intro z;cases beq_iff_eq.mp z)];unfold W.kitCls;dsimp only;rw[if_pos hT];show W.mroIn K C (.type T)=_
 unfold W.mroIn;rw[W.ck lk,abr,if_neg (by simp),aap];rfl
end
end PySem
namespace PySem
open Sem (wp)
theorem ei {α:Type} {p q:α→Bool}:∀(l:List α) (i:Nat),l.findIdx? q=some i→(∀a∈l,q a=true→p a=false)→(l.eraseIdx i).find? p=l.find? p
 | [],i,h,_=>by simp at h
 | a::l,i,h,hq=>by
  rw[List.findIdx?_cons] at h;cases e:q a with
  | true=>
   rw[e] at h;have h':0=i:=by simpa using h
   subst h';rw[List.eraseIdx_cons_zero,ab9,hq a aa7 e]
  | false=>
   rw[e] at h;simp only[ac1,if_false,Option.map_eq_some_iff] at h;obtain ⟨j,hj,rfl⟩:=h;rw[acu,ab9,ab9,ei l j hj λb hb=>hq b (aad _ hb)]
theorem qw {es:Array DictEntry} {name x:Str} {i:Nat} (hi:es.findIdx? (λe=>e.key.isStr name)=some i) (hx:x≠name):nsFind (es.eraseIdxIfInBounds i) x=nsFind es x:=by
 obtain ⟨l⟩:=es;simp only[nsFind,findBy,List.eraseIdxIfInBounds_toArray,List.find?_toArray,List.findIdx?_toArray] at hi ⊢;rw[ei l i hi λa _ ha=>?_];cases e:a.key.isStr x with
 | false=>rfl
 | true=>exact absurd (Value.isStr_inj _ _ _ e ha) hx
section
variable {M:Model} {A:Around} {E:Value→Shared→Prop} {s:Shared} {env:Env}
theorem uc {a:Addr} {m:Str→Option Value} {name:Str} {v:Value} {Q:Bool→Shared→Prop} (hn:s.heap.Ns a m) (hv:m name=some v)
  (hQ:∀h' m',h'.Ns a m'→(∀y,y≠name→m' y=m y)→Heap.SameBut a s.heap h'→Q true { s with heap:=h' }):wpAny M A (nsDel a name) Q E s:=by
 obtain ⟨o,es,ep,ho,hd,hk,hm⟩:=id hn;have hs:es.any (·.key.isStr name)=true:=by
  have z:=hm name;rw[hv] at z;unfold nsFind findBy at z;obtain ⟨en,h1,_⟩:=Option.map_eq_some_iff.mp z;have h2:=Array.find?_some h1;obtain ⟨j,hj,e⟩:=Array.mem_iff_getElem.mp (Array.mem_of_find?_eq_some h1);exact Array.any_eq_true.mpr ⟨j,hj,by rw[e];exact h2⟩
 have hhas:nsHas name o=pure true:=by
  rw[nsHas_eq];unfold nsHasByArray;rw[hd];dsimp only;rw[if_pos hs]
 unfold nsDel;refine wpAny_bind (wpAny_loadPart ho ?_);rw[hhas];refine wpAny_bind (wpAny_pure ?_);rw[if_pos rfl];refine wpAny_bind (wpAny_updatePart ho (wpAny_pure ?_));obtain ⟨cl,d,dt,sl⟩:=o;subst hd;cases hi:es.findIdx? (·.key.isStr name) with
 | none=>
  exfalso
  obtain ⟨j,hj,hp⟩:=Array.any_eq_true.mp hs;have:=(Array.findIdx?_eq_none_iff.mp hi) es[j] (Array.getElem_mem hj);simp[hp] at this
 | some i=>
  refine hQ _ (nsFind (es.eraseIdxIfInBounds i)) ⟨_,_,ep+1,Heap.get?_update_self _ ho (by simp only[Obj.dropName_eq,Obj.dropNameByArray,hi] <;> rfl),(by simp only[Obj.dropName_eq,Obj.dropNameByArray,hi] <;> rfl),hk.erase i,λ_=>rfl⟩ (λy hy=>?_) (Heap.SameBut.update ..);rw[qw hi hy];exact hm y
theorem Ck {n:Str} {pos:Pos} {m:Str→Option Value} {Q:Unit→Shared→Prop} (hl:env.kindOf n=some .local) (hn:s.heap.Ns env.locals m)
  (hp:(env.scope.kind==.class||(env.scope.kind==.module&&env.locals !=env.globals))=false)
  (h:∀h' m',h'.Ns env.locals m'→(∀y,y≠n→m' y=m y)→Heap.SameBut env.locals s.heap h'→Q () { s with heap:=h',toks:=s.toks+1 }):
  wpAny M A (do bindName env n .none;unbindBehindTheSuite env n pos) Q E s:=by
 refine wpAny_bind (wpAny_bindName (wpAny_storeName_local hl hn (λh1 hn1 hs1=>?_) hp));unfold unbindBehindTheSuite;refine wpAny_onRaise ?_;unfold unbindName;refine wpAny_bind (wpAny_point (wpAny_bind ?_));unfold deleteName;simp only[hl,hp];rw[if_neg (by decide)];refine wpAny_bind (uc (v:=Value.none) hn1 (by simp) λh2 m2 hn2 ho2 hs2=>?_);simp only[Bool.not_true,ac1,if_false];exact wpAny_pure (wpAny_point (h h2 m2 hn2 (λy hy=>by rw[ho2 y hy];simp[hy]) (hs1.trans hs2)))
end
end PySem
namespace L2
open PySem PySem.Spec PyProof.Rows
noncomputable def nu (H:Hp) (a:Addr):Hp:=λb=>if b=a then none else H b
theorem dv {H:Hp} {a b:Addr} (h:b≠a):nu H a b=H b:=by unfold nu;rw[if_neg h]
theorem oq {H:Hp} {a:Addr}:nu H a a=none:=by unfold nu;rw[if_pos rfl]
theorem yo {H:Hp} {a b:Addr} (h:H b=none):nu H a b=none:=by
 unfold nu;split
 ·rfl
 ·exact h
theorem zl {H:Hp} {a:Addr} {o:HO} (e:H a=some o):upd H a o=H:=by
 funext b
 unfold upd;split
 ·rename_i h;rw[h,e]
 ·rfl
section
variable {X:Cx} {pins:List (Addr×Obj)} {σ:St} {H:Hp} {s:Shared} {n:Nat} {a:Addr}
theorem Inv.track {o:HO} (I:Inv X pins σ H s) (B:Bnd X pins n) (lo:n≤a) (un:H a=none) (ob:ay X.prog X.w (upd H a o) s.heap a o):Inv X pins σ (upd H a o) s:=by
 obtain ⟨h,g,d,t,os⟩:=s;have nn:∀b u,H b=some u→b≠a:=λb u e=>aj e un;refine I.step (h':=h) (H':=upd H a o) (g':=g) (t':=t) (d':=d) (ch:=[a]) (λb hb=>?_) (λb u _ _ _ e _=>e) (λb u _ _ _ e _=>⟨u.slots,e⟩) (λb u hb _ n=>?_) (λb u _ e=>⟨u,e⟩)
  (λb xs e=>by rw[ag (nn b _ e)];exact e) (λb u v e=>by rw[ag (nn b _ e)];exact e) (λb ps e=>⟨#[],by rw[ag (nn b _ e),e];simp⟩) (λ_ m=>m) (λb u e=>?_) I.bare
 ·obtain rfl:b=a:=by simpa using hb
  exact ⟨.inr (aar B.1 lo),aaw (aa6 B.2.1 lo),λx c e=>aab (aa6 (B.2.2.1 x c e) lo),λp hp=>aab (aa6 (B.2.2.2 p hp) lo)⟩
 ·rw[ag (λz=>hb (by simp[z]))];exact n
 ·by_cases hb:b=a
  ·subst hb;rw[aa] at e;cases e
   exact ob
  ·rw[ag hb] at e;exact (I.hok b u e).qi (λ_ _ _ q=>q) (λc q=>by rw[ag (nn c _ q)];exact q) λc xs q=>by rw[ag (nn c _ q)];exact q
theorem Inv.Dj {φ:Heap→Prop} (I:Inv X pins σ H s) (e:H a=some (.ext φ)):Inv X pins σ (nu H a) s:=by
 obtain ⟨h,g,d,t,os⟩:=s;have nn:∀b u,H b=some u→u≠.ext φ→b≠a:=λb u q ne z=>by subst z;rw[e] at q;cases q;exact ne rfl
 refine I.step (h':=h) (H':=nu H a) (g':=g) (t':=t) (d':=d) (ch:=[]) (λ_ z=>nomatch z) (λb u _ _ _ e _=>e) (λb u _ _ _ e _=>⟨u.slots,e⟩) (λb u _ _ n=>yo n) (λb u _ e=>⟨u,e⟩)
  (λb xs q=>by rw[dv (nn b _ q (λz=>nomatch z))];exact q) (λb u v q=>by rw[dv (nn b _ q (λz=>nomatch z))];exact q) (λb ps q=>⟨#[],by rw[dv (nn b _ q (λz=>nomatch z)),q];simp⟩) (λ_ m=>m) (λb u q=>?_) I.bare
 by_cases hb:b=a
 ·subst hb;rw[oq] at q;cases q
 ·rw[dv hb] at q;exact (I.hok b u q).qi (λ_ _ _ q=>q) (λc q=>by rw[dv (nn c _ q (λz=>nomatch z))];exact q) λc xs q=>by rw[dv (nn c _ q (λz=>nomatch z))];exact q
theorem Inv.Af {C:Addr} {us:List Value} (I:Inv X pins σ H s):Inv X pins σ (upd H (s.heap.objs.size+1) (XO (s.heap.objs.size+1) C none true))
  { s with heap:=(s.heap.push { cls:=.type "tuple",data:=.seq us.toArray }).push { cls:=.ref C,data:=.fields #[.ref s.heap.objs.size,.none,.none,.none,.bool false,.none] } }:=by
 have I1:=I.kept (h':=s.heap.push { cls:=.type "tuple",data:=.seq us.toArray }) (t':=s.toks) λb u e=>Heap.get?_push_of_some _ e;have sz:(s.heap.push { cls:=.type "tuple",data:=.seq us.toArray }).objs.size=s.heap.objs.size+1:=Heap.size_push ..;have g1:=Heap.get?_push_size (s.heap.push { cls:=.type "tuple",data:=.seq us.toArray }) (o:={ cls:=.ref C,data:=.fields #[.ref s.heap.objs.size,.none,.none,.none,.bool false,.none] }) rfl;rw[sz] at g1;exact I1.laid (t':=s.toks) (λb u e=>Heap.get?_push_of_some _ e) (by show (s.heap.push _).objs.size≤_;rw[sz];exact aa3 _) (XO.mk ⟨_,_,g1,rfl,rfl,rfl,λ_=>⟨_,rfl⟩⟩)
end
def qf (C:Addr) (sp:Sp) (E:XK) (t:TA):TS:=λ_ σ H=>t σ H λvs H1=>∀a,H1 a=none→sp (.ref a::vs) (upd H1 a (XO a C none true)) (λv H2=>v=.non∧∃dx,H2 a=some (XO a C dx true)∧E (.ref C) dx (nu H2 a)) E0
def C4 (C:Addr) (E:XK) (t:TA):TS:=λ_ σ H=>t σ H λvs H1=>vs.length≤100∧E (.ref C) none H1
section
variable {X:Cx} {E:XK} {k:Nat} {f C:Addr} {bm:List Value} {fd:FuncData} {ps:List Str} {sp:Sp} {x:Str} {p cpos pos:Pos} {e:Expr} {es:List Expr} {t:TA}
theorem zh (c:Xc X.K C bm) (hi:PySem.W.findIn X.K (.ref C) "__init__"=some (some (.ref f))) (hfn:PySem.W.typeIn X.K (.ref f)=some (.type "function")) (F:cx X.prog X.w X.K X.mg X.base CX0 k f fd ps sp)
  (hr:br (k+1) X.A) (hps:ps.length≤100) (hm:X.mg x=some (.ref C)) (hb:Binds X.K fd ps []) (ha:PA (X.xp E) (e::es) t) (hg:Gl X x:=by rfl) (hdb:(x==("__debug__":Str))=false:=by decide+kernel)
  (he:starEach (e::es) X.env=(false,eval e X.env)::starEach es X.env:=by rfl) (hpl:(backTo cpos (starEach es X.env)).any (·.1)=false:=by rfl):
  PS (X.xp E) (.Raise (some (.Call (.Name x p) (e::es) [] cpos)) none pos) (qf C sp E t):=by
 intro pins s σ H D I h;rw[arm_exec_Raise];refine wpAny_bind (wpAny_standAt (Be (K:=X.K) hr.hd (wpAny_bind (wpAny_mono (wpAny_Call_Name_kw (cu I hg hm ?_ hdb)) (λv s₃ h₃=>wpAny_bind (wpAny_standAt (wpAny_pure h₃))) λ_ _ x=>x))));refine PySem.W.callWith_K (h₀:=X.base) I.ok.mod.kin c.kp (thn (ha cpos pins s σ H _ I h) λus s1 ⟨vs,H1,I1,r,q⟩=>⟨I1.kIn,?_⟩) he hpl;have q1:=q (s1.heap.objs.size+1) (I1.hok.fresh (abk _));have r2:Vals (V.ref (s1.heap.objs.size+1)::vs) (Value.ref (s1.heap.objs.size+1)::us):=.cons rfl r;have hl:(Value.ref (s1.heap.objs.size+1)::us).length=ps.length:=by rw[←r2.length];exact F.len _ _ _ _ q1
 have hl2:us.length≤sizeLine:=by
  rw[sizeLine_eq];rw[aai] at hl;omega
 have I2:=Inv.Af (C:=C) (us:=us) I1;refine jd I1.kIn c hi (λself=>PySem.W.bind_fn I1.kIn self hfn) hl2 (wpAny_call (codeAny_mono (F.run _ X.stack _ _ ⟨Value.ref (s1.heap.objs.size+1)::us,[]⟩ (Value.ref (s1.heap.objs.size+1)::us) _ _ E0 (hr.make C us []) (I2.di.make C us [])
  (by have z:=hb _ (Value.ref (s1.heap.objs.size+1)::us) I2.kIn (by rw[ab6];exact hl);rw[ab6] at z;exact z) r2 q1) λr s' hq'=>?_))
 cases r with
 | error e=>exact False.elim hq'
 | ok fl=>
  cases fl with
  | ret u=>
   obtain ⟨v,H',I3,rv,ev,dx,ha',qE⟩:=I2.after hq';subst ev;obtain ⟨o,vv,g1,g2,g3,g4,g5⟩:=XO.get I3.hok ha';obtain ⟨tt,rfl⟩:=g5 rfl;refine ⟨rv,_,o,_,C,bm,rfl,I3.kIn,c,g1,g2,g4,rfl,pins,σ,nu H' (s1.heap.objs.size+1),s1.heap.objs.size,_,.ref C,dx,rfl,I3.bg.Dj ha',I1.bg.bnd,⟨abk _,oq,o,_,g1,g2,g3,g4,(by show 1 < 6;decide),.inl rfl⟩,qE⟩
  | next=>exact False.elim hq'
  | brk=>exact False.elim hq'
  | cont=>exact False.elim hq'
theorem xx (c:Xc X.K C bm) (hi:PySem.W.findIn X.K (.ref C) "__init__"=some (some (.builtin "ValueError.__init__"))) (hr:br k X.A) (hm:X.mg x=some (.ref C)) (ha:PA (X.xp E) (e::es) t) (hg:Gl X x:=by rfl) (hdb:(x==("__debug__":Str))=false:=by decide+kernel)
  (he:starEach (e::es) X.env=(false,eval e X.env)::starEach es X.env:=by rfl) (hpl:(backTo cpos (starEach es X.env)).any (·.1)=false:=by rfl):
  PS (X.xp E) (.Raise (some (.Call (.Name x p) (e::es) [] cpos)) none pos) (C4 C E t):=by
 intro pins s σ H D I h;rw[arm_exec_Raise];refine wpAny_bind (wpAny_standAt (Be (K:=X.K) hr.hd (wpAny_bind (wpAny_mono (wpAny_Call_Name_kw (cu I hg hm ?_ hdb)) (λv s₃ h₃=>wpAny_bind (wpAny_standAt (wpAny_pure h₃))) λ_ _ x=>x))));refine PySem.W.callWith_K (h₀:=X.base) I.ok.mod.kin c.kp (thn (ha cpos pins s σ H _ I h) λus s1 ⟨vs,H1,I1,r,hl,q⟩=>⟨I1.kIn,?_⟩) he hpl;have hl2:us.length≤sizeLine:=by
  rw[sizeLine_eq,←r.length];omega
 refine jd I1.kIn c hi (λself=>PySem.W.Looks.of_pure (PySem.F.excBase_ValueError.init.bind self)) hl2 ?_;obtain ⟨h1,g,d,tk,os⟩:=s1;have kk:∀b o,h1.get? b=some o→((h1.push { cls:=.type "tuple",data:=.seq us.toArray }).push { cls:=.ref C,data:=.fields #[.ref h1.objs.size,.none,.none,.none,.bool false,.none] }).get? b=some o:=
  λb o e=>Heap.get?_push_of_some _ (Heap.get?_push_of_some _ e)
 have sz:(h1.push { cls:=.type "tuple",data:=.seq us.toArray }).objs.size=h1.objs.size+1:=Heap.size_push ..;have g1:=Heap.get?_push_size (h1.push { cls:=.type "tuple",data:=.seq us.toArray }) (o:={ cls:=.ref C,data:=.fields #[.ref h1.objs.size,.none,.none,.none,.bool false,.none] }) rfl;rw[sz] at g1;refine wpAny_call (jz (λb o e=>kk b o (I1.kIn b o e)) c g1 rfl rfl hl2 ⟨rfl,?_⟩);have g2:=Heap.get?_update_self (Obj.mapFields (·.setIfInBounds 0 (Value.ref ((h1.push { cls:=.type "tuple",data:=.seq us.toArray }).push { cls:=.ref C,data:=.fields #[.ref h1.objs.size,.none,.none,.none,.bool false,.none] }).objs.size)))
  (Heap.get?_push_of_some { cls:=.type "tuple",data:=.seq us.toArray } g1) rfl
 have k3:∀b o,h1.get? b=some o→((((h1.push { cls:=.type "tuple",data:=.seq us.toArray }).push { cls:=.ref C,data:=.fields #[.ref h1.objs.size,.none,.none,.none,.bool false,.none] }).push { cls:=.type "tuple",data:=.seq us.toArray }).update (h1.objs.size+1)
   (Obj.mapFields (·.setIfInBounds 0 (Value.ref ((h1.push { cls:=.type "tuple",data:=.seq us.toArray }).push { cls:=.ref C,data:=.fields #[.ref h1.objs.size,.none,.none,.none,.bool false,.none] }).objs.size)))).get? b=some o:=λb o e=>
  (Heap.get?_update_other _ _ (aaw (ac4 (Heap.lt_size e)))).trans (Heap.get?_push_of_some _ (kk b o e))
 have I3:=I1.kept (t':=tk) k3;exact ⟨_,_,_,C,bm,rfl,I3.kIn,c,g2,rfl,rfl,rfl,pins,σ,H1,h1.objs.size,_,.ref C,none,rfl,I3.bg,I1.bg.bnd,⟨abk _,I1.hok.fresh (abk _),_,_,g2,rfl,rfl,rfl,(by show 1 < 6;decide),.inl rfl⟩,q⟩
end
def tXInit (K:PySem.W.Frag) (t:TA):TE:=λσ H Q=>t σ H λvs H1=>∃a C dx rest bm,vs=.ref a::rest∧H1 a=some (XO a C dx true)∧Xc K C bm∧rest.length≤100∧Q .non H1
def sXFld (K:PySem.W.Frag) (f:Str) (ta tv:TE):TS:=λD σ H=>tv σ H λy H1=>ta σ H1 λx H2=>∃a C nw bm,x=.ref a∧Xc K C bm∧PySem.W.findIn K (.ref C) f=some none∧
 ((H2 a=some (XO a C none nw)∧∀dx,H2 dx=none→dx≠a→D.nx σ (upd (upd H2 dx (XD dx [(f,y)])) a (XO a C (some dx) nw)))∨
  ∃dx fs,H2 a=some (XO a C (some dx) nw)∧H2 dx=some (XD dx fs)∧fs.length < 100∧D.nx σ (upd H2 dx (XD dx ((f,y)::fs))))
def tXFld (K:PySem.W.Frag) (f:Str) (ta:TE):TE:=λσ H Q=>ta σ H λx H1=>∃a C dx nw bm fs v,x=.ref a∧H1 a=some (XO a C (some dx) nw)∧H1 dx=some (XD dx fs)∧Xc K C bm∧PySem.W.findIn K (.ref C) f=some none∧fs.lookup f=some v∧Q v H1
section
variable {X:Cx} {D:Addr} {y f:Str} {p apos pos pos':Pos} {e o value:Expr} {es:List Expr} {t:TA} {ta tv:TE}
theorem Bx {pins:List (Addr×Obj)} {σ:St} {H:Hp} {s:Shared} {a C:Addr} {dx:Option Addr} {us:List Value} (I:Inv X pins σ H s) (e:H a=some (XO a C dx true)):
  Inv X pins σ H { s with heap:=(s.heap.push { cls:=.type "tuple",data:=.seq us.toArray }).update a (Obj.mapFields (·.setIfInBounds 0 (.ref s.heap.objs.size))) }:=by
 obtain ⟨o,vv,g1,g2,g3,g4,g5⟩:=XO.get I.hok e;obtain ⟨tt,rfl⟩:=g5 rfl;have I1:=I.kept (h':=s.heap.push { cls:=.type "tuple",data:=.seq us.toArray }) (t':=s.toks) λb u e=>Heap.get?_push_of_some _ e;have h1:(s.heap.push { cls:=.type "tuple",data:=.seq us.toArray }).get? a=some o:=Heap.get?_push_of_some _ g1;have d1:=Obj.data_mapFields g4 (·.setIfInBounds 0 (Value.ref s.heap.objs.size));have u1:=Heap.get?_update_self (Obj.mapFields (·.setIfInBounds 0 (Value.ref s.heap.objs.size))) h1 (Obj.isFreed_of_fields d1);have w1:=I1.write (x:=a) (e:=a) (o:=XO a C dx true) (t':=s.toks) (h':=(s.heap.push { cls:=.type "tuple",data:=.seq us.toArray }).update a (Obj.mapFields (·.setIfInBounds 0 (.ref s.heap.objs.size)))) (by rw[e];exact True.intro) (.inl rfl)
  (λb u hb q=>(Heap.get?_update_other _ _ (Ne.symm hb)).trans q) ⟨_,u1⟩ (XO.mk ⟨_,_,u1,(Obj.cls_mapFields _ _).trans g2,(fq _ _).trans g3,d1,λ_=>⟨s.heap.objs.size,rfl⟩⟩)
 rw[zl e] at w1;exact w1
theorem dh {pl:Sem Bool} (hm:X.mg y=some (.ref D)) (hr:PySem.W.readsIn X.K D (.type "type")=true) (ht:PySem.W.typeIn X.K (.ref D)=some (.type "type"))
  (hf:PySem.W.findCls X.K (.ref D) (.type "type") "__init__"=some (.val (.builtin "ValueError.__init__"))) (ha:PA X (e::es) t) (hg:Gl X y:=by rfl) (hdb:(y==("__debug__":Str))=false:=by decide+kernel)
  (hst:starEach (e::es) X.env=(false,eval e X.env)::starEach es X.env:=by rfl) (hpl:(backTo pos (starEach es X.env)).any (·.1)=false:=by rfl)
  (hc:eval (.Call (.Attribute (.Name y p) "__init__" apos) (e::es) [] pos) X.env=(do
   let ov ←eval (.Name y p) X.env
   standAt apos.atName
   let (f,first) ←holding [ov] (getMethod ov "__init__" pl)
   callWith pos f first (backTo pos (starEach (e::es) X.env)) (backToKw pos (keywordEach [] X.env))):=by rfl):
  PE X (.Call (.Attribute (.Name y p) "__init__" apos) (e::es) [] pos) (tXInit X.K t):=by
 intro pins s σ H Q I h;refine PySem.W.methodCall_KW (pl:=pl) (cu I hg hm ?_ hdb) hc;have hga:PySem.W.findIn X.K (.type "type") "__getattribute__"=some (some (.builtin "type.__getattribute__")):=PySem.W.type_tga;unfold getMethod specialOf;refine wpAny_bind (wpAny_bind ((PySem.W.looks_typeIn I.kIn ht).here ((PySem.W.looks_findIn I.kIn hga).here ?_)));dsimp only;rw[if_pos PySem.W.canon_tga];refine wpAny_bind (PySem.W.cls_value I.kIn hr hf rfl (wpAny_pure ?_));refine PyProof.Rows.callWith_builtin1 (thn (ha pos pins _ σ H _ (I.tok _) h) λus s1 ⟨vs,H1,I1,r,a,C,dx,rest,bm,ev,ea,c,hl,q⟩=>?_) hst hpl;subst ev;cases r with
 | cons r1 r2=>
  cases r1
  obtain ⟨o,vv,g1,g2,g3,g4,g5⟩:=XO.get I1.hok ea;obtain ⟨tt,rfl⟩:=g5 rfl;obtain ⟨hh,g,d,tk,os⟩:=s1;refine wpAny_call (jz I1.kIn c g1 g2 g4 (by rw[←r2.length,sizeLine_eq];omega) ?_);exact ⟨.non,H1,Bx I1 ea,rfl,q⟩
theorem dn (ho:PE X o ta) (hv:PE X value tv) (hs:swapsWith value (some (.Attribute o f pos')) pos.line X.env=pure false):PS X (.Assign [.Attribute o f pos'] value pos) (sXFld X.K f ta tv):=by
 intro pins s σ H D I h;refine plainObj_wpAny_Assign_Attribute (thn (hv pins s σ H _ I h) λu s1 ⟨y,H1,I1,ry,q⟩=>thn (ho pins s1 σ H1 _ I1 q) λov s2 ⟨x,H2,I2,rx,a,C,nw,bm,ex,c,hna,q2⟩=>?_) hs;subst ex;obtain rfl:ov=Value.ref a:=rx;obtain ⟨hh,g,d,tk,os⟩:=s2;rcases q2 with ⟨ea,q2⟩ | ⟨dx,fs,ea,ed,hl,q2⟩
 ·obtain ⟨ob,vv,g1,g2,g3,g4,g5⟩:=XO.get I2.hok ea;refine o8 I2.kIn c g1 g2 λtk2 t2=>Br I2.kIn c hna g1 g2 g4 g3 λh' t3 ns gx kp=>?_;have fr:H2 hh.objs.size=none:=I2.hok.fresh (aa3 _);have ne:hh.objs.size≠a:=aaw (Heap.lt_size g1);have J:=I2.write (x:=a) (e:=a) (o:=XO a C (some hh.objs.size) nw) (t':=t3) (h':=h') (by rw[ea];exact True.intro) (.inl rfl) (λb u hb q=>kp b u hb q) ⟨_,gx⟩ (XO.mk ⟨_,_,gx,g2,rfl,g4,g5⟩);have J2:=J.track (a:=hh.objs.size) (o:=XD hh.objs.size [(f,y)]) I2.bnd (aa3 _) (by rw[ag ne];exact fr) (XD.mk ⟨_,ns,λz=>?_,λz hz=>?_⟩)
  ·refine ⟨σ,_,?_,q2 hh.objs.size fr ne⟩;have sw:upd (upd H2 a (XO a C (some hh.objs.size) nw)) hh.objs.size (XD hh.objs.size [(f,y)])=upd (upd H2 hh.objs.size (XD hh.objs.size [(f,y)])) a (XO a C (some hh.objs.size) nw):=by
    funext b
    by_cases e1:b=a
    ·rw[e1,ag (Ne.symm ne),aa,aa]
    ·by_cases e2:b=hh.objs.size
     ·rw[e2,aa,ag ne,aa]
     ·rw[ag e2,ag e1,ag e1,ag e2]
   rw[←sw];exact J2
  ·by_cases e:z=f
   ·rw[e,if_pos rfl];show d9 (([(f,y)]:List (Str×V)).lookup f) (some u)
    rw[ab1];simp only[beq_self_eq_true];exact ry
   ·rw[if_neg e];show d9 (([(f,y)]:List (Str×V)).lookup z) none
    rw[ab1,show (z==f)=false from by simpa using e];exact True.intro
  ·by_cases e:z=f
   ·rw[e];simp
   ·exact absurd (if_neg e) hz
 ·obtain ⟨ob,vv,g1,g2,g3,g4,g5⟩:=XO.get I2.hok ea;obtain ⟨mA,n1,n2,n3⟩:=XD.get I2.hok ed;refine o8 I2.kIn c g1 g2 λtk2 t2=>Ah I2.kIn c hna g1 g2 g3 n1 n3 (by rw[aa2,sizeLine_eq];omega) λh' t3 ns sb=>?_;have hd:∃o,h'.get? dx=some o:=let ⟨o,_,_,e',_⟩:=ns;⟨o,e'⟩
  refine ⟨σ,_,I2.write (x:=dx) (e:=dx) (o:=XD dx ((f,y)::fs)) (t':=t3) (h':=h') (by rw[ed];exact True.intro) (.inl rfl) (λb u hb q=>(sb.2 b hb).trans q) hd (XD.mk ⟨_,ns,λz=>?_,λz hz=>?_⟩),q2⟩
  ·by_cases e:z=f
   ·rw[e,if_pos rfl];show d9 (((f,y)::fs).lookup f) (some u)
    rw[ab1];simp only[beq_self_eq_true];exact ry
   ·rw[if_neg e];show d9 (((f,y)::fs).lookup z) (mA z)
    rw[ab1,show (z==f)=false from by simpa using e];exact n2 z
  ·by_cases e:z=f
   ·rw[e];simp
   ·dsimp only at hz;rw[aan];exact aad _ (n3 z (by rw[if_neg e] at hz;exact hz))
theorem C0 (he:PE X e ta) (hb:attributeBase e f X.env (eval e X.env)=eval e X.env):PE X (.Attribute e f pos) (tXFld X.K f ta):=by
 intro pins s σ H Q I h;refine Ct hb (thn (he pins s σ H _ I h) λu s1 ⟨x,H1,I1,rx,a,C,dx,nw,bm,fs,v,ex,ea,ed,c,hna,l,q⟩=>?_);subst ex;obtain rfl:u=Value.ref a:=rx;obtain ⟨ob,vv,g1,g2,g3,g4,g5⟩:=XO.get I1.hok ea;obtain ⟨mA,n1,n2,n3⟩:=XD.get I1.hok ed;obtain ⟨w,hw,rw'⟩:=d9.some_of (v:=v) (o:=mA f) (by rw[←l];exact n2 f);obtain ⟨hh,g,d,tk,os⟩:=s1;exact yf I1.kIn c hna g1 g2 g4 g3 n1.ns hw (by first | exact zj rw' | (cases v <;> (first | (obtain ⟨_,rfl⟩:=rw';rfl) | (cases rw';rfl)))) ⟨v,H1,I1.tok _,rw',q⟩
end
def XIs (K:PySem.W.Frag) (H:Hp) (x:V) (C:Addr) (bm:List Value):Prop:=Xc K C bm∧∃a dx nw,x=.ref a∧H a=some (XO a C dx nw)∧(dx=none∨∃d fs,dx=some d∧H d=some (XD d fs))
section
variable {X:Cx} {pins:List (Addr×Obj)} {σ:St} {H:Hp} {s:Shared}
theorem lh {a C:Addr} {dx:Option Addr} {nw:Bool} (I:Inv X pins σ H s) (ea:H a=some (XO a C dx nw)) (ed:dx=none∨∃d fs,dx=some d∧H d=some (XD d fs)):∃o od,PySem.W.InstAt s.heap a o C od:=by
 obtain ⟨o,vv,g1,g2,g3,g4,g5⟩:=XO.get I.hok ea;have no:PySem.W.notCls o=true:=by unfold PySem.W.notCls;rw[g4]
 rcases ed with rfl | ⟨d,fs,rfl,e⟩
 ·exact ⟨o,none,g1,g2,no,by rw[g3];exact True.intro⟩
 ·obtain ⟨mA,⟨od,_,_,n1,_⟩,_⟩:=XD.get I.hok e;exact ⟨o,some od,g1,g2,no,by rw[g3];exact n1⟩
end
section
variable {X:Cx}
theorem cf:d0 X (.builtin "isinstance") (λxs H Q=>∃x C bm D bD,xs=[x,.ref D]∧XIs X.K H x C bm∧Xc X.K D bD∧Q (.bl ((Value.ref C::bm).contains (.ref D))) H):=by
 intro pins s σ H xs us Q I r h;obtain ⟨x,C,bm,D,bD,rfl,⟨c,a,dx,nw,rfl,ea,ed⟩,cD,q⟩:=h;obtain ⟨u,u2,rfl,rx,r2⟩:=vals2 r;cases (show u=Value.ref a from rx)
 cases (show u2=Value.ref D from r2)
 obtain ⟨o,od,J⟩:=lh I ea ed;exact PySem.W.kia_one (xkit c) I.kIn J (xo c cD) (λz=>nomatch z) λtk=>⟨.bl _,H,I.tok tk,rfl,q⟩
theorem i3:d0 X (.builtin "isinstance") (λxs H Q=>∃x C bm n,xs=[x,.ty n]∧XIs X.K H x C bm∧PySem.W.kitMeta n=true∧Q (.bl (bm.contains (.type n))) H):=by
 intro pins s σ H xs us Q I r h;obtain ⟨x,C,bm,n,rfl,⟨c,a,dx,nw,rfl,ea,ed⟩,hn,q⟩:=h;obtain ⟨u,u2,rfl,rx,r2⟩:=vals2 r;cases (show u=Value.ref a from rx)
 cases (show u2=Value.type n from r2)
 obtain ⟨o,od,J⟩:=lh I ea ed;exact PySem.W.kia_one (xkit c) I.kIn J (xkitTy c hn) (λz=>nomatch z) λtk=>⟨.bl _,H,I.tok tk,rfl,q⟩
theorem mn:∀{cs:List Addr} {us:List Value},Vals (cs.map V.ref) us→us=cs.map Value.ref
 | [],_,.nil=>rfl
 | c::cs,_,.cons r t=>by
  rw[aan,mn t];cases r
  rfl
theorem p0 {K:PySem.W.Frag} {C:Addr} {bm:List Value} (c:Xc K C bm):∀{cs:List Addr},(∀D∈cs,∃bD,Xc K D bD)→PySem.W.kitAny K (.ref C) (cs.map Value.ref)=some (cs.any λD=>(Value.ref C::bm).contains (.ref D))
 | [],_=>rfl
 | D::cs,h=>by
  obtain ⟨bD,cD⟩:=h D aa7;rw[aan,PySem.W.kitAny,xo c cD,abt,p0 c λD' h'=>h D' (aad _ h')];cases (Value.ref C::bm).contains (.ref D) <;> rfl
theorem ky {K:PySem.W.Frag}:∀{cs:List Addr},(∀D∈cs,∃bD,Xc K D bD)→PySem.W.kitAny K (.type "NoneType") (cs.map Value.ref)=some false
 | [],_=>rfl
 | D::cs,h=>by
  obtain ⟨bD,cD⟩:=h D aa7;obtain ⟨nm',qn',N',bs',sn',sx,ab',col',dd',k0',k1',k2',k3',k5',lk'⟩:=cD.lk;have e:PySem.W.kitOne K (.type "NoneType") (.ref D)=some false:=by
   unfold PySem.W.kitOne;rw[if_neg (by intro z;cases beq_iff_eq.mp z)];unfold PySem.W.kitCls;dsimp only;rw[if_pos (by rw[PySem.W.ck lk'];show (true&&((K.lookup D).map (·.cls))==some (Value.type "type"))=true;rw[lk'];rfl)];show (fastBuiltinMro "NoneType").map (·.contains (Value.ref D))=some false
   rw[show fastBuiltinMro "NoneType"=some [Value.type "NoneType",Value.type "object"] from by kernel_rfl];rfl
  rw[aan,PySem.W.kitAny,e];exact ky λD' h'=>h D' (aad _ h')
theorem qp:d0 X (.builtin "isinstance") (λxs H Q=>∃(x:V) (p:Addr) (cs:List Addr) (b:Bool),xs=[x,.ref p]∧H p=some (.tup (cs.map V.ref))∧(∀D∈cs,∃bD,Xc X.K D bD)∧
  ((x=.non∧b=false)∨∃C bm,XIs X.K H x C bm∧b=cs.any λD=>(Value.ref C::bm).contains (.ref D))∧Q (.bl b) H):=by
 intro pins s σ H xs us Q I r h;obtain ⟨x,p,cs,b,rfl,hp,hcs,hx,q⟩:=h;obtain ⟨u,u2,rfl,rx,r2⟩:=vals2 r;cases (show u2=Value.ref p from r2)
 obtain ⟨_,its,ri,o,h1,h2,k,h3,h4⟩:=(show ay X.prog X.w H s.heap p (.tup (cs.map V.ref)) from I.hok p _ hp);obtain rfl:=mn ri;obtain ⟨cls,dd,data,sl⟩:=o;cases (show cls=.type "tuple" from h2)
 cases (show data=.seq (cs.map Value.ref).toArray k from h3)
 have fin:∀tk:Nat,∃y H',Inv X pins σ H' { s with toks:=tk }∧RelV y (Value.bool b)∧Q y H':=λtk=>⟨.bl b,H,I.tok tk,rfl,q⟩;rcases hx with ⟨rfl,rfl⟩ | ⟨C,bm,⟨c,a,dx,nw,rfl,ea,ed⟩,rfl⟩
 ·cases (show u=Value.none from rx)
  exact PySem.W.kia_tup PySem.W.kitx_none I.kIn True.intro h1 (ky hcs) (λz=>nomatch z) fin
 ·cases (show u=Value.ref a from rx)
  obtain ⟨o',od,J⟩:=lh I ea ed;exact PySem.W.kia_tup (xkit c) I.kIn J h1 (p0 c hcs) (λz=>nomatch z) fin
end
def XF (X:Cx) (pins:List (Addr×Obj)) (σ:St) (E:XK):Value→Shared→Prop:=λe s'=>∃H' n a cls dx,e=.ref a∧Inv X pins σ H' s'∧Bnd X pins n∧Fly n H' s'.heap a cls dx∧E cls dx H'
abbrev TX:=Ends→XK→St→Hp→Prop
def PXS (X:Cx) (st:List Stmt) (t:TX):Prop:=
 ∀(pins:List (Addr×Obj)) (s:Shared) (σ:St) (H:Hp) (D:Ends) (E:XK),Inv X pins σ H s→t D E σ H→wpAny (model X.prog X.w) X.A (execs st X.env) (SP X pins D) (XF X pins σ E) s
noncomputable def zm (sp:Sp) (t:TA):TX:=λD E σ H=>t σ H λvs H1=>sp vs H1 (λ_ H2=>D.nx σ H2) E
section
variable {X:Cx} {k:Nat} {ps:List Str} {sp:Sp} {x:Str} {p pos epos:Pos} {e:Expr} {es:List Expr} {t:TA}
theorem Dh (h:dz X.prog X.w X.K X.mg X.base k x ps sp) (hr:br k X.A) (ha:PA X.nox (e::es) t) (hg:Gl X x) (hdb:(x==("__debug__":Str))=false)
  (he:starEach (e::es) X.env=(false,eval e X.env)::starEach es X.env) (hpl:(backTo pos (starEach es X.env)).any (·.1)=false)
  {pins:List (Addr×Obj)} {s:Shared} {σ:St} {H:Hp} {Q:VK} {E:XK} (I:Inv X pins σ H s) (w:t σ H λvs H1=>sp vs H1 Q E):
  wpAny (model X.prog X.w) X.A (eval (.Call (.Name x p) (e::es) [] pos) X.env) (EP X pins σ Q) (XF X pins σ E) s:=by
 obtain ⟨f,fd,F,b,kp,m⟩:=h;refine wpAny_Call_Name_kw (cu I hg m ?_ hdb);refine PySem.W.callWith_K (h₀:=X.base) I.ok.mod.kin kp (wpAny_mono (ha pos pins s σ H _ (I.gm _) w) (λus s1 ⟨vs,H1,I1',r,q⟩=>?_) λ_ _ z=>False.elim z) he hpl;have I1:=I1'.bg;refine ⟨I1.kIn,?_⟩;have hl:us.length=ps.length:=by rw[←r.length];exact F.len _ _ _ _ q
 refine wpAny_call (codeAny_mono (F.run X.A X.stack s1 H1 ⟨us,[]⟩ us vs Q E hr I1.di (by have z:=b s1 us I1.kIn (by rw[ab6];exact hl);rw[ab6] at z;exact z) r q) λr s' hq=>?_);cases r with
 | error e=>
  obtain ⟨H',a,cls,dx,rfl,os,bare,un,hok,F',qE⟩:=hq;exact ⟨H',_,a,cls,dx,rfl,I1.Bg (ch:=[]) os un hok bare (λb z=>absurd z (by simp)),I1.bnd,F',qE⟩
 | ok fl=>
  cases fl with
  | ret u=>exact I1.after hq
  | next=>exact False.elim hq
  | brk=>exact False.elim hq
  | cont=>exact False.elim hq
theorem By (h:dz X.prog X.w X.K X.mg X.base k x ps sp) (hr:br k X.A) (ha:PA X.nox (e::es) t) (hg:Gl X x:=by rfl) (hdb:(x==("__debug__":Str))=false:=by decide+kernel)
  (he:starEach (e::es) X.env=(false,eval e X.env)::starEach es X.env:=by rfl) (hpl:(backTo pos (starEach es X.env)).any (·.1)=false:=by rfl) (hs:swapsWith (.Call (.Name x p) (e::es) [] pos) none epos.line X.env=pure false:=by rfl):
  PXS X [.Expr (.Call (.Name x p) (e::es) [] pos) epos] (zm sp t):=by
 intro pins s σ H D E I w;refine wpAny_execs_cons (wpAny_Expr_any (thn (Dh h hr ha hg hdb he hpl I w) λv s1 ⟨y,H1,I1,r1,q1⟩=>?_) I.quiet hs);exact wpAny_execs_nil ⟨σ,H1,I1,q1⟩
end
section
variable {X:Cx} {pins:List (Addr×Obj)} {σ:St} {H:Hp} {s:Shared}
theorem Inv.locs {h':Heap} {m m':Str→Option Value} {t':Nat} (I:Inv X pins σ H s) (hl:∀(i:Nat) (x:Str) (v:V),X.N[i]?=some x→σ[i]?=some (some v)→Vis X.env.scope x→∃u,RelV v u∧Look X.env s.heap m x u)
  (hm:∀(i:Nat) (x:Str) (v:V),X.N[i]?=some x→σ[i]?=some (some v)→m' x=m x) (hn:h'.Ns X.env.locals m') (sb:Heap.SameBut X.env.locals s.heap h'):Inv X pins σ H { s with heap:=h',toks:=t' }:=by
 have neL:∀b o,X.s₀.heap.get? b=some o→b≠X.env.locals:=λb o e=>aab (aa6 (Heap.lt_size e) I.ok.above);have cl:∀y c v,X.env.cells.lookup y=some c→s.heap.IsCell c v→h'.IsCell c v:=λy c v e z=>z.sameBut sb (I.cne y c e);refine ⟨I.ok,I.os,I.bare,⟨λb o e n hb hx=>?_,λb o e n hb hx=>?_,I.base.free,λb o e hx=>?_,I.base.tups,I.base.frzs,I.base.tbls⟩,⟨m',hn,λi x v e1 e2 e3=>?_⟩,λy c e=>?_,I.free,I.freeC,λp hp=>?_,λb u e=>?_,I.len⟩
 ·exact (sb.2 b (neL b o e)).trans (I.base.keep b o e n hb hx)
 ·obtain ⟨sl,e1⟩:=I.base.slot b o e n hb hx;exact ⟨sl,(sb.2 b (neL b o e)).trans e1⟩
 ·obtain ⟨o',e1⟩:=I.base.there b o e hx;exact ⟨o',(sb.2 b (neL b o e)).trans e1⟩
 ·obtain ⟨u,r,l⟩:=hl i x v e1 e2 e3;refine ⟨u,r,?_⟩;rcases l with ⟨k,e⟩ | ⟨k,c,e,z⟩
  ·exact .inl ⟨k,by rw[hm i x v e1 e2];exact e⟩
  ·exact .inr ⟨k,c,e,cl x c _ e z⟩
 ·obtain ⟨v,z⟩:=I.cell y c e;exact ⟨v,cl y c v e z⟩
 ·obtain ⟨e,n,ne,nf,d⟩:=I.pin p hp;exact ⟨(sb.2 p.1 ne).trans e,n,ne,nf,d⟩
 ·refine (I.hok b u e).qi (λc v hc q=>(sb.2 c ?_).trans q) (λ_ q=>q) λ_ _ q=>q;rintro rfl;rcases hc with rfl | hc
  ·rw[I.free] at e;cases e
  ·rw[I.free] at hc;cases hc
theorem Inv.gone {M:Model} {A:Around} {E:Value→Shared→Prop} {i:Nat} {n:Str} {pos:Pos} {Q:Unit→Shared→Prop} (I:Inv X pins σ H s) (hN:X.N.Nodup) (hi:X.N[i]?=some n) (hk:X.env.scope.names.lookup n=some .local)
  (q:∀s',Inv X pins (σ.set i none) H s'→Q () s'):wpAny M A (do bindName X.env n .none;unbindBehindTheSuite X.env n pos) Q E s:=by
 have hcls:(X.env.scope.kind==.class||(X.env.scope.kind==.module&&X.env.locals !=X.env.globals))=false:=by rw[I.ok.kind];rfl
 have hiσ:i < σ.length:=by rw[I.len];exact (List.getElem?_eq_some_iff.mp hi).1
 have wk:∀(j:Nat) v,(σ.set i none)[j]?=some (some v)→j≠i∧σ[j]?=some (some v):=λj v e=>by
  by_cases hj:j=i
  ·subst hj;rw[ac6 hiσ] at e;cases e
  ·rw[ac9 (Ne.symm hj)] at e;exact ⟨hj,e⟩
 have I1:Inv X pins (σ.set i none) H s:=I.weak (List.length_set ..) λj v e=>(wk j v e).2;obtain ⟨m,hn,hl⟩:=id I1.loc;refine Ck hk hn hcls λh' m' hn' ho sb=>q _ (I1.locs hl (λj x v e1 e2=>ho x λz=>?_) hn' sb);subst z;exact (wk j v e2).1 (mi hN e1 hi)
noncomputable abbrev Cx.inX (X:Cx) (a:Addr):Cx:={ X with A:=X.A.mark (some (.ref a)),calm:=false }
theorem Cx.Ok.inX {a:Addr} (ok:X.Ok):(X.inX a).Ok:=
 ⟨ok.mod,ok.kind,ok.glob,ok.blt,ok.above,ok.inj,ok.has,ok.cab,λz=>acq z,ok.frames,ok.stk,ok.exf,ok.bs,ok.bsz,ok.noex,ok.exfs,ok.jk,ok.frf⟩
theorem Inv.inX {a:Addr} (I:Inv X pins σ H s):Inv (X.inX a) pins σ H s:=⟨I.ok.inX,I.os,I.bare,I.base,I.loc,I.cell,I.free,I.freeC,I.pin,I.hok,I.len⟩
theorem Inv.outX {a:Addr} (ok:X.Ok) (I:Inv (X.inX a) pins σ H s):Inv X pins σ H s:=⟨ok,I.os,I.bare,I.base,I.loc,I.cell,I.free,I.freeC,I.pin,I.hok,I.len⟩
end
def tTry (K:PySem.W.Frag) (D:Addr) (ie:Nat) (tb:TX) (ts:TS):TS:=λDn σ H=>tb Dn (λcls dx H2=>∃C bm,cls=.ref C∧Xc K C bm∧(Value.ref C::bm).contains (.ref D)=true∧
 ∀a,H2 a=none→ts { nx:=λσ' H'=>Dn.nx (σ'.set ie none) H',rt:=Dn.rt,bk:=λσ' H'=>Dn.bk (σ'.set ie none) H',ct:=λσ' H'=>Dn.ct (σ'.set ie none) H' } (σ.set ie (some (.ref a))) (upd H2 a (XO a C dx false))) σ H
section
variable {X:Cx} {D:Addr} {bD:List Value} {ie:Nat} {n y:Str} {cp hpos tpos:Pos} {body suite:List Stmt} {b₀:Stmt} {tb:TX} {ts:TS}
theorem ps_try (S:mq X) (hN:X.N.Nodup) (hi:X.N[ie]?=some n) (hk:X.env.scope.names.lookup n=some .local) (hf:X.fn n=true) (cD:Xc X.K D bD) (hm:X.mg y=some (.ref D)) (hb:PXS X body tb) (hs:∀a,PSs (X.inX a).nox (b₀::suite) ts)
  (hg:Gl X y:=by rfl) (hdb:(y==("__debug__":Str))=false:=by decide+kernel):PS X (.Try body [.ExceptHandler (some (.Name y cp)) (some n) (b₀::suite) hpos] [] [] tpos) (tTry X.K D ie tb ts):=by
 intro pins s σ H Dn I h;refine wpAny_Try_except (wpAny_mono (hb pins s σ H _ _ I h) (λf s1 q=>?_) λe s1 z=>?_)
 ·cases f with
  | next=>exact wpAny_execs_nil q
  | ret v=>exact q
  | brk=>exact q
  | cont=>exact q
 ·obtain ⟨H1,nn,a,cls,dx,rfl,I1,B,F,C,bm,rfl,c,hc,q⟩:=z;refine qc I1 B F S rfl rfl λh2 I2 F2=>?_;refine cw I2 B F2 λh3 I3 F3=>?_;have I3':Inv (X.inX a) pins σ H1 { s1 with heap:=h3 }:=I3.inX;refine wpAny_handleBy_cons (codeAny_handlers_test (cu I3' hg hm ?_ hdb)) (by intro q;cases q);obtain ⟨oe,vs,f1,f2,f3,f4,f5,T,oT,ts',k1,k2,k3,k4,k5,k6,k7⟩:=F3.ob;refine xmatch (K:=X.K) I3.kIn c cD f1 f2 ?_;rw[hc];refine codeAny_handlers_suite_as (cw I3 B F3 λh4 I4 F4=>?_);obtain ⟨oe,vs,f1,f2,f3,f4,f5,T,oT,ts',k1,k2,k3,k4,k5,k6,k7⟩:=F4.ob;have I5:=I4.track (o:=XO a C dx false) B F4.lo F4.un (XO.mk ⟨oe,vs,f1,f2,f3,f4,λz=>acq z⟩);refine lg I5 hN hi (.inl hk) (v:=.ref a) rfl (λs6 I6=>?_) (.inl hf);refine wpAny_mono (hs a pins s6 _ _ _ (I6.inX.gm _) (q a F4.un)) (λf s7 w=>?_) λ_ _ z=>False.elim z;cases f with
  | next=>
   obtain ⟨σ7,H7,J,w⟩:=w;exact (J.bg.outX I6.ok).gone hN hi hk λs8 J8=>⟨_,H7,J8,w⟩
  | brk=>
   obtain ⟨σ7,H7,J,w⟩:=w;exact (J.bg.outX I6.ok).gone hN hi hk λs8 J8=>⟨_,H7,J8,w⟩
  | cont=>
   obtain ⟨σ7,H7,J,w⟩:=w;exact (J.bg.outX I6.ok).gone hN hi hk λs8 J8=>⟨_,H7,J8,w⟩
  | ret u=>
   obtain ⟨v,σ7,H7,J,r,w⟩:=w;exact (J.bg.outX I6.ok).gone hN hi hk λs8 J8=>⟨v,_,H7,J8,r,w⟩
end
noncomputable def ir (s:Stmt):List Stmt:=match s with
 | .ClassDef _ _ _ b _ _ _ _ _ _ _=>b
 | _=>[]
def fi (P:Program) (w:World) (K:PySem.W.Frag) (mg:Str→Option Value) (base:Heap) (k:Nat) (C:Addr) (ps:List Str) (sp:Sp):Prop:=
 ∃(f:Addr) (fd:FuncData),PySem.W.findIn K (.ref C) "__init__"=some (some (.ref f))∧PySem.W.typeIn K (.ref f)=some (.type "function")∧cx P w K mg base CX0 k f fd ps sp∧Binds K fd ps []
def ax (C:Addr) (f:Str):Sp:=λvs H Q _=>∃(a:Addr) (v:V),vs=[.ref a,v]∧H a=some (XO a C none true)∧∀dx,H dx=none→dx≠a→Q .non (upd (upd H dx (XD dx [(f,v)])) a (XO a C (some dx) true))
section
variable {X:Cx} {E:XK} {k:Nat} {C:Addr} {bm:List Value} {ps:List Str} {sp:Sp} {x:Str} {p cpos pos:Pos} {e:Expr} {es:List Expr} {t:TA}
theorem xy (c:Xc X.K C bm) (h:fi X.prog X.w X.K X.mg X.base k C ps sp) (hr:br (k+1) X.A) (hps:ps.length≤100) (hm:X.mg x=some (.ref C)) (ha:PA (X.xp E) (e::es) t) (hg:Gl X x:=by rfl) (hdb:(x==("__debug__":Str))=false:=by decide+kernel)
  (he:starEach (e::es) X.env=(false,eval e X.env)::starEach es X.env:=by rfl) (hpl:(backTo cpos (starEach es X.env)).any (·.1)=false:=by rfl):
  PS (X.xp E) (.Raise (some (.Call (.Name x p) (e::es) [] cpos)) none pos) (qf C sp E t):=by
 obtain ⟨f,fd,h1,h2,F,b⟩:=h;exact zh c h1 h2 F hr hps hm b ha hg hdb he hpl
theorem Ds (h:dz X.prog X.w X.K X.mg X.base k x ps sp) (hr:br k X.A) (ha:PA X (e::es) t) (hg:Gl X x:=by rfl) (hdb:(x==("__debug__":Str))=false:=by decide+kernel)
  (he:starEach (e::es) X.env=(false,eval e X.env)::starEach es X.env:=by rfl) (hpl:(backTo pos (starEach es X.env)).any (·.1)=false:=by rfl):
  PE X (.Call (.Name x p) (e::es) [] pos) (m6 sp [] E0 t):=by
 obtain ⟨f,fd,F,b,kp,m⟩:=h;refine rh F hr hg m kp b .nil ?_ ha hdb he hpl;rintro pins σ H s e s' I ⟨H',a,cls,dx,rfl,os,bare,un,hok,F,q⟩;exact q.elim
end
theorem raise1 {C:Addr} {f:Str} {E:XK} {t:TA} {D:Ends} {σ:St} {H:Hp} {v:V} (h:∀Q:List V→Hp→Prop,Q [v] H→t σ H Q) (q:∀dx H',ah H H'→H' dx=some (XD dx [(f,v)])→E (.ref C) (some dx) H'):qf C (ax C f) E t D σ H:=by
 refine h _ λa ha=>?_;refine ⟨a,v,rfl,aa,λdx hd ne=>⟨rfl,some dx,aa,q dx _ ?_ ?_⟩⟩
 ·intro b o hb;have n1:b≠a:=aj hb ha;have n2:b≠dx:=λz=>by subst z;rw[ag n1] at hd;rw[hd] at hb;cases hb
  rw[dv n1,ag n1,ag n2,ag n1];exact hb
 ·rw[dv ne,ag ne,aa]
end L2
namespace Pc
open PySem PySem.Spec L2 PyProof.Rows
structure Cl where
 cov:Addr
 noTerm:Addr
 noBox:Addr
 badCover:Addr
 noCover:Addr
 badRow:Addr
 noValue:Addr
 twice:Addr
 noName:Addr
 badShape:Addr
 badDeed:Addr
 unsound:Addr
noncomputable def Cl.all (c:Cl):List Addr:=[c.cov,c.noTerm,c.noBox,c.badCover,c.noCover,c.badRow,c.noValue,c.twice,c.noName,c.badShape,c.badDeed,c.unsound]
noncomputable abbrev vbm:List Value:=[.type "ValueError",.type "Exception",.type "BaseException",.type "object"]
noncomputable abbrev cbm (c:Cl):List Value:=.ref c.cov::vbm
structure Errs (K:PySem.W.Frag) (mg:Str→Option Value) (c:Cl):Prop where
 nd:c.all.Nodup
 m_cov:mg "CoverError"=some (.ref c.cov)
 m_noTerm:mg "NoTerm"=some (.ref c.noTerm)
 m_noBox:mg "NoBox"=some (.ref c.noBox)
 m_badCover:mg "BadCover"=some (.ref c.badCover)
 m_noCover:mg "NoCover"=some (.ref c.noCover)
 m_badRow:mg "BadRow"=some (.ref c.badRow)
 m_noValue:mg "NoValue"=some (.ref c.noValue)
 m_twice:mg "Twice"=some (.ref c.twice)
 m_noName:mg "NoName"=some (.ref c.noName)
 m_badShape:mg "BadShape"=some (.ref c.badShape)
 m_badDeed:mg "BadDeed"=some (.ref c.badDeed)
 m_unsound:mg "Unsound"=some (.ref c.unsound)
 x_cov:Xc K c.cov vbm
 x_noTerm:Xc K c.noTerm (cbm c)
 x_noBox:Xc K c.noBox (cbm c)
 x_badCover:Xc K c.badCover (cbm c)
 x_noCover:Xc K c.noCover (cbm c)
 x_badRow:Xc K c.badRow (cbm c)
 x_noValue:Xc K c.noValue (cbm c)
 x_twice:Xc K c.twice (cbm c)
 x_noName:Xc K c.noName (cbm c)
 x_badShape:Xc K c.badShape (cbm c)
 x_badDeed:Xc K c.badDeed (cbm c)
 x_unsound:Xc K c.unsound (cbm c)
 r_cov:PySem.W.readsIn K c.cov (.type "type")=true
 t_cov:PySem.W.typeIn K (.ref c.cov)=some (.type "type")
 f_cov:PySem.W.findCls K (.ref c.cov) (.type "type") "__init__"=some (.val (.builtin "ValueError.__init__"))
theorem Xc.mk' {K:PySem.W.Frag} {C:Addr} {bm:List Value} {nm q:Str} {N:Addr} {bs:List Value} {sn:List Str} {sub:List Value} {ab:Bool} {col:Option Bool} {dd:Option Addr} {k0 k1 k2 k3 k5:Option Value}
  (lk:K.lookup C=some (excClassObj nm q C N bs bm true sn sub ab col dd k0 k1 k2 k3 k5 "ValueError.__new__")) (kp:PySem.W.keepIn K (.ref C)=true) (fs:PySem.W.findIn K (.ref C) "__setattr__"=some (some (.builtin "object.__setattr__")))
  (fg:PySem.W.findIn K (.ref C) "__getattribute__"=some (some (.builtin "BaseException.__getattribute__"))) (fh:PySem.W.findIn K (.ref C) "__getattr__"=some none) (fc:PySem.W.findIn K (.ref C) "__class__"=some (some (.builtin "object.__class__")))
  (hb:bm=vbm∨∃D,bm=.ref D::vbm):Xc K C bm where
 lk:=⟨_,_,_,_,_,_,_,_,_,_,_,_,_,_,lk⟩
 hv:=by rcases hb with rfl | ⟨D,rfl⟩ <;> rfl
 hb:=by rcases hb with rfl | ⟨D,rfl⟩ <;> rfl
 ha:=by rcases hb with rfl | ⟨D,rfl⟩ <;> rfl
 hn:=by rcases hb with rfl | ⟨D,rfl⟩ <;> rfl
 ho:=by rcases hb with rfl | ⟨D,rfl⟩ <;> rfl
 kp:=kp
 sa:=λself=>by
  rcases hb with rfl | ⟨D,rfl⟩
  ·exact PySem.F.store_ValueError.passes self
  ·rw[refuseLoop_ref];exact PySem.F.store_ValueError.passes self
 fs:=fs
 fg:=fg
 fh:=fh
 fc:=fc
theorem isC {c:Cl} {C D:Addr}:(Value.ref C::cbm c).contains (.ref D)=(decide (D=C)||decide (D=c.cov)):=by
 rw[aap,aap];have e1:(Value.ref D==Value.ref C)=decide (D=C):=by
  by_cases h:D=C
  ·rw[h,decide_eq_true rfl];simp
  ·rw[decide_eq_false h];exact Bool.eq_false_iff.mpr λz=>h (Value.ref.inj (beq_iff_eq.mp z))
 have e2:(Value.ref D==Value.ref c.cov)=decide (D=c.cov):=by
  by_cases h:D=c.cov
  ·rw[h,decide_eq_true rfl];simp
  ·rw[decide_eq_false h];exact Bool.eq_false_iff.mpr λz=>h (Value.ref.inj (beq_iff_eq.mp z))
 have e3:(vbm.contains (Value.ref D))=false:=rfl;rw[e1,e2,e3,ad4]
theorem anyC {c:Cl} {C:Addr} {cs:List Addr} (h:∀D∈cs,D≠C∧D≠c.cov):(cs.any λD=>(Value.ref C::cbm c).contains (.ref D))=false:=by
 rw[adb];intro D hD;rw[isC,decide_eq_false (h D hD).1,decide_eq_false (h D hD).2];decide
theorem Errs.ne {K:PySem.W.Frag} {mg:Str→Option Value} {κ:Cl} (er:Errs K mg κ) (i j:Nat) {C D:Addr} (hi:κ.all[i]?=some D) (hj:κ.all[j]?=some C) (hij:i≠j):D≠C:=λe=>by
 subst e;obtain ⟨h1,e1⟩:=List.getElem?_eq_some_iff.mp hi;obtain ⟨h2,e2⟩:=List.getElem?_eq_some_iff.mp hj;exact hij ((ack er.nd).mp (e1.trans e2.symm))
theorem jc:bootBuiltins "ValueError"=some (.type "ValueError"):=by decide+kernel
end Pc
namespace L2
open PySem PySem.Spec PyProof.Rows
def Ba (C:Addr) (sp:Sp) (t:TA):TE:=λσ H Q=>t σ H λvs H1=>∀a,H1 a=none→sp (.ref a::vs) (upd H1 a (XO a C none true)) (λv H2=>v=.non∧Q (.ref a) H2) E0
def tNew0 (C:Addr) (t:TA):TE:=λσ H Q=>t σ H λvs H1=>vs.length≤100∧∀a,H1 a=none→Q (.ref a) (upd H1 a (XO a C none true))
section
variable {X:Cx} {k:Nat} {f C:Addr} {bm:List Value} {fd:FuncData} {ps:List Str} {sp:Sp} {x:Str} {p pos:Pos} {e:Expr} {es:List Expr} {t:TA}
theorem Dm (h:Has X.prog X.w X.K X.mg X.base k x [] sp) (hr:br k X.A) (hg:Gl X x:=by rfl) (hdb:(x==("__debug__":Str))=false:=by decide+kernel):PE X (.Call (.Name x p) [] [] pos) (m6 sp [] E0 tNil):=by
 obtain ⟨f,fd,F,b,kp,m⟩:=h;exact zz F hr hg m kp b .nil pass0 hdb
theorem Cz (c:Xc X.K C bm) (h:fi X.prog X.w X.K X.mg X.base k C ps sp) (hr:br (k+1) X.A) (hps:ps.length≤100) (hm:X.mg x=some (.ref C)) (ha:PA X (e::es) t) (hg:Gl X x:=by rfl) (hdb:(x==("__debug__":Str))=false:=by decide+kernel)
  (he:starEach (e::es) X.env=(false,eval e X.env)::starEach es X.env:=by rfl) (hpl:(backTo pos (starEach es X.env)).any (·.1)=false:=by rfl):
  PE X (.Call (.Name x p) (e::es) [] pos) (Ba C sp t):=by
 obtain ⟨f,fd,hi,hfn,F,hb⟩:=h;intro pins s σ H Q I h;refine wpAny_Call_Name_kw (cu I hg hm ?_ hdb);refine PySem.W.callWith_K (h₀:=X.base) I.ok.mod.kin c.kp (thn (ha pos pins s σ H _ I h) λus s1 ⟨vs,H1,I1,r,q⟩=>⟨I1.kIn,?_⟩) he hpl;have q1:=q (s1.heap.objs.size+1) (I1.hok.fresh (abk _));have r2:Vals (V.ref (s1.heap.objs.size+1)::vs) (Value.ref (s1.heap.objs.size+1)::us):=.cons rfl r;have hl:(Value.ref (s1.heap.objs.size+1)::us).length=ps.length:=by rw[←r2.length];exact F.len _ _ _ _ q1
 have hl2:us.length≤sizeLine:=by
  rw[sizeLine_eq];rw[aai] at hl;omega
 have I2:=Inv.Af (C:=C) (us:=us) I1;refine jd I1.kIn c hi (λself=>PySem.W.bind_fn I1.kIn self hfn) hl2 (wpAny_call (codeAny_mono (F.run _ X.stack _ _ ⟨Value.ref (s1.heap.objs.size+1)::us,[]⟩ (Value.ref (s1.heap.objs.size+1)::us) _ _ E0 (hr.make C us []) (I2.di.make C us [])
  (by have z:=hb _ (Value.ref (s1.heap.objs.size+1)::us) I2.kIn (by rw[ab6];exact hl);rw[ab6] at z;exact z) r2 q1) λr s' hq'=>?_))
 cases r with
 | error e=>exact False.elim hq'
 | ok fl=>
  cases fl with
  | ret u=>
   obtain ⟨v,H',I3,rv,ev,qq⟩:=I2.after hq';subst ev;exact ⟨rv,.ref _,H',I3,rfl,qq⟩
  | next=>exact False.elim hq'
  | brk=>exact False.elim hq'
  | cont=>exact False.elim hq'
theorem Cw (c:Xc X.K C bm) (hi:PySem.W.findIn X.K (.ref C) "__init__"=some (some (.builtin "ValueError.__init__"))) (hm:X.mg x=some (.ref C)) (ha:PA X (e::es) t) (hg:Gl X x:=by rfl) (hdb:(x==("__debug__":Str))=false:=by decide+kernel)
  (he:starEach (e::es) X.env=(false,eval e X.env)::starEach es X.env:=by rfl) (hpl:(backTo pos (starEach es X.env)).any (·.1)=false:=by rfl):
  PE X (.Call (.Name x p) (e::es) [] pos) (tNew0 C t):=by
 intro pins s σ H Q I h;refine wpAny_Call_Name_kw (cu I hg hm ?_ hdb);refine PySem.W.callWith_K (h₀:=X.base) I.ok.mod.kin c.kp (thn (ha pos pins s σ H _ I h) λus s1 ⟨vs,H1,I1,r,hl,q⟩=>⟨I1.kIn,?_⟩) he hpl;have hl2:us.length≤sizeLine:=by
  rw[sizeLine_eq,←r.length];omega
 refine jd I1.kIn c hi (λself=>PySem.W.Looks.of_pure (PySem.F.excBase_ValueError.init.bind self)) hl2 ?_;have I2:=Inv.Af (C:=C) (us:=us) I1;obtain ⟨o,vv,g1,g2,g3,g4,g5⟩:=XO.get I2.hok (aa (H:=H1) (a:=s1.heap.objs.size+1) (o:=XO (s1.heap.objs.size+1) C none true));obtain ⟨tt,rfl⟩:=g5 rfl;obtain ⟨h1,g,d,tk,os⟩:=s1;refine wpAny_call (jz I2.kIn c g1 g2 g4 hl2 ⟨rfl,?_⟩);exact ⟨.ref _,_,Bx I2 aa,rfl,q _ (I1.hok.fresh (abk _))⟩
end
def XAt (H:Hp) (a C:Addr) (fs:List (Str×V)):Prop:=∃nw,(H a=some (XO a C none nw)∧fs=[])∨∃dx,H a=some (XO a C (some dx) nw)∧H dx=some (XD dx fs)
theorem XAt.same {H H':Hp} {a C:Addr} {fs:List (Str×V)} (h:XAt H a C fs) (s:ah H H'):XAt H' a C fs:=by
 obtain ⟨nw,⟨h1,h2⟩ | ⟨dx,h1,h2⟩⟩:=h
 ·exact ⟨nw,.inl ⟨s _ _ h1,h2⟩⟩
 ·exact ⟨nw,.inr ⟨dx,s _ _ h1,s _ _ h2⟩⟩
theorem XAt.is {K:PySem.W.Frag} {H:Hp} {a C:Addr} {bm:List Value} {fs:List (Str×V)} (h:XAt H a C fs) (c:Xc K C bm):XIs K H (.ref a) C bm:=by
 obtain ⟨nw,⟨h1,h2⟩ | ⟨dx,h1,h2⟩⟩:=h
 ·exact ⟨c,a,none,nw,rfl,h1,.inl rfl⟩
 ·exact ⟨c,a,some dx,nw,rfl,h1,.inr ⟨dx,_,rfl,h2⟩⟩
theorem XAt.fld {K:PySem.W.Frag} {H:Hp} {a C:Addr} {bm:List Value} {fs:List (Str×V)} {f:Str} {v:V} {Q:VK} (h:XAt H a C fs) (c:Xc K C bm) (hw:PySem.W.findIn K (.ref C) f=some none) (hl:fs.lookup f=some v) (q:Q v H):
  ∃(b D dx:Addr) (nw:Bool) (bm:List Value) (fs:List (Str×V)) (u:V),V.ref a=.ref b∧H b=some (XO b D (some dx) nw)∧H dx=some (XD dx fs)∧Xc K D bm∧PySem.W.findIn K (.ref D) f=some none∧fs.lookup f=some u∧Q u H:=by
 obtain ⟨nw,⟨h1,rfl⟩ | ⟨dx,h1,h2⟩⟩:=h
 ·cases hl
 ·exact ⟨a,C,dx,nw,bm,fs,v,rfl,h1,h2,c,hw,hl,q⟩
theorem fz {K:PySem.W.Frag} {H:Hp} {a C:Addr} {bm:List Value} {fs:List (Str×V)} {f:Str} {v:V} {Q:VK} {ta:TE} {σ:St} (h:XAt H a C fs) (c:Xc K C bm) (hw:PySem.W.findIn K (.ref C) f=some none) (hl:fs.lookup f=some v) (ht:∀R:VK,R (.ref a) H→ta σ H R) (q:Q v H):tXFld K f ta σ H Q:=ht _ (h.fld c hw hl q)
end L2
namespace Pc
open PySem PySem.Spec L2 PyProof.Rows
theorem kg {C:Addr} {t:TA} {σ:L2.St} {H:Hp} {Q:VK} {v:V} (ht:∀R:List V→Hp→Prop,R [v] H→t σ H R) (q:∀a H',ah H H'→XAt H' a C []→Q (.ref a) H'):tNew0 C t σ H Q:=
 ht _ ⟨by show 1≤100;decide,λa ha=>q a _ (ae ha _) ⟨true,.inl ⟨aa,rfl⟩⟩⟩
theorem fw {C:Addr} {f:Str} {t:TA} {σ:L2.St} {H:Hp} {Q:VK} {v:V} (ht:∀R:List V→Hp→Prop,R [v] H→t σ H R) (q:∀a H',ah H H'→XAt H' a C [(f,v)]→Q (.ref a) H'):Ba C (ax C f) t σ H Q:=by
 refine ht _ λa ha=>⟨a,v,rfl,aa,λdx hd ne=>⟨rfl,q a _ (λb o hb=>?_) ⟨true,.inr ⟨dx,aa,by rw[ag ne,aa]⟩⟩⟩⟩;have n1:b≠a:=aj hb ha;have n2:b≠dx:=λz=>by subst z;rw[ag n1] at hd;rw[hd] at hb;cases hb
 rw[ag n1,ag n2,ag n1];exact hb
def ke (C:Addr):Sp:=λvs H Q _=>∃(a d:Addr) (v:V) (kvs:List (Key×V)),vs=[.ref a,v,.ref d]∧H a=some (XO a C none true)∧H d=some (.dK kvs)∧∀(l dx:Addr) (H':Hp),(∀b o,b≠a→H b=some o→H' b=some o)→H' a=some (XO a C (some dx) true)→H' dx=some (XD dx [("worths",.ref l),("word",v)])→H' l=some (.dK kvs)→Q .non H'
theorem C2 {C:Addr} {t:TA} {σ:L2.St} {H:Hp} {Q:VK} {v:V} {kvs:List (Key×V)} (ht:∀R:List V→Hp→Prop,(∀d H',ah H H'→H' d=some (.dK kvs)→R [v,.ref d] H')→t σ H R) (q:∀a l H',ah H H'→XAt H' a C [("worths",.ref l),("word",v)]→H' l=some (.dK kvs)→Q (.ref a) H'):Ba C (ke C) t σ H Q:=
 ht _ λd H1 s1 hd a ha=>⟨a,d,v,kvs,rfl,aa,by rw[ag (aj hd ha)];exact hd,λl dx H2 k1 k2 k3 k4=>⟨rfl,q a l H2 (λb o hb=>k1 b o (aj (s1 _ _ hb) ha) (by rw[ag (aj (s1 _ _ hb) ha)];exact s1 _ _ hb)) ⟨true,.inr ⟨dx,k2,k3⟩⟩ k4⟩⟩
end Pc
namespace PySem.Sti
open PySem
def Ris (xs:Array Nat):Prop:=∀i j x y:Nat,i < j→xs[i]?=some x→xs[j]?=some y→x < y
theorem Bb {xs:Array Nat} {j:Nat} (hr:Ris xs):∀(fuel lo hi:Nat),hi≤xs.size→lo≤hi→hi - lo≤fuel→(∀i x,xs[i]?=some x→i < lo→x < j)→(∀i x,xs[i]?=some x→hi≤i→j≤x)→
  SetTable.below.go xs j fuel lo hi≤xs.size∧∀i x,xs[i]?=some x→(i < SetTable.below.go xs j fuel lo hi↔x < j)
 | 0,lo,hi,h1,h2,h3,a,b=>by
  have e:lo=hi:=by omega
  subst e;refine ⟨h1,λi x hx=>⟨λk=>a i x hx k,λk=>?_⟩⟩;rcases acd i lo with z | z
  ·exact z
  ·have:=b i x hx z;omega
 | fuel+1,lo,hi,h1,h2,h3,a,b=>by
  unfold SetTable.below.go;by_cases hl:lo < hi
  ·rw[if_pos hl];dsimp only;have hm:(lo+hi) / 2 < xs.size:=by omega
   have em:xs[(lo+hi) / 2]?=some xs[(lo+hi) / 2]:=aak hm;have eg:xs.getD ((lo+hi) / 2) j=xs[(lo+hi) / 2]:=by
    rw[aba,em];rfl
   rw[eg];by_cases hc:xs[(lo+hi) / 2] < j
   ·rw[if_pos hc];refine Bb hr fuel _ _ h1 (by omega) (by omega) (λi x hx hi2=>?_) b;rcases acd i ((lo+hi) / 2) with z | z
    ·exact acp (hr _ _ _ _ z hx em) hc
    ·have e:i=(lo+hi) / 2:=by omega
     rw[e,em] at hx;cases hx
     exact hc
   ·rw[if_neg hc];refine Bb hr fuel _ _ (by omega) (by omega) (by omega) a (λi x hx hi2=>?_);rcases acd ((lo+hi) / 2) i with z | z
    ·have:=hr _ _ _ _ z em hx;omega
    ·have e:i=(lo+hi) / 2:=by omega
     rw[e,em] at hx;cases hx
     omega
  ·rw[if_neg hl];have e:lo=hi:=by omega
   subst e;refine ⟨h1,λi x hx=>⟨λk=>a i x hx k,λk=>?_⟩⟩;rcases acd i lo with z | z
   ·exact z
   ·have:=b i x hx z;omega
theorem below_at {xs:Array Nat} (hr:Ris xs) (j:Nat):SetTable.below xs j≤xs.size∧∀i x,xs[i]?=some x→(i < SetTable.below xs j↔x < j):=
 Bb hr _ _ _ (aa3 _) (ab0 _) (aa3 _) (λ_ _ _ h=>absurd h (abx _)) (λi x hx h=>by
  have:=(Array.getElem?_eq_some_iff.mp hx).1;omega)
theorem sm {xs:Array Nat} (hr:Ris xs) {j n:Nat} (hn:n≤xs.size) (h:∀i x,xs[i]?=some x→(i < n↔x < j)):SetTable.below xs j=n:=by
 obtain ⟨h1,h2⟩:=below_at hr j;rcases acj (SetTable.below xs j) n with z | z | z
 ·have e:=aak (show SetTable.below xs j < xs.size by omega);have:=((h2 _ _ e).trans (h _ _ e).symm).mpr z;omega
 ·exact z
 ·have e:=aak (show n < xs.size by omega);have:=((h2 _ _ e).trans (h _ _ e).symm).mp z;omega
theorem vt {xs:Array Nat} (hr:Ris xs) {j:Nat} (hj:∀i:Nat,xs[i]?≠some j):Ris (SetTable.insertAt xs (SetTable.below xs j) j):=by
 obtain ⟨hb,hl⟩:=below_at hr j;generalize SetTable.below xs j=p at hb hl;have g:∀i:Nat,(SetTable.insertAt xs p j)[i]?=if i < p then xs[i]? else if i=p then some j else xs[i - 1]?:=λi=>by
  rw[←ab5,SetTable.toList_insertAt];have hlt:(xs.toList.take p).length=p:=by rw[aaf,aae];omega
  by_cases h1:i < p
  ·rw[if_pos h1,aal (by omega),ab4 h1,ab5]
  ·rw[if_neg h1,aaj (by omega),hlt];by_cases h2:i=p
   ·rw[if_pos h2,h2,abo];rfl
   ·rw[if_neg h2,show i - p=(i - p - 1)+1 by omega,acv,ad8,ab5,show p+(i - p - 1)=i - 1 by omega]
 intro a b x y hab hx hy;rw[g] at hx hy;by_cases a1:a < p
 ·rw[if_pos a1] at hx;have hxj:=(hl a x hx).mp a1;by_cases b1:b < p
  ·rw[if_pos b1] at hy;exact hr _ _ _ _ hab hx hy
  ·rw[if_neg b1] at hy;by_cases b2:b=p
   ·rw[if_pos b2] at hy;cases hy
    exact hxj
   ·rw[if_neg b2] at hy;exact hr _ _ _ _ (show a < b - 1 by omega) hx hy
 ·rw[if_neg a1] at hx;rw[if_neg (show ¬b < p by omega),if_neg (show ¬b=p by omega)] at hy;have hjy:j < y:=by
   have h1:¬y < j:=λz=>by
    have:=(hl _ _ hy).mpr z;omega
   have h2:y≠j:=λz=>hj (b - 1) (by rw[hy,z]);omega
  by_cases a2:a=p
  ·rw[if_pos a2] at hx;cases hx
   exact hjy
  ·rw[if_neg a2] at hx;exact hr _ _ _ _ (show a - 1 < b - 1 by omega) hx hy
theorem zk (n:Nat):Ris (Array.range n):=by
 intro a b x y hab hx hy;obtain ⟨h1,e1⟩:=Array.getElem?_eq_some_iff.mp hx;obtain ⟨h2,e2⟩:=Array.getElem?_eq_some_iff.mp hy;rw[Array.getElem_range] at e1 e2;omega
theorem sy {l:List Nat} (h:l.Pairwise (· < ·)):Ris l.toArray:=by
 intro a b x y hab hx hy;rw[ac8] at hx hy;obtain ⟨h1,e1⟩:=List.getElem?_eq_some_iff.mp hx;obtain ⟨h2,e2⟩:=List.getElem?_eq_some_iff.mp hy;have:=List.pairwise_iff_getElem.mp h a b h1 h2 hab;rw[e1,e2] at this;exact this
structure TOk (t:SetTable) (b:Bool):Prop where
 ris:Ris t.place
 dum:t.dummies=#[]
 led:t.led=b
theorem ni {t:SetTable} (hd:t.dummies=#[]) (j:Nat):t.slot j≠.dummy:=by
 unfold SetTable.slot;dsimp only;have e:SetTable.has t.dummies j=false:=by
  rw[hd];rfl
 rw[e];intro z;split at z
 ·cases z
 ·rw[if_neg aaa] at z;cases z
theorem zc (t:SetTable) (p:SetTable.Probe):(t.advance p).dummy=p.dummy:=by
 unfold SetTable.advance;split <;> rfl
theorem j4 {t:SetTable} (hd:t.dummies=#[]) {f:Nat→Int} {h:Int} {j:Nat} {d:Option Nat}:∀(fuel:Nat) (p:SetTable.Probe),p.dummy=none→SetTable.probe.go t f h fuel p=some (.empty j d)→d=none∧t.slot j=.empty
 | 0,_,_,e=>nomatch e
 | fuel+1,p,hp,e=>by
  unfold SetTable.probe.go at e;cases es:t.slot p.j with
  | empty=>
   rw[es] at e;dsimp only at e;injection e with e
   injection e with e1 e2
   exact ⟨by rw[←e2];exact hp,by rw[←e1];exact es⟩
  | dummy=>exact absurd es (ni hd _)
  | live i=>
   rw[es] at e;dsimp only at e;split at e
   ·injection e with e
    cases e
   ·exact j4 hd fuel _ (by rw[zc];exact hp) e
theorem not_at {t:SetTable} (hr:Ris t.place) {j:Nat} (h:t.slot j=.empty):∀i:Nat,t.place[i]?≠some j:=by
 intro i hi;obtain ⟨h1,h2⟩:=below_at hr j;have hb:SetTable.below t.place j=i:=sm hr (abb (Array.getElem?_eq_some_iff.mp hi).1) λk x hx=>by
  constructor
  ·intro z;exact hr _ _ _ _ z hx hi
  ·intro z;rcases acj k i with q | q | q
   ·exact q
   ·rw[q,hi] at hx;cases hx
    omega
   ·have:=hr _ _ _ _ q hi hx;omega
 unfold SetTable.slot at h;dsimp only at h;rw[hb,hi] at h;rw[if_pos (beq_self_eq_true _)] at h;cases h
theorem TOk.xa {t:SetTable} {b:Bool} (h:TOk t b) (n:Nat):TOk (t.standIn n) b:=⟨zk n,rfl,h.led⟩
theorem TOk.lay {t:SetTable} {b:Bool} (h:TOk t b) (es:Array (Int×Value)) (hh:Int) (x:Value):TOk (layNew t es hh x).2.1 b:=by
 unfold layNew;cases e:t.freeSlot hh with
 | none=>exact h.xa _
 | some r=>
  obtain ⟨slot,wd⟩:=r;dsimp only;unfold SetTable.freeSlot at e;cases ep:t.probe (λ_=>hh+1) hh (t.probeStart hh) with
  | none=>rw[ep] at e;cases e
  | some m=>
   rw[ep] at e;cases m with
   | candidate j i n=>cases e
   | empty j d=>
    obtain ⟨rfl,hs⟩:=j4 h.dum _ _ rfl ep;dsimp only at e;injection e with e
    injection e with e1 e2
    subst e1;have ed:SetTable.has t.dummies j=false:=by
     rw[h.dum];rfl
    have ok:TOk (t.put j).1 b:=by
     refine ⟨vt h.ris (not_at h.ris hs),?_,h.led⟩;show (if SetTable.has t.dummies j=true then _ else t.dummies)=#[]
     rw[ed,if_neg aaa];exact h.dum
    unfold SetTable.orStandIn;split
    ·exact ok
    ·exact ok.xa _
theorem TOk.relay {t:SetTable} {b:Bool} (h:TOk t b) (es:Array (Int×Value)) (n:Nat):TOk (relayAll t es n).2.1 b:=by
 unfold relayAll;cases e:t.relaid (es.map (·.1)) n with
 | none=>exact h.xa _
 | some r=>
  obtain ⟨t',o⟩:=r;dsimp only;split
  ·unfold SetTable.relaid SetTable.laid at e;cases eo:SetTable.layClean (SetTable.sizeAbove n - 1) (es.map (·.1)) with
   | none=>rw[eo] at e;cases e
   | some ow=>
    rw[eo] at e;injection e with e
    injection e with e1 e2
    subst e1;refine ⟨sy ?_,rfl,h.led⟩;rw[List.map_filterMap];refine List.Pairwise.filterMap _ (R:=(· < ·)) (S:=(· < ·)) (λa a' hlt b hb b' hb'=>?_) List.pairwise_lt_range;have one:∀(a b:Nat),Option.map (λx:Nat×Nat=>x.1) (Option.map (λx=>(a,x)) (ow.getD a none))=some b→b=a:=λa b hb=>by
     cases eq:ow.getD a none with
     | none=>rw[eq] at hb;cases hb
     | some z=>rw[eq] at hb;injection hb with hb;exact hb.symm
    rw[one _ _ hb,one _ _ hb'];exact hlt
  ·exact h.xa _
theorem TOk.fresh (b:Bool):TOk (.fresh 0 0 b) b:=⟨λ_ _ _ _ _ h=>by simp[SetTable.fresh] at h,rfl,rfl⟩
end PySem.Sti
namespace PySem.Sti
open PySem PyProof.Rows
noncomputable def jq:Value→Int
 | .int n _=>n
 | _=>0
noncomputable def gp (w:World):Bool:=w.params.followText "set-order"
noncomputable def gj (ms:List Int) (k:Int):List Int:=if k∈ms then ms else ms++[k]
def ej (P:Program) (w:World) (h:Heap) (a:Addr) (ms:List Int):Prop:=
 ∃o es ep t,h.get? a=some o∧o.ExactSet∧o.data=.set es ep t∧ElemsOf (intKind P w) es.toList∧(es.toList.map λe=>jq e.2).Perm ms∧es.size < scanBound∧t.fits es.size=true∧TOk t (!gp w)
section
variable {P:Program} {w:World} {A:Around} {E:Value→Shared→Prop} {s:Shared} {a:Addr} {ms:List Int}
theorem ip {e:Int×Value} {es:List (Int×Value)} (h:ElemsOf (intKind P w) es) (he:e∈es):∃t,e.2=.int (jq e.2) t:=by
 obtain ⟨⟨k,hk,_⟩,_⟩:=h e he;obtain ⟨t,ht⟩:=Value.isInt_shape hk;rw[ht];exact ⟨t,rfl⟩
theorem Cd {k:Int} {e:Int×Value} {es:List (Int×Value)} (h:ElemsOf (intKind P w) es) (he:e∈es):(intKind P w).is k e.2=true↔jq e.2=k:=by
 obtain ⟨t,ht⟩:=ip h he;constructor
 ·intro hk;obtain ⟨t',hh⟩:=Value.isInt_shape hk;rw[hh];rfl
 ·intro hk;rw[ht,hk];exact intKind_is ..
theorem ej.put {h:Heap} {o:Obj} {es es':Array (Int×Value)} {ep:Nat} {t t':SetTable} (ho:h.get? a=some o) (hx:o.ExactSet) (hd:o.data=.set es ep t) (he:ElemsOf (intKind P w) es'.toList) (hp:(es'.toList.map λe=>jq e.2).Perm ms) (hz:es'.size < scanBound) (hf:t'.fits es'.size=true) (ht:TOk t' (!gp w)):
  (h.update a (Obj.putSet es' t')).get? a=some { o with data:=.set es' (ep+1) t' }∧ej P w (h.update a (Obj.putSet es' t')) a ms:=by
 have g:=Heap.get?_update_self (Obj.putSet es' t') ho (by rw[putSet_of es' t' hd];rfl);rw[putSet_of es' t' hd] at g;exact ⟨g,_,es',ep+1,t',g,hx,rfl,he,hp,hz,hf,ht⟩
theorem t6 {o:Obj} {es:Array (Int×Value)} {ep:Nat} {t:SetTable} (ho:s.heap.get? a=some o) (hx:o.ExactSet) (hd:o.data=.set es ep t) {es':Array (Int×Value)} {t':SetTable} (he:ElemsOf (intKind P w) es'.toList) (hp:(es'.toList.map λe=>jq e.2).Perm ms) (hz:es'.size < scanBound) (hf:t'.fits es'.size=true) (ht:TOk t' (!gp w))
  {g:Bool→Sem Unit} (hg:∀(b:Bool) (s₁:Shared) (Q':Unit→Shared→Prop),Q' () s₁→wpAny (model P w) A (g b) Q' E s₁) {c:Bool} {R:Option Bool→Shared→Prop}
  (q:∀h',Heap.SameBut a s.heap h'→ej P w h' a ms→R (some true) { s with heap:=h' }):
  wpAny (model P w) A (storeSet a es' t' >>=λ_=>if c=true then (g (relayAll t' es' (SetTable.grown es'.size)).2.2 >>=λ_=>storeSet a (relayAll t' es' (SetTable.grown es'.size)).1 (relayAll t' es' (SetTable.grown es'.size)).2.1 >>=λ_=>pure (some true)) else pure (some true)) R E s:=by
 refine wpAny_bind (wpAny_storeSet_of ho hd ?_ (fits_of_scanBound hz));obtain ⟨g1,S1⟩:=ej.put (P:=P) ho hx hd he hp hz hf ht;have b1:=Heap.SameBut.update s.heap a (Obj.putSet es' t');cases c with
 | false=>
  rw[if_neg aaa];exact wpAny_pure (q _ b1 S1)
 | true=>
  rw[if_pos rfl];have rp:=relayAll_perm t' es' (SetTable.grown es'.size);have rf:=relayAll_fits t' es' (SetTable.grown es'.size);have rt:=ht.relay es' (SetTable.grown es'.size);generalize relayAll t' es' (SetTable.grown es'.size)=R2 at rp rf rt ⊢;obtain ⟨e2,t2,gv⟩:=R2;have z2:e2.size < scanBound:=by
   have:=rp.length_eq;rw[aae,aae] at this;dsimp only at this;omega
  refine wpAny_bind (hg _ _ _ (wpAny_bind (wpAny_storeSet_of g1 rfl ?_ (fits_of_scanBound z2))));obtain ⟨_,S2⟩:=ej.put (P:=P) g1 hx rfl (he.perm rp) ((rp.map λe=>jq e.2).trans hp) z2 rf rt;exact wpAny_pure (q _ (b1.trans (Heap.SameBut.update _ a _)) S2)
theorem add_int {k:Int} {tk:Nat} {Q:Bool→Shared→Prop} (hS:ej P w s.heap a ms) (hr:ms.length+1 < scanBound) (q:∀b h',Heap.SameBut a s.heap h'→ej P w h' a (gj ms k)→Q b { s with heap:=h' }):
  wpAny (model P w) A (setAddHashed a (.int k tk) (hashInt k)) Q E s:=by
 obtain ⟨o,es,ep,t,ho,hx,hd,he,hp,hz,hf,ht⟩:=hS;have hl:es.size=ms.length:=by
  have:=hp.length_eq;rw[aa2,aae] at this;exact this
 unfold setAddHashed setAddHashedIn;refine wpAny_holding (wpAny_bind (wpAny_setState_of ho hd hf ?_));show wpAny _ _ (if byScan (.int k tk) es=true then _ else _) _ _ _
 rw[if_pos (byScan_of rfl hz he)];unfold setAddByScan;refine wpAny_bind (wpAny_bind (wpAny_rule (wpAny_bind (wpAny_setScan_of (knd:=intKind P w) (k:=k) (intKind_is ..) ho hd hf he ?_))));have eS:s={ s with heap:=s.heap }:=rfl;cases hi:es.toList.findIdx? (λe=>(intKind P w).is k e.2) with
 | some j=>
  obtain ⟨hj,pj,_⟩:=List.findIdx?_eq_some_iff_getElem.mp hi;have hm:k∈ms:=hp.mem_iff.mp (List.mem_map.mpr ⟨es.toList[j],abq hj,(Cd he (abq hj)).mp pj⟩);refine wpAny_pure (wpAny_pure ?_);exact q _ _ (Heap.SameBut.refl a s.heap) ⟨o,es,ep,t,ho,hx,hd,he,by unfold gj;rw[if_pos hm];exact hp,hz,hf,ht⟩
 | none=>
  have hm:k∉ms:=λz=>by
   obtain ⟨e,e1,e2⟩:=List.mem_map.mp (hp.mem_iff.mpr z);have:=List.findIdx?_eq_none_iff.mp hi e e1;rw[(Cd he e1).mpr e2] at this;cases this
  have lp:=layNew_perm t es (hashInt k) (.int k tk);have lf:=layNew_fits t es (hashInt k) (.int k tk);have lt:=ht.lay es (hashInt k) (.int k tk);generalize layNew t es (hashInt k) (.int k tk)=L at lp lf lt ⊢;obtain ⟨e1,t1,wd,gv⟩:=L;rw[adh] at lp;have he1:ElemsOf (intKind P w) e1.toList:=(he.push (intKind_is ..) rfl).perm lp;have hp1:(e1.toList.map λe=>jq e.2).Perm (gj ms k):=by
   unfold gj;rw[if_neg hm];refine (lp.map λe=>jq e.2).trans ?_;rw[aat];exact hp.append_right _
  have hz1:e1.size < scanBound:=by
   have:=lp.length_eq;rw[aae,aa8,aae,aay] at this;dsimp only at this;omega
  have gw:∀(b:Bool) (s₁:Shared) (Q':Unit→Shared→Prop),Q' () s₁→wpAny (model P w) A (match b with | true=>rule "set.scan.the-table-gave-way" | false=>pure ()) Q' E s₁:=λb s₁ Q' hq=>by
   cases b
   ·exact wpAny_pure hq
   ·exact wpAny_rule hq
  refine wpAny_bind (gw _ _ _ ?_);dsimp only at lf lt ⊢;split
  ·rw[hashByValue_scannable 8 (x:=.int k tk) rfl];refine wpAny_bind (wpAny_pure ?_);exact t6 ho hx hd he1 hp1 hz1 lf lt gw λh' b S=>wpAny_pure (q _ h' b S)
  ·refine wpAny_bind (wpAny_pure ?_);exact t6 ho hx hd he1 hp1 hz1 lf lt gw λh' b S=>wpAny_pure (q _ h' b S)
end
noncomputable def fm (ns:List Int):List Int:=ns.foldl gj []
theorem Ed {ns:List Int} {i:Nat} (hi:i < ns.length):fm (ns.take (i+1))=gj (fm (ns.take i)) ns[i]:=by
 unfold fm;rw[List.take_succ_eq_append_getElem hi,adg];rfl
theorem Ep (ms:List Int) (k:Int):(gj ms k).length≤ms.length+1:=by
 unfold gj;split
 ·omega
 ·rw[aa8,aay];omega
theorem xl:∀(ns ms:List Int),(ns.foldl gj ms).length≤ms.length+ns.length
 | [],ms=>aa3 _
 | n::ns,ms=>by
  have h1:=xl ns (gj ms n);have h2:=Ep ms n;rw[acy,aai];omega
theorem Cf (ns:List Int):(fm ns).length≤ns.length:=by
 have:=xl ns [];rw[abg,Nat.zero_add] at this;exact this
theorem Ca {ms:List Int} {k x:Int}:x∈gj ms k↔x∈ms∨x=k:=by
 unfold gj;split
 ·rename_i h
  exact ⟨.inl,λz=>z.elim id λe=>by rw[e];exact h⟩
 ·rw[List.mem_append,List.mem_singleton]
theorem Dt {ms:List Int} (h:ms.Nodup) (k:Int):(gj ms k).Nodup:=by
 unfold gj;split
 ·exact h
 ·rename_i hk
  rw[List.nodup_append];exact ⟨h,List.nodup_cons.mpr ⟨aam,ach⟩,λa ha b hb=>by
   rw[List.mem_singleton.mp hb];intro e;exact hk (e ▸ ha)⟩
theorem se:∀(ns ms:List Int) (x:Int),x∈ns.foldl gj ms↔x∈ms∨x∈ns
 | [],ms,x=>by rw[List.foldl_nil];simp
 | n::ns,ms,x=>by rw[acy,se ns,Ca,aav,or_assoc]
theorem wq:∀(ns ms:List Int),ms.Nodup→(ns.foldl gj ms).Nodup
 | [],ms,h=>h
 | n::ns,ms,h=>wq ns _ (Dt h n)
theorem q4 {ns:List Int} {x:Int}:x∈fm ns↔x∈ns:=by
 unfold fm;rw[se];simp
theorem nd_fm (ns:List Int):(fm ns).Nodup:=wq ns [] ach
section
variable {P:Program} {w:World} {A:Around} {E:Value→Shared→Prop} {s:Shared}
theorem ej.mv {h h':Heap} {a:Addr} {ms:List Int} (x:ej P w h a ms) (k:∀o,h.get? a=some o→h'.get? a=some o):ej P w h' a ms:=by
 obtain ⟨o,es,ep,t,ho,r⟩:=x;exact ⟨o,es,ep,t,k _ ho,r⟩
theorem sf {R:Result→Shared→Prop} {I S:Addr} {fp wr:List Addr} {G:Array GenState→Array GenState→Prop} {ns:List Int} {Pv:Nat→Value→Prop} {St:Nat→Shared→Prop} (W:WalksS P w A.in1 I fp wr G ns.length Pv St) (hSf:S∉fp) (hv:∀i v,Pv i v→∃t,v=.int (ns.getD i 0) t) (hb:ns.length+1 < scanBound):
  ∀(k i:Nat) (s:Shared),ns.length - i=k→i≤ns.length→St i s→ej P w s.heap S (fm (ns.take i))→(∀s',Moved (S::wr) G s s'→ej P w s'.heap S (fm ns)→R (.ok (.ret .none)) s')→
   codeAny (model P w) A (.builtin "set.update.loop" ⟨[.ref S,.ref I],[]⟩) R s
 | 0,i,s,hk,hi,hst,hS,hR=>by
  have e:i=ns.length:=by omega
  subst e;refine codeAny_builtin PyProof.Rows.F.entry_set_update_loop ?_;rw[Around.under_plainId PyProof.Rows.F.plain_set_update_loop _];have hw:S∉wr:=λz=>hSf (W.sub _ z);refine wpAny_bind (W.done s _ _ hst λs' hm=>wpAny_pure (hR s' (hm.mono λb z=>aad _ z) ?_));rw[abd] at hS;exact hS.mv λo z=>hm.heap S _ hw z
 | k+1,i,s,hk,hi,hst,hS,hR=>by
  have hlt:i < ns.length:=by omega
  have hw:S∉wr:=λz=>hSf (W.sub _ z);refine codeAny_builtin PyProof.Rows.F.entry_set_update_loop ?_;rw[Around.under_plainId PyProof.Rows.F.plain_set_update_loop _];refine wpAny_bind (W.item i s _ _ hlt hst λv s1 hP hst1 hm=>?_);obtain ⟨t,rfl⟩:=hv i v hP;have eg:ns.getD i 0=ns[i]:=by rw[abu,aa4 hlt];rfl
  rw[eg];have S1:ej P w s1.heap S (fm (ns.take i)):=hS.mv λo z=>hm.heap S _ hw z;show wpAny _ A.in1 (holding [Value.int ns[i] t] (setAdd S (.int ns[i] t)) >>=_) _ _ s1
  refine wpAny_bind (wpAny_holding ?_);unfold setAdd;refine wpAny_holding (wpAny_bind (wpAny_pyHash_int ?_));have hl:(fm (ns.take i)).length≤i:=aar (Cf _) (by rw[aaf];omega);refine add_int (s:={ s1 with toks:=s1.toks+1 }) S1 (by omega) λb h' sb S2=>?_;rw[←Ed hlt] at S2;have keep:∀b o,b≠S→s1.heap.get? b=some o→h'.get? b=some o:=λb o hb z=>(sb.2 b hb).trans z;refine wpAny_pure ⟨plainId_quiet PyProof.Rows.F.plain_set_update_loop _,sf W hSf hv hb k (i+1) _ (by omega) hlt (W.frame _ s1 _ _ hst1 (abk _) λb hb o z=>keep b o (λy=>hSf (y ▸ hb)) z) S2 λs2 m2 S3=>hR s2 (Moved.trans W.gtrans ((hm.mono λb z=>aad _ z).then_heap (abk _) λb o hb z=>keep b o (λy=>hb (y ▸ aa7)) z) m2) S3⟩
theorem Di (a:Value) {Q:Value→Shared→Prop} (q:Q (.ref s.heap.objs.size) { s with heap:=s.heap.push { cls:=.type "set",dict:=none,data:=.set #[] 0 (.fresh 0 0 (!gp w)) } }):
  codeAny (model P w) A (.call (.builtin "set.__new__") ⟨[.type "set",a],[]⟩) (wants Q E) s:=by
 refine codeAny_of_tree ?_;show wpAny _ A.in1 (checkBuiltinCall "set.__new__" ⟨[.type "set",a],[]⟩ >>=λ_=>again (.builtin "set.__new__" ⟨[.type "set",a],[]⟩)) _ _ s
 refine wpAny_bind (wpAny_of_eq (PySem.F.newCall_set_1 a) (wpAny_pure ⟨plainId_quiet F.plain_set_new _,codeAny_builtin F.entry_set_new ?_⟩));rw[Around.under_plainId F.plain_set_new _];have sub:=sub_set_self;obtain ⟨h,g,d,tk,os⟩:=s;unfold Builtin.«set.__new__» Builtin.Frozenset.newClass;dsimp only;wp_walk
 refine wpAny_askSetting (wpAny_pure ?_);simp only[newObj];exact wpAny_bind (wpAny_alloc (wpAny_pure (wpAny_pure q)))
theorem ze {h:Heap} {a:Addr} (e:h.get? a=some { cls:=.type "set",dict:=none,data:=.set #[] 0 (.fresh 0 0 (!gp w)) }):ej P w h a []:=
 ⟨_,#[],0,_,e,⟨rfl,rfl,rfl⟩,rfl,λx hx=>by simp at hx,List.Perm.refl _,by decide,rfl,TOk.fresh _⟩
end
section
variable {P:Program} {w:World} {A:Around} {E:Value→Shared→Prop} {s:Shared}
theorem Bv {l S:Addr} {its:Array Value} {ns:List Int} {R:Result→Shared→Prop} (hh:A.handled=none) (hne:l≠S) (hl:s.heap.IsList l its) (hi:IntsAre its.toList ns) (hb:ns.length+1 < scanBound)
  (hS:s.heap.get? S=some { cls:=.type "set",dict:=none,data:=.set #[] 0 (.fresh 0 0 (!gp w)) })
  (q:∀h' tk,ej P w h' S (fm ns)→(∀b o,b≠S→s.heap.get? b=some o→h'.get? b=some o)→R (.ok (.ret .none)) { s with heap:=h',toks:=tk }):
  codeAny (model P w) A (.call (.builtin "set.__init__") ⟨[.ref S,.ref l],[]⟩) R s:=by
 have hT:s.TypeIs (.ref S) "set":=⟨_,hS,rfl⟩;refine codeAny_call_builtin F.called_set.init.plain F.entry_set_init (check_set_init_1 hT ?_);have ez:its.size=ns.length:=by
  have:=hi.length;rw[aae] at this;exact this
 obtain ⟨ol,hol,hcl,nl,hdl⟩:=id hl;obtain ⟨oc,od,odt,osl⟩:=ol;cases hcl
 cases hdl
 have s1:=F.sub_list_set;have s2:=F.sub_list_frozenset;have s3:(Value.type "list"==Value.type "dict")=false:=by decide
 have hlt:=Heap.lt_size hol;have hSt:=Heap.lt_size hS;obtain ⟨hp,g,d,tk,os⟩:=s;unfold Builtin.«set.__init__» noKeywords Builtin.Frozenset.updateFrom;generalize hPI:pyIter=PI;wp_walk
 subst hPI;refine wpAny_pyIter_list hl (wpAny_bind (wpAny_runValue ?_));have n1:l≠hp.objs.size:=aab hlt;have n2:S∉[hp.objs.size,l]:=λz=>by
  rcases List.mem_cons.mp z with e | e
  ·exact absurd hSt (by rw[e];exact ab3 _)
  ·exact hne (List.mem_singleton.mp e).symm
 have W:=(Walks.list (prog:=P) (w:=w) (A:=A.in1.in1) (show A.in1.in1.handled=none by simp[hh]) hp.objs.size l n1 its).toS;rw[ez] at W;refine sf W n2 (λi v hv=>IntsAre.int_at hi i v (by rw[ab5];exact hv)) hb _ 0 _ rfl (ab0 _) ⟨⟨_,Heap.get?_push_size _ rfl,rfl,rfl⟩,hl.push _⟩ (ze (Heap.get?_push_of_some _ hS)) λs' hm hS'=>?_;obtain ⟨h',g',d',tk',os'⟩:=s';cases (show g'=g from hm.gens)
 cases (show d'=d from hm.drawn)
 cases (show os'=os from hm.os)
 refine wpAny_pure (wpAny_pure (q h' tk' hS' λb o hb z=>hm.heap b o (λy=>?_) (Heap.get?_push_of_some _ z)));rcases List.mem_cons.mp y with e | e
 ·exact hb e
 ·exact absurd (Heap.lt_size z) (by rw[List.mem_singleton.mp e];exact ab3 _)
theorem As {l:Addr} {its:Array Value} {ns:List Int} {Q:Value→Shared→Prop} (hh:A.handled=none) (hl:s.heap.IsList l its) (hi:IntsAre its.toList ns) (hb:ns.length+1 < scanBound)
  (q:∀h' tk,ej P w h' s.heap.objs.size (fm ns)→(∀b o,s.heap.get? b=some o→h'.get? b=some o)→Q (.ref s.heap.objs.size) { s with heap:=h',toks:=tk }):
  wpAny (model P w) A (call (.type "set") [.ref l]) Q E s:=by
 have c1:=F.called_set.made;have c2:=F.called_set.sub;have c3:=F.called_set.notType;have c4:=F.called_set.canCreate;have c5:=F.typeCall_set_1 (.ref l);obtain ⟨c,tl,hmro⟩:=F.called_set.mro;refine wpAny_call (codeAny_of_tree (wpAny_pure ⟨Code.quiet_builtin _ (by decide+kernel),codeAny_builtin F.entry_type_call ?_⟩));rw[Around.under_plain (weight_type_call_type "set" [.ref l] []) rfl];repeat (any_goals (first | assumption | wp_step))
 refine codeAny_mono (Di (.ref l) (E:=E) (Q:=λv s1=>v=.ref s.heap.objs.size∧s1={ s with heap:=s.heap.push { cls:=.type "set",dict:=none,data:=.set #[] 0 (.fresh 0 0 (!gp w)) } }) ⟨rfl,rfl⟩) λr s1 hr=>?_;cases r with
 | error e=>exact hr
 | ok fl=>
  cases fl with
  | next=>exact hr.elim
  | brk=>exact hr.elim
  | cont=>exact hr.elim
  | ret v=>
   obtain ⟨rfl,rfl⟩:=hr;have hS:(s.heap.push { cls:=.type "set",dict:=none,data:=.set #[] 0 (.fresh 0 0 (!gp w)) }).get? s.heap.objs.size=some { cls:=.type "set",dict:=none,data:=.set #[] 0 (.fresh 0 0 (!gp w)) }:=Heap.get?_push_size _ rfl;have hT:Shared.TypeIs { s with heap:=s.heap.push { cls:=.type "set",dict:=none,data:=.set #[] 0 (.fresh 0 0 (!gp w)) } } (.ref s.heap.objs.size) "set":=⟨_,hS,rfl⟩;have d1:=F.called_set.init.lookup;have d2:=F.called_set.init.bind (.ref s.heap.objs.size);repeat (any_goals (first | assumption | wp_step))
   have hlt:l < s.heap.objs.size:=let ⟨_,z,_⟩:=hl;Heap.lt_size z
   refine codeAny_mono (Bv (P:=P) (w:=w) (R:=wants (λv s2=>v=.none∧∃h' tk,s2={ s with heap:=h',toks:=tk }∧ej P w h' s.heap.objs.size (fm ns)∧∀b o,s.heap.get? b=some o→h'.get? b=some o) E) (by simp[hh]) (aab hlt) (hl.push _) hi hb hS λh' tk z k=>⟨rfl,h',tk,rfl,z,λb o e=>k b o (aab (Heap.lt_size e)) (Heap.get?_push_of_some _ e)⟩) λr s2 hr=>?_;cases r with
   | error e=>exact hr
   | ok f2=>
    cases f2 with
    | next=>exact hr.elim
    | brk=>exact hr.elim
    | cont=>exact hr.elim
    | ret v=>
     obtain ⟨rfl,h',tk,rfl,z,k⟩:=hr;repeat (any_goals (first | assumption | wp_step))
     exact q _ _ z k
end
end PySem.Sti
namespace PySem.Sti
open PySem PyProof.Rows PySem.Spec
theorem cg:Slot "set_iterator" "__next__" "set_iterator.__next__":=
 .of (owner:="set_iterator") (n:="__next__") (by rw[typeLookup_type,builtinLookup_eq_fast];kernel_rfl) (by decide+kernel) (by decide+kernel) (by decide+kernel) (by first | exact .inl (by decide+kernel) | exact .inr (by decide+kernel)) (by rw[isSubtype_type];kernel_rfl)
theorem xw:Slot "set_iterator" "__iter__" "set_iterator.__iter__":=
 .of (owner:="set_iterator") (n:="__iter__") (by rw[typeLookup_type,builtinLookup_eq_fast];kernel_rfl) (by decide+kernel) (by decide+kernel) (by decide+kernel) (by first | exact .inl (by decide+kernel) | exact .inr (by decide+kernel)) (by rw[isSubtype_type];kernel_rfl)
theorem kj:entryFor table "set_iterator.__next__"=some Builtin.«set_iterator.__next__»:=entryFor_of_tree (by kernel_rfl)
theorem Ei:entryFor table "set_iterator.__iter__"=some Builtin.«dict_keyiterator.__iter__»:=entryFor_alias (id':="dict_keyiterator.__iter__") (by kernel_rfl) rfl (by decide+kernel) (by kernel_rfl)
theorem Eu:entryFor table "set.__iter__"=some Builtin.«frozenset.__iter__»:=entryFor_alias (id':="frozenset.__iter__") (by kernel_rfl) rfl (by decide+kernel) (by kernel_rfl)
theorem ue:Manifest.owners.lookup (String.ofList ['r','o','t','a','r','e','t','i','_','t','e','s'].reverse)=some Manifest.sig_set_iterator:=by kernel_rfl
theorem kc (a:Value):argsOk "set_iterator.__next__" ⟨[a],[]⟩:=by
 unfold argsOk;rw[signature?_of (id:="set_iterator.__next__") (n:="__txen__".toList) (by kernel_rfl) ue];kernel_rfl
theorem Em (a:Value):argsOk "set_iterator.__iter__" ⟨[a],[]⟩:=by
 unfold argsOk;rw[signature?_of (id:="set_iterator.__iter__") (n:="__reti__".toList) (by kernel_rfl) ue];kernel_rfl
def ek (h:Heap) (I:Addr) (f:Value) (i:Nat) (a:Addr) (n ep:Nat):Prop:=∃o,h.get? I=some o∧o.cls=.type "set_iterator"∧o.data=.fields #[f,.int i 0,.ref a,.int n 0,.int ep 0]
section
variable {P:Program} {w:World} {A:Around} {E:Value→Shared→Prop} {s:Shared} {I a:Addr} {f:Value} {i n ep:Nat} {o:Obj} {es:Array (Int×Value)} {t:SetTable}
theorem ek.ty {h:Heap} (x:ek s.heap I f i a n ep):s.TypeIs (.ref I) "set_iterator":=let ⟨o,h1,h2,_⟩:=x;⟨o,h1,h2⟩
theorem ek.mv {h h':Heap} (x:ek h I f i a n ep) (k:∀o,h.get? I=some o→h'.get? I=some o):ek h' I f i a n ep:=let ⟨o,h1,h2⟩:=x;⟨o,k o h1,h2⟩
theorem wg {Q:Value→Shared→Prop} (hit:ek s.heap I f i a n ep) (q:Q (.ref I) s):wpAny (model P w) A (pyIter (.ref I)) Q E s:=
 wpAny_pyIter_slot (hit.ty (h:=s.heap)) xw (wpAny_call_entry xw (hit.ty (h:=s.heap)) Ei (wpAny_pure ⟨_,rfl,"set_iterator",_,hit.ty (h:=s.heap),cg.lookup,q⟩) (Em _))
theorem size_of {Q:Array (Int×Value)→Shared→Prop} (ho:s.heap.get? a=some o) (hd:o.data=.set es ep t) (hf:t.fits es.size=true) (q:Q es s):wpAny (model P w) A (setEntries a) Q E s:=wpAny_bind (wpAny_setState_of ho hd hf (wpAny_pure q))
theorem ek.put {h:Heap} {g:Value} {k:Nat} (x:ek h I f i a n ep):ek (h.update I (Obj.mapFields (·.setIfInBounds 1 (.int k 0)))) I f k a n ep∧ek (h.update I (Obj.mapFields (·.setIfInBounds 0 g))) I g i a n ep:=by
 obtain ⟨o,ho,hc,hd⟩:=x;exact ⟨⟨_,Heap.get?_update_self _ ho (Obj.isFreed_of_fields (Obj.data_mapFields hd _)),(Obj.cls_mapFields ..).trans hc,by rw[Obj.data_mapFields hd];rfl⟩,⟨_,Heap.get?_update_self _ ho (Obj.isFreed_of_fields (Obj.data_mapFields hd _)),(Obj.cls_mapFields ..).trans hc,by rw[Obj.data_mapFields hd];rfl⟩⟩
theorem zd {sl nx:Nat} {x:Value} {Q:Option Value→Shared→Prop} (hit:ek s.heap I (.int sl 0) i a n ep) (ho:s.heap.get? a=some o) (hd:o.data=.set es ep t) (hf:t.fits es.size=true) (hn:es.size=n)
  (hx:∀(E':Value→Shared→Prop) (Q':Option (Value×Nat)→Shared→Prop),Q' (some (x,nx)) s→wpAny (model P w) A.in1 (setNext a sl i ep) Q' E' s)
  (q:∀h',ek h' I (.int nx 0) (i+1) a n ep→Heap.SameBut I s.heap h'→Q (some x) { s with heap:=h' }):wpAny (model P w) A (pyNext (.ref I)) Q E s:=by
 have hT:=hit.ty (h:=s.heap);obtain ⟨oi,hoi,hci,hdi⟩:=id hit;unfold pyNext;refine wpAny_bind (wpAny_attempt (wpAny_callSpecial?_slot (name:=Str.ofString "__next__") hT cg (wpAny_call_entry cg hT kj ?_ (kc _))));refine wpAny_bind (wpAny_pure (wpAny_bind (wpAny_fieldsOf hoi hdi ?_)));refine (show wpAny _ _ (setEntries a >>=_) _ _ s from wpAny_bind (size_of ho hd hf ?_));rw[if_neg (by rw[hn];simp)];refine (show wpAny _ _ (setNext a (ab2 (sl:Int)) (ab2 (i:Int)) (ab2 (ep:Int)) >>=_) _ _ s from wpAny_bind (hx _ _ ?_));refine (show wpAny _ _ (setField (.ref I) 0 (rawInt (nx:Int)) >>=_) _ _ s from wpAny_bind (wpAny_setField hoi hdi (by show 0 < 5;decide) ?_));have i1:=(hit.put (g:=.int nx 0) (k:=0)).2;obtain ⟨o1,ho1,hc1,hd1⟩:=id i1;refine wpAny_bind (wpAny_setField ho1 hd1 (by show 1 < 5;decide) ?_);refine wpAny_pure ⟨_,rfl,wpAny_pure (q _ (i1.put (g:=.none) (k:=i+1)).1 ((Heap.SameBut.update ..).trans (Heap.SameBut.update ..)))⟩
theorem pq {α:Type} {R:α→Shared→Prop} {E':Value→Shared→Prop} (hh:A.handled=none) (q:∀h' b,(∀b o,s.heap.get? b=some o→h'.get? b=some o)→Shared.TypeIs { s with heap:=h' } (.ref b) "StopIteration"→E' (.ref b) { s with heap:=h' }):
  wpAny (model P w) A.in1 (newExc (.type "StopIteration") [] >>=λe=>raiseNew (α:=α) e) R E' s:=by
 refine wpAny_bind ?_;simp only[newExc,newTuple];refine wpAny_bind (wpAny_newObj_type (wpAny_bind (m:=firstArgMember _ _) (wpAny_of_eq (a:=Value.none) (by first | rfl | (simp only[firstArgMember];rfl)) (wpAny_newObj_type ?_ (by size_fits)))) (by size_fits));simp only[raiseNew];refine wpAny_bind (wpAny_handled ?_);rw[show A.in1.handled=none from hh];exact wpAny_bind (wpAny_pure (wpAny_throw (q _ _ (λb o e=>Heap.get?_push_of_some _ (Heap.get?_push_of_some _ e)) ⟨_,Heap.get?_push_size _ rfl,rfl⟩)))
theorem Al {sl:Nat} {Q:Option Value→Shared→Prop} (hh:A.handled=none) (hit:ek s.heap I (.int sl 0) i a n ep) (ho:s.heap.get? a=some o) (hd:o.data=.set es ep t) (hf:t.fits es.size=true) (hn:es.size=n)
  (hx:∀(E':Value→Shared→Prop) (Q':Option (Value×Nat)→Shared→Prop),Q' none s→wpAny (model P w) A.in1 (setNext a sl i ep) Q' E' s)
  (q:∀h',Heap.ExtBut I s.heap h'→Q none { s with heap:=h' }):wpAny (model P w) A (pyNext (.ref I)) Q E s:=by
 have hT:=hit.ty (h:=s.heap);obtain ⟨oi,hoi,hci,hdi⟩:=id hit;unfold pyNext;refine wpAny_bind (wpAny_attempt (wpAny_callSpecial?_slot (name:=Str.ofString "__next__") hT cg (wpAny_call_entry cg hT kj ?_ (kc _))));refine wpAny_bind (wpAny_pure (wpAny_bind (wpAny_fieldsOf hoi hdi ?_)));refine (show wpAny _ _ (setEntries a >>=_) _ _ s from wpAny_bind (size_of ho hd hf ?_));rw[if_neg (by rw[hn];simp)];refine (show wpAny _ _ (setNext a (ab2 (sl:Int)) (ab2 (i:Int)) (ab2 (ep:Int)) >>=_) _ _ s from wpAny_bind (hx _ _ ?_));refine (show wpAny _ _ (setField (.ref I) 2 .none >>=_) _ _ s from wpAny_bind (wpAny_setField hoi hdi (by show 2 < 5;decide) ?_));exact pq hh λh' e k ty=>wpAny_bind (wpAny_isInstance (T:="StopIteration") (b:=true) ty isSubtype_stop (wpAny_pure (q _ λb o hb z=>k b o ((Heap.get?_update_other _ _ (Ne.symm hb)).trans z))))
theorem uo {T:Addr} {pl:Nat} {ks:List Nat} {x:Value} {hk:Int} {Q:Option Value→Shared→Prop} (hit:ek s.heap I (.ref T) i a n ep) (hT':s.heap.IsTuple T (ks.map λk:Nat=>Value.int (k:Int) 0).toArray) (ho:s.heap.get? a=some o) (hd:o.data=.set es ep t) (hf:t.fits es.size=true) (hn:es.size=n)
  (hp:ks[i]?=some pl) (hx:es[pl]?=some (hk,x)) (q:∀h',ek h' I (.ref T) (i+1) a n ep→Heap.SameBut I s.heap h'→Q (some x) { s with heap:=h' }):wpAny (model P w) A (pyNext (.ref I)) Q E s:=by
 have hT:=hit.ty (h:=s.heap);obtain ⟨oi,hoi,hci,hdi⟩:=id hit;unfold pyNext;refine wpAny_bind (wpAny_attempt (wpAny_callSpecial?_slot (name:=Str.ofString "__next__") hT cg (wpAny_call_entry cg hT kj ?_ (kc _))));refine wpAny_bind (wpAny_pure (wpAny_bind (wpAny_fieldsOf hoi hdi ?_)));refine (show wpAny _ _ (setEntries a >>=_) _ _ s from wpAny_bind (size_of ho hd hf ?_));rw[if_neg (by rw[hn];simp)];obtain ⟨ot,hot,hct,nt,hdt⟩:=hT';refine (show wpAny _ _ (seqItems? (.ref T) >>=_) _ _ s from wpAny_bind ?_);unfold seqItems?;refine wpAny_bind (wpAny_load hot ?_);rw[hdt];refine wpAny_pure ?_;have eg:(ks.map λk:Nat=>Value.int (k:Int) 0).toArray[i]?=some (.int (pl:Int) 0):=by
  rw[ac8,aag,hp];rfl
 dsimp only;rw[show ab2 (i:Int)=i from rfl,eg];refine (show wpAny _ _ (setNextDrawn a (ab2 (pl:Int)) (ab2 (ep:Int)) >>=_) _ _ s from wpAny_bind ?_);unfold setNextDrawn;refine wpAny_bind (wpAny_setState_of ho hd hf ?_);dsimp only;rw[show ab2 (ep:Int)=ep from rfl,show ab2 (pl:Int)=pl from rfl,hx];rw[if_neg (by simp)];refine wpAny_pure ?_;refine wpAny_bind (wpAny_setField hoi hdi (by show 1 < 5;decide) ?_);exact wpAny_pure ⟨_,rfl,wpAny_pure (q _ (hit.put (g:=.none) (k:=i+1)).1 (Heap.SameBut.update ..))⟩
theorem yv {T:Addr} {ks:List Nat} {Q:Option Value→Shared→Prop} (hh:A.handled=none) (hit:ek s.heap I (.ref T) i a n ep) (hT':s.heap.IsTuple T (ks.map λk:Nat=>Value.int (k:Int) 0).toArray) (ho:s.heap.get? a=some o) (hd:o.data=.set es ep t) (hf:t.fits es.size=true) (hn:es.size=n)
  (hp:ks[i]?=none) (q:∀h',Heap.ExtBut I s.heap h'→Q none { s with heap:=h' }):wpAny (model P w) A (pyNext (.ref I)) Q E s:=by
 have hT:=hit.ty (h:=s.heap);obtain ⟨oi,hoi,hci,hdi⟩:=id hit;unfold pyNext;refine wpAny_bind (wpAny_attempt (wpAny_callSpecial?_slot (name:=Str.ofString "__next__") hT cg (wpAny_call_entry cg hT kj ?_ (kc _))));refine wpAny_bind (wpAny_pure (wpAny_bind (wpAny_fieldsOf hoi hdi ?_)));refine (show wpAny _ _ (setEntries a >>=_) _ _ s from wpAny_bind (size_of ho hd hf ?_));rw[if_neg (by rw[hn];simp)];obtain ⟨ot,hot,hct,nt,hdt⟩:=hT';refine (show wpAny _ _ (seqItems? (.ref T) >>=_) _ _ s from wpAny_bind ?_);unfold seqItems?;refine wpAny_bind (wpAny_load hot ?_);rw[hdt];refine wpAny_pure ?_;have eg:(ks.map λk:Nat=>Value.int (k:Int) 0).toArray[i]?=none:=by
  rw[ac8,aag,hp];rfl
 dsimp only;rw[show ab2 (i:Int)=i from rfl,eg];refine (show wpAny _ _ (setField (.ref I) 0 (rawInt 0) >>=_) _ _ s from wpAny_bind (wpAny_setField hoi hdi (by show 0 < 5;decide) ?_));obtain ⟨o1,ho1,hc1,hd1⟩:=(hit.put (g:=rawInt 0) (k:=0)).2;refine wpAny_bind (wpAny_setField ho1 hd1 (by show 2 < 5;decide) ?_);exact pq hh λh' e k ty=>wpAny_bind (wpAny_isInstance (T:="StopIteration") (b:=true) ty isSubtype_stop (wpAny_pure (q _ λb o hb z=>k b o ((Heap.get?_update_other _ _ (Ne.symm hb)).trans ((Heap.get?_update_other _ _ (Ne.symm hb)).trans z)))))
end
theorem qu {α:Type}:∀{l:List α} {i:Nat} (h:i < l.length),(l[i]::l.eraseIdx i).Perm l
 | [],i,h=>absurd h (abx _)
 | x::l,0,h=>.refl _
 | x::l,i+1,h=>by
  rw[List.getElem_cons_succ,acu];exact (List.Perm.swap _ _ _).trans ((qu (Nat.lt_of_succ_lt_succ h)).cons x)
theorem w6 {α:Type} (nx:Nat→Nat):∀(fuel k:Nat) (left:List α) (out:Array α),fuel=left.length→(pickOrder.go nx fuel k left out).toList.Perm (out.toList++left)
 | 0,k,left,out,h=>by
  rw[ab7 h.symm];unfold pickOrder.go;rw[ab6]
 | fuel+1,k,left,out,h=>by
  have hp:0 < left.length:=by omega
  have hi:nx k % left.length < left.length:=Nat.mod_lt _ hp;unfold pickOrder.go;rw[aa4 hi];dsimp only;refine (w6 nx fuel (k+1) _ _ (by rw[ad3,if_pos hi];omega)).trans ?_;rw[adh,abi];exact List.Perm.append_left _ (qu hi)
theorem yd {α:Type} (nx:Nat→Nat) (xs:Array α):(pickOrder nx xs).toList.Perm xs.toList:=w6 nx _ 0 _ #[] (aae).symm
section
variable {P:Program} {w:World} {A:Around} {E:Value→Shared→Prop} {s:Shared} {a:Addr} {i n ep sl:Nat} {o:Obj} {es:Array (Int×Value)} {t:SetTable}
theorem wc {n:Nat} {Q:Nat→Shared→Prop} (hn:0 < n) (q:∀k d,k < n→Q k { s with drawn:=d }):wpAny (model P w) A (choose .order n) Q E s:=λΓ p hΓ=>⟨aaw hn,q _ _ (Nat.mod_lt _ hn)⟩
theorem sj {α:Type}:∀(n:Nat) (xs:List α) (s:Shared) {Q:List α→Shared→Prop},n=xs.length→(∀ys d,ys.Perm xs→Q ys { s with drawn:=d })→wpAny (model P w) A (drawOrder n xs) Q E s
 | 0,xs,s,Q,h,q=>by
  rw[ab7 h.symm] at q;exact wpAny_pure (q [] s.drawn .nil)
 | n+1,[],s,Q,h,q=>by cases h
 | n+1,x::xs,s,Q,h,q=>by
  unfold drawOrder;refine wpAny_bind (wc (by rw[aai];omega) λk d hk=>?_);rw[aa4 hk];refine wpAny_bind (sj n _ _ (by rw[ad3,if_pos hk];omega) λys d2 hp=>wpAny_pure (q _ d2 ?_));exact (hp.cons _).trans (qu hk)
theorem we {Q:Option (Value×Nat)→Shared→Prop} (ho:s.heap.get? a=some o) (hd:o.data=.set es ep t) (hf:t.fits es.size=true) (ht:gp w=true)
  (q:Q (((pickOrder (w.params.setOrder a ep) es)[i]?).map λe=>(e.2,sl)) s):wpAny (model P w) A (setNext a sl i ep) Q E s:=by
 unfold setNext;refine wpAny_bind (wpAny_setState_of ho hd hf (wpAny_bind (wpAny_bind (wpAny_askSetting (wpAny_pure ?_)))));rw[show (Setting.params ⟨(model P w).prog,(model P w).w.params⟩).followText "set-order"=true from ht,if_pos rfl];dsimp only;rw[if_neg (by simp)];refine wpAny_bind ?_;unfold setWalk;refine wpAny_bind (wpAny_setState_of ho hd hf (wpAny_bind (wpAny_bind (wpAny_askSetting (wpAny_pure ?_)))));rw[show (Setting.params ⟨(model P w).prog,(model P w).w.params⟩).followText "set-order"=true from ht,if_pos rfl];exact wpAny_bind (wpAny_askSetting (wpAny_pure (wpAny_pure q)))
theorem xu {Q:Option (Value×Nat)→Shared→Prop} (ho:s.heap.get? a=some o) (hd:o.data=.set es ep t) (hf:t.fits es.size=true) (ht:gp w=false) (hl:t.led=true) (hdr:(!t.plain&&decide (es.size > 1))=false)
  (q:Q (match es[SetTable.below t.place sl]?,t.place[SetTable.below t.place sl]? with | some (_,x),some j=>some (x,j+1) | _,_=>none) s):wpAny (model P w) A (setNext a sl i ep) Q E s:=by
 unfold setNext;refine wpAny_bind (wpAny_setState_of ho hd hf (wpAny_bind (wpAny_bind (wpAny_askSetting (wpAny_pure ?_)))));rw[show (Setting.params ⟨(model P w).prog,(model P w).w.params⟩).followText "set-order"=false from ht,if_neg aaa];refine (show wpAny _ _ (if (!t.plain&&decide (es.size > 1))=true then _ else _) _ _ _ from ?_);rw[if_neg (by rw[hdr];exact aaa)];refine (show wpAny _ _ ((if (!t.led&&!es.isEmpty)=true then unsupported "set:maker-not-led" else pure ()) >>=_) _ _ _ from wpAny_bind ?_);rw[if_neg (by rw[hl];exact aaa)];exact wpAny_pure (wpAny_pure q)
theorem sd_any {Q:Bool→Shared→Prop} (ho:s.heap.get? a=some o) (hd:o.data=.set es ep t) (hf:t.fits es.size=true) (q:Q (!gp w&&(!t.plain&&decide (es.size > 1))) s):wpAny (model P w) A (setDrawn a) Q E s:=by
 unfold setDrawn;exact wpAny_bind (wpAny_setState_of ho hd hf (wpAny_bind (wpAny_bind (wpAny_askSetting (wpAny_pure (wpAny_pure q))))))
end
section
variable {P:Program} {w:World} {A:Around} {E:Value→Shared→Prop} {s:Shared} {a I:Addr} {n ep:Nat} {o:Obj} {es:Array (Int×Value)} {t:SetTable}
theorem Ak {Q:Bool→Shared→Prop} (hT:s.TypeIs (.ref a) "set") (q:Q false s):wpAny (model P w) A (Builtin.List.listLengthHint (.ref a)) Q E s:=by
 unfold Builtin.List.listLengthHint;refine wpAny_bind (wpAny_specialOf hT F.slot_set_len.lookup ?_);generalize hid:("set.__len__":String)=id0;wp_delta
 rw[show splitId id0=some ("set","__len__") by subst hid;decide+kernel];subst hid;refine wpAny_bind (wpAny_isInstance (T:="set") (b:=true) hT sub_set_self ?_);refine wpAny_ite_split (λz=>absurd z (by decide)) λ_=>wpAny_ite_split (λ_=>?_) λz=>absurd (by decide+kernel) z;exact wpAny_bind (wpAny_typeOf hT (wpAny_pure q))
theorem ko (hh:A.handled=none) (hne:a≠I) {sl:Nat→Nat} {vs:List Value} (hv:vs.length=n) (hd:o.data=.set es ep t) (hf:t.fits es.size=true) (hn:es.size=n)
  (step:∀(s:Shared) (i:Nat) (x:Value),s.heap.get? a=some o→vs[i]?=some x→∀(E':Value→Shared→Prop) (Q':Option (Value×Nat)→Shared→Prop),Q' (some (x,sl (i+1))) s→wpAny (model P w) A.in1 (setNext a (sl i) i ep) Q' E' s)
  (stop:∀s:Shared,s.heap.get? a=some o→∀(E':Value→Shared→Prop) (Q':Option (Value×Nat)→Shared→Prop),Q' none s→wpAny (model P w) A.in1 (setNext a (sl n) n ep) Q' E' s):
  Walks P w A I [I,a] [I] n (λi v=>vs[i]?=some v) (λi h=>ek h I (.int (sl i) 0) i a n ep∧h.get? a=some o) where
 sub:=λb hb=>by rw[List.mem_singleton.mp hb];exact aa7
 frame:=λi h h' st k=>⟨st.1.mv (k I aa7),k a (aad _ aa7) _ st.2⟩
 item:=λi s Q E hi st q=>by
  have hx:=aa4 (show i < vs.length by omega);refine zd st.1 st.2 hd hf hn (step s i _ st.2 hx) λh' si sb=>q _ h' s.toks hx ⟨si,(sb.2 a hne).trans st.2⟩ λb o hb e=>(sb.2 b λz=>hb (z ▸ aa7)).trans e
 done:=λs Q E st q=>Al hh st.1 st.2 hd hf hn (stop s st.2) λh' eb=>q h' s.toks λb o hb e=>eb b o (λz=>hb (z ▸ aa7)) e
 self:=λi s Q E st q=>wg st.1 q
theorem uk {T:Addr} {ks:List Nat} (hh:A.handled=none) (hne:a≠I) (hTI:T≠I) (hk:ks.Perm (aaq n)) (hd:o.data=.set es ep t) (hf:t.fits es.size=true) (hn:es.size=n):
  Walks P w A I [I,a,T] [I] n (λi v=>(ks.map λk=>(es.getD k (0,.none)).2)[i]?=some v) (λi h=>ek h I (.ref T) i a n ep∧h.get? a=some o∧h.IsTuple T (ks.map λk:Nat=>Value.int (k:Int) 0).toArray) where
 sub:=λb hb=>by rw[List.mem_singleton.mp hb];exact aa7
 frame:=λi h h' st k=>by
  obtain ⟨s1,s2,ot,s3,s4⟩:=st;exact ⟨s1.mv (k I (by simp)),k a (by simp) _ s2,ot,k T (by simp) _ s3,s4⟩
 item:=λi s Q E hi st q=>by
  obtain ⟨s1,s2,s3⟩:=st;have hl:ks.length=n:=by rw[hk.length_eq,aau]
  have hx:=aa4 (show i < ks.length by omega);have hm:ks[i] < n:=List.mem_range.mp (hk.mem_iff.mp (abq _));have he:es[ks[i]]?=some (es[ks[i]].1,es[ks[i]].2):=aak (by omega);refine uo s1 s3 s2 hd hf hn hx he λh' si sb=>q _ h' s.toks ?_ ⟨si,(sb.2 a hne).trans s2,?_⟩ λb o hb e=>(sb.2 b λz=>hb (z ▸ aa7)).trans e
  ·rw[aag,hx,abw,aba,he];rfl
  ·obtain ⟨ot,t1,t2⟩:=s3;exact ⟨ot,(sb.2 T hTI).trans t1,t2⟩
 done:=λs Q E st q=>by
  obtain ⟨s1,s2,s3⟩:=st;exact yv hh s1 s3 s2 hd hf hn (List.getElem?_eq_none (by rw[hk.length_eq,aau];omega)) λh' eb=>q h' s.toks λb o hb e=>eb b o (λz=>hb (z ▸ aa7)) e
 self:=λi s Q E st q=>wg st.1 q
noncomputable def slw (t:SetTable):Nat→Nat
 | 0=>0
 | i+1=>t.place.getD i 0+1
theorem zw {t:SetTable} (hr:Ris t.place) {i:Nat} (hi:i≤t.place.size):SetTable.below t.place (slw t i)=i:=by
 refine sm hr hi λk y hy=>?_;cases i with
 | zero=>exact ⟨λz=>absurd z (abx _),λz=>absurd z (abx _)⟩
 | succ j=>
  have e:=aak (show j < t.place.size by omega);have eg:slw t (j+1)=t.place[j]+1:=by
   show t.place.getD j 0+1=_
   rw[aba,e];rfl
  rw[eg];rcases acj k j with z | z | z
  ·have:=hr _ _ _ _ z hy e;omega
  ·rw[z,e] at hy;cases hy
   omega
  ·have:=hr _ _ _ _ z e hy;omega
theorem Cm {Q:Value→Shared→Prop} (hh:A.handled=none) (ho:s.heap.get? a=some o) (hx:o.ExactSet) (hd:o.data=.set es ep t) (hf:t.fits es.size=true) (ht:TOk t (!gp w)) (hz:es.size≤sizeLine)
  (q:∀(I:Addr) (h1:Heap) (d1:Drawn) (vs:List Value) (fp:List Addr) (St:Nat→Heap→Prop),vs.Perm (es.toList.map (·.2))→(∀b o,s.heap.get? b=some o→h1.get? b=some o)→s.heap.objs.size≤I→(∀b∈fp,b=a∨s.heap.objs.size≤b)→
   Walks P w A I fp [I] es.size (λi v=>vs[i]?=some v) St→St 0 h1→Q (.ref I) { s with heap:=h1,drawn:=d1 }):wpAny (model P w) A (pyIter (.ref a)) Q E s:=by
 have hT:s.TypeIs (.ref a) "set":=⟨o,ho,hx.1⟩;have hlt:=Heap.lt_size ho;refine wpAny_pyIter_slot hT F.slot_set_iter (wpAny_call_entry F.slot_set_iter hT Eu ?_ (F.args_set_iter_1 _));unfold Builtin.«frozenset.__iter__» Builtin.Frozenset.slot0;refine wpAny_bind (wpAny_bind (wpAny_pure (wpAny_pure ?_)));unfold Builtin.Frozenset.sizeOf;refine wpAny_bind (wpAny_bind (size_of ho hd hf (wpAny_pure (wpAny_bind (sd_any ho hd hf ?_)))));by_cases hm:(!gp w&&(!t.plain&&decide (es.size > 1)))=true
 ·rw[if_pos hm];refine wpAny_bind (sj _ _ _ List.length_range.symm λks d hp=>?_);refine (show wpAny _ _ (newTuple (ks.map λi:Nat=>rawInt (i:Int)) >>=_) _ _ _ from wpAny_bind ?_);have kl:ks.length=es.size:=by rw[hp.length_eq,aau]
  simp only[newTuple];refine wpAny_newObj_type ?_ (by show (ks.map λi:Nat=>rawInt (i:Int)).toArray.size≤sizeLine;rw[aa5,aa2];omega);have ho1:=Heap.get?_push_of_some { cls:=.type "tuple",data:=.seq (ks.map λi:Nat=>rawInt (i:Int)).toArray } ho;refine wpAny_bind (wpAny_setEpoch_of ho1 hd hf ?_);refine wpAny_bind (wpAny_newObj_type (wpAny_pure ?_));have sz:(s.heap.push { cls:=.type "tuple",data:=.seq (ks.map λi:Nat=>rawInt (i:Int)).toArray }).objs.size=s.heap.objs.size+1:=Heap.size_push ..;refine ⟨_,rfl,"set_iterator",_,⟨_,Heap.get?_push_size _ rfl,rfl⟩,cg.lookup,?_⟩;have n1:a≠s.heap.objs.size+1:=aab (ac4 hlt);have n2:s.heap.objs.size≠s.heap.objs.size+1:=aab (Nat.lt_succ_self _);refine q _ _ d (ks.map λk=>(es.getD k (0,.none)).2) [_,a,s.heap.objs.size] _ ?_ (λb o e=>Heap.get?_push_of_some _ (Heap.get?_push_of_some _ e)) (by rw[sz];exact abk _) (λb hb=>?_) (uk hh (by rw[sz];exact n1) (by rw[sz];exact n2) hp hd hf rfl) ⟨⟨_,Heap.get?_push_size _ rfl,rfl,rfl⟩,Heap.get?_push_of_some _ ho1,_,Heap.get?_push_of_some _ (Heap.get?_push_size _ rfl),rfl,0,rfl⟩
  ·refine (hp.map λk=>(es.getD k (0,.none)).2).trans ?_;have e:((aaq es.size).map λk=>(es.getD k (0,.none)).2)=es.toList.map (·.2):=by
    refine adj (by simp) λi h1 h2=>?_;rw[aa2,aau] at h1;rw[adk,abz,adk,aba,aak h1];rfl
   rw[e]
  ·rcases List.mem_cons.mp hb with e | hb
   ·exact .inr (by rw[e,sz];exact abk _)
   ·rcases List.mem_cons.mp hb with e | hb
    ·exact .inl e
    ·exact .inr (by rw[List.mem_singleton.mp hb];exact aa3 _)
 ·rw[if_neg hm];refine wpAny_bind (wpAny_pure ?_);refine wpAny_bind (wpAny_setEpoch_of ho hd hf ?_);refine wpAny_bind (wpAny_newObj_type (wpAny_pure ?_));refine ⟨_,rfl,"set_iterator",_,⟨_,Heap.get?_push_size _ rfl,rfl⟩,cg.lookup,?_⟩;have n1:a≠s.heap.objs.size:=aab hlt;have fpk:∀b∈[s.heap.objs.size,a],b=a∨s.heap.objs.size≤b:=λb hb=>by
   rcases List.mem_cons.mp hb with e | hb
   ·exact .inr (by rw[e];exact aa3 _)
   ·exact .inl (List.mem_singleton.mp hb)
  cases htx:gp w with
  | true=>
   have pp:=yd (w.params.setOrder a ep) es;have pl:((pickOrder (w.params.setOrder a ep) es).toList.map (·.2)).length=es.size:=by rw[aa2,pp.length_eq,aae]
   refine q _ _ s.drawn ((pickOrder (w.params.setOrder a ep) es).toList.map (·.2)) _ _ (pp.map _) (λb o e=>Heap.get?_push_of_some _ e) (aa3 _) fpk (ko (sl:=λ_=>0) hh n1 pl hd hf rfl (λs' i x ho' hx' E' Q' q'=>we ho' hd hf htx ?_) λs' ho' E' Q' q'=>we ho' hd hf htx ?_) ⟨⟨_,Heap.get?_push_size _ rfl,rfl,rfl⟩,Heap.get?_push_of_some _ ho⟩
   ·rw[aag,ab5] at hx';obtain ⟨e,e1,e2⟩:=Option.map_eq_some_iff.mp hx';rw[e1];show Q' (some (e.2,0)) s'
    rw[e2];exact q'
   ·rw[acz (by have:=pp.length_eq;rw[aae,aae] at this;omega)];exact q'
  | false=>
   have hdr:(!t.plain&&decide (es.size > 1))=false:=by
    rw[htx] at hm;exact Bool.eq_false_iff.mpr hm
   have hl:t.led=true:=by rw[ht.led,htx];rfl
   have psz:t.place.size=es.size:=by
    unfold SetTable.fits at hf;rw[abj] at hf;exact beq_iff_eq.mp hf.1
   refine q _ _ s.drawn (es.toList.map (·.2)) _ _ (.refl _) (λb o e=>Heap.get?_push_of_some _ e) (aa3 _) fpk (ko (sl:=slw t) hh n1 (by rw[aa2,aae]) hd hf rfl (λs' i x ho' hx' E' Q' q'=>xu ho' hd hf htx hl hdr ?_) λs' ho' E' Q' q'=>xu ho' hd hf htx hl hdr ?_) ⟨⟨_,Heap.get?_push_size _ rfl,rfl,rfl⟩,Heap.get?_push_of_some _ ho⟩
   ·rw[aag,ab5] at hx';obtain ⟨e,e1,e2⟩:=Option.map_eq_some_iff.mp hx';have hi:=(Array.getElem?_eq_some_iff.mp e1).1;have ep':=aak (show i < t.place.size by omega);rw[zw ht.ris (by omega),e1,ep'];have:slw t (i+1)=t.place[i]+1:=by
     show t.place.getD i 0+1=_
     rw[aba,ep'];rfl
    rw[this] at q';obtain ⟨e0,e9⟩:=e;cases e2
    exact q'
   ·rw[zw ht.ris (by omega),acz (aa3 _)];exact q'
theorem gh:∀{vs:List Value},(∀v∈vs,∃t,v=.int (jq v) t)→IntsAre vs (vs.map jq)
 | [],_=>.nil
 | v::vs,h=>by
  obtain ⟨t,e⟩:=h v aa7;have r:=gh λu hu=>h u (aad _ hu);rw[aan];generalize jq v=k at e;rw[e];exact .cons k t r
theorem tf {ms:List Int} {Q:List Value→Shared→Prop} (hh:A.handled=none) (hS:ej P w s.heap a ms)
  (q:∀h' d' tk vs ns,(∀b o,s.heap.get? b=some o→h'.get? b=some o)→s.heap.objs.size < h'.objs.size→IntsAre vs ns→ns.Perm ms→Q vs { s with heap:=h',drawn:=d',toks:=tk }):wpAny (model P w) A (collect (.ref a)) Q E s:=by
 obtain ⟨o,es,ep,t,ho,hx,hd,he,hp,hz,hf,ht⟩:=hS;have hz1:=fits_of_scanBound hz;have hlt:=Heap.lt_size ho;have hT:∀h' d' tk,(∀b o,s.heap.get? b=some o→h'.get? b=some o)→Shared.TypeIs { s with heap:=h',drawn:=d',toks:=tk } (.ref a) "set":=λh' d' tk k=>⟨o,k _ _ ho,hx.1⟩;have pl:plainId "list.__iadd__"=true:=by decide+kernel
 have new0:(s.heap.push (seqObj "list" #[] 0)).get? s.heap.objs.size=some (seqObj "list" #[] 0):=Heap.get?_push_size _ rfl;have old0:∀b o,s.heap.get? b=some o→(s.heap.push (seqObj "list" #[] 0)).get? b=some o:=λb o e=>Heap.get?_push_of_some _ e;unfold collect;refine wpAny_bind (wpAny_runValue (codeAny_builtin entry_proto_collect' ?_));refine (show wpAny _ _ (newList [] >>=λv=>again (.builtin "list.__iadd__" ⟨[v,.ref a],[]⟩)) _ _ s from wpAny_bind (wpAny_newList (wpAny_pure ⟨Code.quiet_builtin _ (by decide+kernel),codeAny_builtin entry_list_iadd' ?_⟩)));rw[Around.under_plainId pl _];refine (show wpAny _ _ (Builtin.List.listExtendWith (.ref s.heap.objs.size) (.ref a) (.ref s.heap.objs.size)) _ _ _ from ?_);unfold Builtin.List.listExtendWith;refine wpAny_bind (wpAny_typeOf (T:="set") (hT _ _ _ old0) ?_);have b1:Builtin.List.listSameRef (.ref s.heap.objs.size) (.ref a)=false:=by
  have:s.heap.objs.size≠a:=aaw hlt;simp[Builtin.List.listSameRef,this]
 have b2:(Value.type "set"==Value.type "list")=false:=by decide
 have b3:(Value.type "set"==Value.type "tuple")=false:=by decide
 simp only[b1,b2,b3,ad4,ac1,if_false];refine wpAny_bind (Cm (by simp[hh]) (old0 _ _ ho) hx hd hf ht hz1 λI h1 d1 vs fp St vp k1 hI hfp W st=>?_);have s1:(s.heap.push (seqObj "list" #[] 0)).objs.size=s.heap.objs.size+1:=Heap.size_push ..;rw[s1] at hI hfp;have hSI:s.heap.objs.size≠I:=aab hI;have hSf:s.heap.objs.size∉fp:=λz=>by
  rcases hfp _ z with e | e
  ·exact absurd hlt (by rw[←e];exact ab3 _)
  ·exact ab3 _ e
 refine wpAny_bind (wpAny_holding (Ak (hT _ _ _ λb o e=>k1 b o (old0 b o e)) ?_));have loop:∀(h2:Heap) (c tk:Nat),St 0 h2→(∀b o,s.heap.get? b=some o→h2.get? b=some o)→h2.get? s.heap.objs.size=some { cls:=.type "list",data:=.seq #[] c }→∀R:Result→Shared→Prop,
   (∀h' tk acc c',(∀b o,s.heap.get? b=some o→h'.get? b=some o)→h'.get? s.heap.objs.size=some { cls:=.type "list",dict:=none,data:=.seq acc c',slots:=#[] }→acc.toList=vs→R (.ok (.ret (.ref s.heap.objs.size))) { s with heap:=h',drawn:=d1,toks:=tk })→
   codeAny (model P w) A (.builtin "list.extend.loop" ⟨[.ref s.heap.objs.size,.ref I,.ref s.heap.objs.size],[]⟩) R { s with heap:=h2,drawn:=d1,toks:=tk }:=by
  intro h2 c tk st2 k2 n2 R hR;refine codeAny_extend_loopS W.toS hz1 s.heap.objs.size hSf _ es.size 0 { s with heap:=h2,drawn:=d1,toks:=tk } #[] c rfl (ab0 _) st2 n2 (ItemsOf.nil _) λs' acc c' hm hS' hacc=>?_;rw[Moved.eq_with hm];refine hR s'.heap s'.toks acc c' (λb o e=>hm.heap b o (λz=>?_) (k2 b o e)) hS' ?_
  ·rcases List.mem_cons.mp z with y | y
   ·exact absurd (Heap.lt_size e) (by rw[y];exact ab3 _)
   ·exact absurd (Heap.lt_size e) (by rw[List.mem_singleton.mp y];exact Nat.not_lt_of_le (abb hI))
  ·have vl:vs.length=es.size:=by rw[vp.length_eq,aa2,aae]
   refine adj (by rw[aae,hacc.1,vl]) λi h1 h2=>?_;rw[aae] at h1;have:vs[i]?=some acc[i]:=hacc.2 i acc[i] (aak h1);rw[aa4 h2] at this;rw[Array.getElem_toList];exact (aa9 this).symm
 have fin:∀h' tk acc c',(∀b o,s.heap.get? b=some o→h'.get? b=some o)→h'.get? s.heap.objs.size=some { cls:=.type "list",dict:=none,data:=.seq acc c',slots:=#[] }→acc.toList=vs→Q acc.toList { s with heap:=h',drawn:=d1,toks:=tk }:=λh' tk acc c' k n e=>by
  have hi:∀v∈vs,∃t,v=.int (jq v) t:=λv hv=>by
   obtain ⟨x,x1,x2⟩:=List.mem_map.mp (vp.mem_iff.mp hv);rw[←x2];exact ip he x1
  rw[e];refine q h' d1 tk vs _ k (Heap.lt_size n) (gh hi) (((vp.map jq).trans ?_).trans hp);rw[abn];exact .refl _
 have n1:h1.get? s.heap.objs.size=some (seqObj "list" #[] 0):=k1 _ _ new0;have ends:∀h' tk acc c',(∀b o,s.heap.get? b=some o→h'.get? b=some o)→h'.get? s.heap.objs.size=some { cls:=.type "list",dict:=none,data:=.seq acc c',slots:=#[] }→acc.toList=vs→wpAny (model P w) A (load s.heap.objs.size >>=λob=>match ob.data with | .seq xs _=>pure xs.toList | _=>unsupported "internal:collect") Q E { s with heap:=h',drawn:=d1,toks:=tk }:=
  λh' tk acc c' k n e=>wpAny_bind (wpAny_load n (wpAny_pure (fin h' tk acc c' k n e)))
 refine wpAny_ite_split (λ_=>?_) λ_=>?_
 ·refine wpAny_bind (wpAny_rule (wpAny_bind ?_));refine (show wpAny _ _ (updateSeq s.heap.objs.size (·.push .none) >>=λ_=>updateSeq s.heap.objs.size (·.pop)) _ _ _ from wpAny_bind (wpAny_updateSeq n1 rfl ?_));have u1:=Heap.get?_update_self (Obj.mapSeq (·.push Value.none)) n1 rfl;refine wpAny_updateSeq (hz:=by seq_fits) u1 rfl ?_;have u2:=Heap.get?_update_self (Obj.mapSeq (·.pop)) u1 rfl;have kk:∀b o,b≠s.heap.objs.size→h1.get? b=some o→((h1.update s.heap.objs.size (Obj.mapSeq (·.push Value.none))).update s.heap.objs.size (Obj.mapSeq (·.pop))).get? b=some o:=λb o hb e=>(Heap.get?_update_other _ _ (Ne.symm hb)).trans ((Heap.get?_update_other _ _ (Ne.symm hb)).trans e);exact wpAny_pure ⟨plainId_quiet PySem.F.plain_extend_loop _,loop _ _ s.toks (W.frame 0 _ _ st λb hb o e=>kk b o (λz=>hSf (z ▸ hb)) e) (λb o e=>kk b o (aab (Heap.lt_size e)) (k1 b o (old0 b o e))) u2 _ ends⟩
 ·exact wpAny_pure ⟨plainId_quiet PySem.F.plain_extend_loop _,loop h1 0 s.toks st (λb o e=>k1 b o (old0 b o e)) n1 _ ends⟩
end
end PySem.Sti
namespace L2
open PySem PySem.Spec PyProof.Rows Srt
theorem b_set:bootBuiltins "set"=some (.type "set"):=by decide+kernel
section
variable {X:Cx}
theorem Inv.drew {pins:List (Addr×Obj)} {σ:St} {H:Hp} {s:Shared} (I:Inv X pins σ H s) (d:Drawn):Inv X pins σ H { s with drawn:=d }:=⟨I.ok,I.os,I.bare,I.base,I.loc,I.cell,I.free,I.freeC,I.pin,I.hok,I.len⟩
theorem o3 {pins:List (Addr×Obj)} {σ:St} {H:Hp} {s:Shared} {Q:VK} {v:Value} {E:Value→Shared→Prop} {ns:List Int} (I:Inv X pins σ H s) (h64:ns.length < 64)
  (hcol:∀Q':List Value→Shared→Prop,(∀h' d' tk vs ns',(∀b o,s.heap.get? b=some o→h'.get? b=some o)→s.heap.objs.size < h'.objs.size→IntsAre vs ns'→ns'.Perm ns→Q' vs { s with heap:=h',drawn:=d',toks:=tk })→wpAny (model X.prog X.w) X.A.in1 (collect v) Q' E s)
  (q:∀(l:Addr) (ms:List Int),ms.Perm ns→ms.Pairwise (·≤·)→H l=none→Q (.ref l) (upd H l (.lst (ms.map V.int)))):
  wpAny (model X.prog X.w) X.A (call (.builtin "sorted") [v]) (λu s'=>∃x H',Inv X pins σ H' s'∧RelV x u∧Q x H') E s:=by
 have sz:=sizeLine_eq;refine Calls.call_function_entry kind_sorted plain_sorted entry_sorted (args_sorted1 _) ?_;unfold Builtin.«sorted»;refine wpAny_bind (m:=checkCount "sorted" 1 1 _) (wpAny_pure (wpAny_bind (hcol _ λh1 d1 tk vs ns1 keep hlt1 ia hp1=>?_)));have hlen:vs.length < 64:=by rw[ia.length,hp1.length_eq];exact h64
 refine wpAny_bind (wpAny_newList ?_ (by omega));have hoL:(h1.push (seqObj "list" vs.toArray 0)).get? h1.objs.size=some (seqObj "list" vs.toArray 0):=Heap.get?_push_size _ rfl;refine wpAny_bind (wpAny_holding (wpAny_call_entry slot_list_sort ⟨_,hoL,rfl⟩ entry_list_sort (list_sort_tree hoL ia hlen λout ns' a1 a2 a3=>⟨_,rfl,wpAny_pure ⟨_,rfl,?_⟩⟩) (args_list_sort _)));have hz1:s.heap.objs.size≤h1.objs.size:=abb hlt1;obtain ⟨e,he⟩:=yt (h:=h1) (vs:=vs) (out:=out);have hl2:(ns'.map V.int).length≤sizeLine:=by rw[aa2,(a2.trans hp1).length_eq];omega
 exact ⟨.ref h1.objs.size,_,(I.drew d1).laid (λb o e=>vc (keep b o e)) hz1 (show ay X.prog X.w _ _ _ (.lst (ns'.map V.int)) from ⟨hl2,out.toList,e,om a1,by simpa using he⟩),rfl,q _ _ (a2.trans hp1) a3 (I.hok.fresh hz1)⟩
theorem m9 (hc:X.calm=true):d0 X (.builtin "sorted") (λxs H Q=>∃p kvs ns,xs=[.ref p]∧Rd H p (.dK kvs)∧kvs.map (·.1)=ac7 Sum.inl ns∧ns.length < 64∧
  ∀(l:Addr) (ms:List Int),ms.Perm ns→ms.Pairwise (·≤·)→H l=none→Q (.ref l) (upd H l (.lst (ms.map V.int)))):=by
 intro pins s σ H xs us Q I r h;obtain ⟨p,kvs,ns,rfl,hp,hk,h64,q⟩:=h;obtain ⟨u,rfl,rx⟩:=vals1 r;cases rx
 have sz:=sizeLine_eq;obtain ⟨z,hd,vs,rv,dd⟩:=gq I.hok hp;obtain ⟨ep,hat⟩:=dd.dictAt;have hl:=rv.length;have hln:ns.length=kvs.length:=by
  have:=congrArg List.length hk;rw[aa2,aa2] at this;exact this.symm
 refine o3 (ns:=ns) I h64 (λQ' q'=>qd hd hat (I.ok.hd hc) (by omega) λh1 tk acc keep hlt1 hacc=>?_) q;refine q' h1 s.drawn tk _ ns keep hlt1 (gh (fk (by rw[aa2,show acc.toList.length=acc.size from aae,hacc.1];omega) λi x hx=>?_)) (.refl _);rw[aag] at hx;obtain ⟨n,hn,rfl⟩:=Option.map_eq_some_iff.mp hx;have hi:i < acc.size:=by rw[hacc.1,←hl,←hln];exact (List.getElem?_eq_some_iff.mp hn).1
 obtain ⟨k,y,h2,h3⟩:=hacc.2 i acc[i] (aak hi);have h4:(kvs.map (·.1))[i]?=some k:=by rw[rv.keys,aag,h2];rfl
 rw[hk,aag,hn] at h4;have h4:Sum.inl n=k:=aa9 h4;subst h4;exact ⟨acc[i],by rw[ab5,aak hi],rel_is h3⟩
def tSS (K:PySem.W.Frag) (t:TA):TE:=λσ H Q=>t σ H λvs H1=>∃l ns,vs=[.ref l]∧SqL K H1 l (ns.map V.int)∧ns.length≤1000∧(PySem.Sti.fm ns).length < 64∧∀(l':Addr) (ms:List Int),ms.Perm (PySem.Sti.fm ns)→ms.Pairwise (·≤·)→H1 l'=none→Q (.ref l') (upd H1 l' (.lst (ms.map V.int)))
theorem uq {a:Expr} {ta:TA} {p p2 pos pos2:Pos} (hc:X.calm=true) (hg:Gl X "sorted") (hm:X.mg "sorted"=none) (hg2:Gl X "set") (hm2:X.mg "set"=none) (ha:PA X [a] ta)
  (hs:starEach [.Call (.Name "set" p2) [a] [] pos2] X.env=[(false,eval (.Call (.Name "set" p2) [a] [] pos2) X.env)]:=by rfl) (hs2:starEach [a] X.env=[(false,eval a X.env)]:=by rfl):
  PE X (.Call (.Name "sorted" p) [.Call (.Name "set" p2) [a] [] pos2] [] pos) (tSS X.K ta):=by
 intro pins s σ H Q I h;refine wpAny_Call_Name_kw (jv I hg hm sr (PyProof.Rows.callWith_builtin1 ?_ hs rfl));rw[hs];refine (show wpAny _ _ (spliced ((false,eval _ X.env)::backTo pos [])) _ _ s from Calls.spliced_cons ?_);refine wpAny_Call_Name_kw (jv I hg2 hm2 b_set (PyProof.Rows.callWith_type1 (thn (ha pos2 pins s σ H _ I h) λus s1 ⟨vs,H1,I1,r1,l,ns,e,hq,h1k,h64,q⟩=>?_) hs2 rfl));subst e;obtain ⟨u1,rfl,ru1⟩:=vals1 r1;cases ru1
 obtain ⟨its,rv,pl,hz⟩:=I1.list hq;have hb:ns.length+1 < scanBound:=by
  have:scanBound=4096:=rfl;omega
 refine PySem.Sti.As (I1.ok.hd hc) pl.isList (gh rv) hb λh' tk hS keep=>Calls.spliced_nil ?_;exact o3 (s:={ s1 with heap:=h',toks:=tk }) (ns:=PySem.Sti.fm ns) (I1.kept keep) h64 (λQ' q'=>PySem.Sti.tf (I1.ok.hd hc) hS q') q
end
end L2
namespace K22
open PySem PySem.Spec L2 PyProof.Rows Pc
local macro_rules | `(tactic| push_cast [$xs,*])=>`(tactic| simp only [tSeq,tIfS,tRet,tRetN,tNext,tVar,tC,tTest,tB,tOp,tUn,rI,rI0,rU,rEq,rNe,m6,tCB,Ce,tNil,tAnd,tOr,tNot,tAndV,tOrV,tNotV,tIf,lr,tAsg,tBM,tBM0,tSl,xv,tPart,rSlS,rSlL,tLst,tTup,tDrop,tNoIf,iStr,iList,iTup,iRng1,iRng2,tLC,zq,jr,List.set_cons_zero,List.set_cons_succ,List.getElem?_cons_zero,List.getElem?_cons_succ,Option.some.injEq,V.int.injEq,V.str.injEq,V.bl.injEq,V.ref.injEq,List.cons.injEq,exists_eq_left,exists_eq_left',exists_eq_right,exists_eq_right',exists_and_left,exists_and_right,and_true,true_and,List.cons_append,List.nil_append,List.append_nil,reduceCtorEq,false_and,exists_false,false_or,or_false,decide_eq_true_eq,eq_self,if_true,if_false,Bool.false_eq_true,Bool.true_eq_false,cxOf_K,cxOf_P,cxOf_w,Ef,cxOf_b,List.map_cons,List.map_nil,Option.getD_some,Option.getD_none,exists_const,nox_K,and_assoc,exists_eq,exists_eq',V.ty.injEq,tVals,Int.reduceLT,Int.reduceLE,Int.reduceNeg,Int.reducePow,Nat.reduceLT,Nat.reduceLeDiff,Ej,Dl,CDiv,tCallV,tDIn,xk,tDGet,iRev,Ab,sDPut,and_self,exists_prop,$xs,*])
noncomputable def top (i:Nat):Stmt:=PySem.Challenge.pw_pricecover_k22_no_box_no_value.main.body.getD i (.Pass ⟨0,0,0,0⟩)
structure Gs (w:World) (K:PySem.W.Frag) (mg:Str→Option Value) (κ:Cl):Prop where
 er:Errs K mg κ
 w_BadRow:PySem.W.findIn K (.ref κ.badRow) "row"=some none
 w_NoValue:PySem.W.findIn K (.ref κ.noValue) "word"=some none
 w_Twice:PySem.W.findIn K (.ref κ.twice) "word"=some none
 w_NoName:PySem.W.findIn K (.ref κ.noName) "word"=some none
 w_BadShape:PySem.W.findIn K (.ref κ.badShape) "word"=some none
 w_BadDeed:PySem.W.findIn K (.ref κ.badDeed) "word"=some none
 w_Unsound:PySem.W.findIn K (.ref κ.unsound) "word"=some none
 w2_Unsound:PySem.W.findIn K (.ref κ.unsound) "worths"=some none
 i_NoTerm:PySem.W.findIn K (.ref κ.noTerm) "__init__"=some (some (.builtin "ValueError.__init__"))
 i_NoBox:PySem.W.findIn K (.ref κ.noBox) "__init__"=some (some (.builtin "ValueError.__init__"))
 i_BadCover:PySem.W.findIn K (.ref κ.badCover) "__init__"=some (some (.builtin "ValueError.__init__"))
 i_NoCover:PySem.W.findIn K (.ref κ.noCover) "__init__"=some (some (.builtin "ValueError.__init__"))
 m_ValueError:mg "ValueError"=none
 m_dict:mg "dict"=none
 m_int:mg "int"=none
 m_isinstance:mg "isinstance"=none
 m_len:mg "len"=none
 m_list:mg "list"=none
 m_range:mg "range"=none
 m_set:mg "set"=none
 m_sorted:mg "sorted"=none
 m_str:mg "str"=none
def wt (K:PySem.W.Frag):Sp:=λvs H Q _=>∃(a:Addr) (ns:List Int),vs=[.ref a]∧SqL K H a (ns.map V.int)∧ns.length≤63∧∀H',Q (.bl true) H'
def fu (K:PySem.W.Frag):Sp:=λvs H Q _=>∃(a:Addr) (ns:List Int) (k:Nat),vs=[.ref a,.int (k:Int)]∧SqL K H a (ns.map V.int)∧ns.length≤63∧∀c:Int,Q (.int c) H
inductive ib (vals kvs:List (Key×V)):List V→Option Str→Prop
 | load (b:Int) (z:Str) (h:av vals (Sum.inr z)=none):ib vals kvs [.str "load",.int b,.str z] (some z)
 | neg (b x:Int) (hx:x.natAbs < 10 ^ 50) (h:av kvs (Sum.inl x)=none):ib vals kvs [.str "neg",.int b,.int x] none
 | bin (z:Str) (b x y:Int) (hz:arS z=2) (hx:x.natAbs < 10 ^ 50) (hy:y.natAbs < 10 ^ 50) (h:av kvs (Sum.inl x)=none∨∃m:Int,av kvs (Sum.inl x)=some (.int m)∧av kvs (Sum.inl y)=none):ib vals kvs [.str z,.int b,.int x,.int y] none
def g8 (κ:Cl) (E:XK) (H:Hp):Option Str→Prop
 | none=>∀H',ah H H'→E (.ref κ.noBox) none H'
 | some z=>∀dx H',ah H H'→H' dx=some (XD dx [("word",.str z)])→E (.ref κ.noValue) (some dx) H'
theorem g8.same {κ:Cl} {E:XK} {H H':Hp} {f:Option Str} (h:g8 κ E H f) (s:ah H H'):g8 κ E H' f:=by
 cases f with
 | none=>exact λH2 s2=>h H2 (s.trans s2)
 | some z=>exact λdx H2 s2 hd=>h dx H2 (s.trans s2) hd
theorem Bs {κ:Cl} {E:XK} {H:Hp} {f:Option Str} (h:∀C dx H',ah H H'→((C=κ.noBox∧dx=none∧f=none)∨∃z d,C=κ.noValue∧dx=some d∧H' d=some (XD d [("word",.str z)])∧f=some z)→E (.ref C) dx H'):g8 κ E H f:=by
 cases f with
 | none=>exact λH' s=>h _ _ H' s (.inl ⟨rfl,rfl,rfl⟩)
 | some z=>exact λdx H' s hd=>h _ _ H' s (.inr ⟨z,dx,rfl,rfl,hd,rfl⟩)
theorem log_lt {x:Int} (h:x.natAbs < 10 ^ 50):x.natAbs.log2 < 1920:=by
 rcases ac0 x.natAbs with e | e
 ·rw[e];decide
 ·exact (Nat.log2_lt (by omega)).mpr (acp h (by decide+kernel))
def rm (κ:Cl):Sp:=λvs H Q E=>∃(vl:Addr) (z:Str) (kvs:List (Key×V)),vs=[.str z,.ref vl]∧H vl=some (.dK kvs)∧((∃n:Int,av kvs (Sum.inr z)=some (.int n)∧Q (.int n) H)∨(av kvs (Sum.inr z)=none∧g8 κ E H (some z)))
def jm (κ:Cl):Sp:=λvs H Q E=>∃(bx:Addr) (x:Int) (kvs:List (Key×V)),vs=[.int x,.ref bx]∧H bx=some (.dK kvs)∧((∃m:Int,av kvs (Sum.inl x)=some (.int m)∧Q (.int m) H)∨(av kvs (Sum.inl x)=none∧x.natAbs < 10 ^ 50∧g8 κ E H none))
def kq (κ:Cl):Sp:=λvs H Q E=>∃(t bx vl:Addr) (ts:List V) (kvs vals:List (Key×V)),vs=[.ref t,.ref bx,.ref vl]∧H t=some (.tup ts)∧H bx=some (.dK kvs)∧H vl=some (.dK vals)∧
 ((∃b n:Int,gr vals kvs ts b n∧∀H',ah H H'→Q (.int n) H')∨∃f,ib vals kvs ts f∧g8 κ E H f)
def ig (K:PySem.W.Frag) (κ:Cl):Sp:=λvs H Q E=>∃(l vl:Addr) (rs:List V) (ts:List (List V)) (fs:List (Int×Int)) (vals:List (Key×V)),vs=[.ref l,.ref vl]∧SqL K H l rs∧rs.length≤1000∧au H rs ts∧H vl=some (.dK vals)∧cj vals (ts.take fs.length) fs∧
 ((fs.length=ts.length∧∀(d:Addr) (H':Hp),ah H H'→H d=none→H' d=some (.dK (bf fs))→Q (.ref d) H')∨∃t f,ts[fs.length]?=some t∧ib vals (bf fs) t f∧g8 κ E H f)
theorem kz (xs:List V) (m:Nat):fj xs none (some (m:Int))=xs.take m:=by
 unfold fj;rw[HT.uj,HT.wj,ad1,ad7];by_cases h:m≤xs.length
 ·rw[aby h]
 ·rw[adl (by omega),abm (aa3 _),abm (by omega)]
theorem mj (xs:List V) (m:Nat):fj xs (some (m:Int)) none=xs.drop m:=by
 unfold fj;rw[HT.uj,HT.wj];by_cases h:m≤xs.length
 ·rw[aby h,abm (by rw[aax];omega)]
 ·rw[adl (by omega),ad0 (aa3 _),ad0 (by omega),List.take_nil]
theorem jn {H:Hp} {rs:List V} {ts:List (List V)} (h:au H rs ts) (m:Nat):au H (rs.take m) (ts.take m):=by
 refine ⟨by rw[aaf,aaf,h.1],λi t ht=>?_⟩;have hi:i < m:=by
  have:=(List.getElem?_eq_some_iff.mp ht).1;rw[aaf] at this;omega
 rw[ab4 hi] at ht ⊢;exact h.2 i t ht
theorem jt {H:Hp} {rs:List V} {ts:List (List V)} (h:au H rs ts) (m:Nat):au H (rs.drop m) (ts.drop m):=by
 refine ⟨by rw[aax,aax,h.1],λi t ht=>?_⟩;rw[ad8] at ht ⊢;exact h.2 _ t ht
theorem jb {H:Hp} {rs us:List V} {ts ws:List (List V)} (h:au H rs ts) (k:au H us ws):au H (rs++us) (ts++ws):=by
 refine ⟨by rw[aa8,aa8,h.1,k.1],λi t ht=>?_⟩;by_cases hi:i < ts.length
 ·rw[aal hi] at ht;rw[aal (by rw[h.1];exact hi)];exact h.2 i t ht
 ·rw[aaj (by omega)] at ht;rw[aaj (by rw[h.1];omega),h.1];exact k.2 _ t ht
theorem uh {H:Hp} {a:Addr} {t:List V} (h:H a=some (.tup t)):au H [.ref a] [t]:=(au.nil H).snoc h
theorem t8 {x:Int}:∀{ms:List Int},inV (.int x) (ms.map V.int)=decide (x∈ms)
 | []=>by simp[inV]
 | m::ms=>by
  show (eqV (.int m) (.int x)||inV (.int x) (ms.map V.int))=_
  rw[t8];show ((m==x)||decide (x∈ms))=_
  by_cases e:m=x
  ·subst e;simp
  ·have e':¬x=m:=λz=>e z.symm;simp[e,e']
theorem pk:∀(ms:List Int),(ms.map V.int).all cm=true
 | []=>rfl
 | m::ms=>by rw[aan,aci,pk ms];rfl
def gf:Sp:=λvs H Q _=>∃c:Int,vs=[.int c]∧∀(l:Addr) (H':Hp) (zs:List Str),zs.length=13→zs.Nodup→ah H H'→H' l=some (.lst (zs.map V.str))→Q (.ref l) H'
noncomputable def cpL (z:Str):List Nat:=z.cps.toList
theorem qh (a b:Str):cpL (a++b)=cpL a++cpL b:=Array.toList_append
theorem qb (k:Int):∃c:Nat,atI uw.cps.toList (k % 26)=some (97+c)∧(c:Int)=k % 26:=by
 have h0:0≤k % 26:=aao _ (by decide);have h1:k % 26 < 26:=aaz _ (by decide);obtain ⟨n,hn⟩:∃n:Nat,k % 26=(n:Int):=⟨(k % 26).toNat,by omega⟩;rw[hn] at h1 ⊢;have hl:∀n:Fin 26,uw.cps.toList[n.val]?=some (97+n.val):=by decide+kernel
 exact ⟨n,cy (hl ⟨n,by omega⟩),rfl⟩
theorem Cg {f:Nat→Str} {n:Nat} (h:∀i j,i < j→j < n→f i≠f j):((aaq n).map f).Nodup:=by
 refine List.pairwise_map.mpr (List.pairwise_iff_getElem.mpr λi j hi hj hij=>?_);rw[abz,abz];rw[aau] at hj;exact h i j hij hj
noncomputable def nmK (A B:Str) (c:Int) (k:Nat):Str:=(A++⟨#[97+((c / 7+(k:Int)) % 26).toNat]⟩)++B
noncomputable def xK (z:Str):Str:=z++t5 (Str.ofString "x") (if inV (.str z) j6=true then (1:Int) else 0).toNat
theorem nm_nd (A B:Str) (c:Int):(((aaq 13).map (nmK A B c)).map xK).Nodup:=by
 rw[abn];refine Cg λi j hij hj e=>?_;have e:=congrArg cpL e;have h1:∀k,cpL (xK (nmK A B c k))=cpL A++((97+((c / 7+(k:Int)) % 26).toNat)::(cpL B++cpL (t5 (Str.ofString "x") (if inV (.str (nmK A B c k)) j6=true then (1:Int) else 0).toNat))):=λk=>by
  show cpL (nmK A B c k++_)=_
  rw[qh];show cpL ((A++_)++B)++_=_
  rw[qh,qh,abi,abi];rfl
 have e:cpL (xK (nmK A B c i))=cpL (xK (nmK A B c j)):=e;rw[h1,h1] at e;have e2:=List.append_cancel_left e;injection e2 with e3 _
 omega
inductive jw (ms:List Int) (zs:List Str):List V→Prop
 | put (b n:Int) (hb:0≤b∧b < 9) (h:n.natAbs < 2 ^ 200):jw ms zs [.str "put",.int b,.int n]
 | load (b:Int) (z:Str) (hb:0≤b∧b < 9) (k:Nat) (hk:k < 5) (h:zs[1+2*k]?=some z):jw ms zs [.str "load",.int b,.str z]
 | neg (b x:Int) (hb:0≤b∧b < 9) (h:x∈ms):jw ms zs [.str "neg",.int b,.int x]
 | bin (z:Str) (b x y:Int) (hb:0≤b∧b < 9) (hz:z="add"∨z="sub") (h1:x∈ms) (h2:y∈ms):jw ms zs [.str z,.int b,.int x,.int y]
def i0 (K:PySem.W.Frag):Sp:=λvs H Q _=>∃(c:Int) (fl nl:Addr) (ms:List Int) (zs:List Str),vs=[.int c,.ref fl,.ref nl]∧H fl=some (.lst (ms.map V.int))∧ms.length≤63∧SqL K H nl (zs.map V.str)∧zs.length=13∧
 ∀(t:Addr) (H':Hp) (ts:List V),jw ms zs ts→ah H H'→H t=none→H' t=some (.tup ts)→Q (.ref t) H'
noncomputable def cv (t:List V):Int:=match t with | _::.int b::_=>b | _=>0
def Rowy (t:List V):Prop:=∃v b r,t=v::.int b::r
def ic (K:PySem.W.Frag):Sp:=λvs H Q _=>∃(l:Addr) (rs:List V) (ts:List (List V)),vs=[.ref l]∧SqL K H l rs∧au H rs ts∧(∀t∈ts,Rowy t)∧ts.length≤63∧
 ∀(l':Addr) (H':Hp) (ms:List Int),ms.Perm (PySem.Sti.fm (ts.map cv))→ms.Pairwise (·≤·)→ah H H'→H l'=none→H' l'=some (.lst (ms.map V.int))→Q (.ref l') H'
def kh (bs:List Int) (zs:List Str) (t:List V):Prop:=(∃(b:Int) (z:Str) (k:Nat),k < 7∧zs[2*k]?=some z∧t=[.str "load",.int b,.str z])∨∃x:Int,x∉bs∧x.natAbs < 10 ^ 50∧((∃b:Int,t=[.str "neg",.int b,.int x])∨
 ∃(z:Str) (b u v:Int),arS z=2∧t=[.str z,.int b,.int u,.int v]∧(u=x∨u∈bs)∧(v=x∨v∈bs)∧(u=x∨v=x))
def d8 (K:PySem.W.Frag):Sp:=λvs H Q _=>∃(l nl:Addr) (rs:List V) (ts:List (List V)) (at':Nat) (c:Int) (zs:List Str),vs=[.ref l,.int (at':Int),.int c,.ref nl]∧H l=some (.lst rs)∧au H rs ts∧(∀t∈ts,Rowy t∧0≤cv t∧cv t < 9)∧ts.length≤63∧at'≤ts.length∧SqL K H nl (zs.map V.str)∧zs.length=13∧
 ∀(t:Addr) (H':Hp) (r:List V),kh ((ts.take at').map cv) zs r→ah H H'→H t=none→H' t=some (.tup r)→Q (.ref t) H'
def jg:Sp:=λvs H Q _=>vs=[]∧∀H',ah H H'→Q (.bl true) H'
def dm (K:PySem.W.Frag):Sp:=λvs H Q _=>∃(l vl d:Addr) (rs:List V) (ts:List (List V)) (fs:List (Int×Int)) (vals:List (Key×V)) (t:List V) (f:Option Str),vs=[.ref l,.ref vl,.ref d]∧H l=some (.lst rs)∧rs.length≤1000∧au H rs ts∧H vl=some (.dK vals)∧(vals.map (·.1)).Nodup∧(∀p∈vals,∃m:Int,p.2=.int m)∧cj vals (ts.take fs.length) fs∧
 ts[fs.length]?=some t∧ib vals (bf fs) t f∧H d=some (.tup t)∧∀H',ah H H'→Q (.bl true) H'
theorem dg {k:Key}:∀{l kvs:List (Key×V)},(∀p∈l,p.1≠k)→av (bq kvs l) k=av kvs k
 | [],kvs,_=>rfl
 | p::l,kvs,h=>by
  show av (bq (putK kvs p.1 p.2) l) k=_
  rw[dg λq hq=>h q (aad _ hq),m5,if_neg λe=>h p aa7 e.symm]
theorem cz {k:Key} {P:V→Prop}:∀{l kvs:List (Key×V)},(∀p∈l,P p.2)→((∃v,av kvs k=some v∧P v)∨∃p∈l,p.1=k)→∃v,av (bq kvs l) k=some v∧P v
 | [],kvs,_,h=>h.elim id λ⟨p,hp,_⟩=>nomatch hp
 | p::l,kvs,hP,h=>by
  refine cz (l:=l) (kvs:=putK kvs p.1 p.2) (λq hq=>hP q (aad _ hq)) ?_;by_cases e:k=p.1
  ·exact .inl ⟨p.2,by rw[m5,if_pos e],hP p aa7⟩
  ·rcases h with ⟨v,h1,h2⟩ | ⟨q,hq,h1⟩
   ·exact .inl ⟨v,by rw[m5,if_neg e];exact h1,h2⟩
   ·rcases List.mem_cons.mp hq with e' | hq
    ·exact absurd (by rw[←h1,e']) e
    ·exact .inr ⟨q,hq,h1⟩
theorem ug:∀{l kvs:List (Key×V)},(kvs.map (·.1)).Nodup→((bq kvs l).map (·.1)).Nodup
 | [],_,h=>h
 | p::l,kvs,h=>ug (l:=l) (Ar p.2 h)
theorem mem_merge:∀{l kvs:List (Key×V)} {q:Key×V},q∈bq kvs l→q∈kvs∨q∈l
 | [],_,_,h=>.inl h
 | p::l,kvs,q,h=>by
  rcases mem_merge (l:=l) (kvs:=putK kvs p.1 p.2) h with h | h
  ·rcases rl h with h | h
   ·exact .inl h
   ·exact .inr (by rw[h];exact aa7)
  ·exact .inr (aad _ h)
theorem ui (fs:List (Int×Int)):bf fs=bq [] (fs.map λp=>(Sum.inl p.1,V.int p.2)):=by
 unfold bf bq;rw[List.foldl_map]
theorem d4 (fs:List (Int×Int)) (x:Int):(x∈fs.map (·.1)→∃m:Int,av (bf fs) (Sum.inl x)=some (.int m))∧(x∉fs.map (·.1)→av (bf fs) (Sum.inl x)=none):=by
 rw[ui];refine ⟨λh=>?_,λh=>?_⟩
 ·obtain ⟨v,h1,m,rfl⟩:=cz (k:=Sum.inl x) (kvs:=[]) (l:=fs.map λp=>((Sum.inl p.1:Key),V.int p.2)) (P:=λv=>∃m:Int,v=.int m) (λp hp=>by
   obtain ⟨q,_,rfl⟩:=List.mem_map.mp hp;exact ⟨_,rfl⟩) (.inr (by
   obtain ⟨q,hq,rfl⟩:=List.mem_map.mp h;exact ⟨_,List.mem_map.mpr ⟨q,hq,rfl⟩,rfl⟩))
  exact ⟨m,h1⟩
 ·rw[dg λp hp e=>?_]
  ·rfl
  ·obtain ⟨q,hq,rfl⟩:=List.mem_map.mp hp;exact h (List.mem_map.mpr ⟨q,hq,Sum.inl.inj e⟩)
theorem kr:∀{a b:List Int},a.Pairwise (· < ·)→b.Pairwise (· < ·)→(∀x,x∈a↔x∈b)→a=b
 | [],[],_,_,_=>rfl
 | [],y::b,_,_,h=>absurd ((h y).mpr aa7) aam
 | x::a,[],_,_,h=>absurd ((h x).mp aa7) aam
 | x::a,y::b,ha,hb,h=>by
  obtain ⟨ha1,ha2⟩:=List.pairwise_cons.mp ha;obtain ⟨hb1,hb2⟩:=List.pairwise_cons.mp hb;have e:x=y:=by
   rcases List.mem_cons.mp ((h x).mp aa7) with e | e
   ·exact e
   ·rcases List.mem_cons.mp ((h y).mpr aa7) with e' | e'
    ·exact e'.symm
    ·have:=ha1 y e';have:=hb1 x e;omega
  subst e;rw[kr ha2 hb2 λz=>⟨λhz=>?_,λhz=>?_⟩]
  ·rcases List.mem_cons.mp ((h z).mp (aad _ hz)) with e | e
   ·have:=ha1 z hz;omega
   ·exact e
  ·rcases List.mem_cons.mp ((h z).mpr (aad _ hz)) with e | e
   ·have:=hb1 z hz;omega
   ·exact e
theorem strict {a:List Int} (h:a.Pairwise (·≤·)) (n:a.Nodup):a.Pairwise (· < ·):=List.Pairwise.imp₂ (λx y h1 h2=>by omega) h n
structure qg (zs:List Str) (vals:List (Key×V)):Prop where
 nd:(vals.map (·.1)).Nodup
 int:∀p∈vals,∃m:Int,p.2=.int m
 odd:∀(k:Nat) (z:Str),k < 5→zs[1+2*k]?=some z→∃m:Int,av vals (Sum.inr z)=some (.int m)∧m.natAbs < 2 ^ 200
 even:∀(k:Nat) (z:Str),zs[2*k]?=some z→av vals (Sum.inr z)=none
theorem yj {zs:List Str} (nd:zs.Nodup) {z1 z3 z5 z7 z9:Str} (e1:zs[1]?=some z1) (e3:zs[3]?=some z3) (e5:zs[5]?=some z5) (e7:zs[7]?=some z7) (e9:zs[9]?=some z9) {n1 n3 n5 n7 n9:Int} (b1:n1.natAbs < 2 ^ 200) (b3:n3.natAbs < 2 ^ 200) (b5:n5.natAbs < 2 ^ 200) (b7:n7.natAbs < 2 ^ 200) (b9:n9.natAbs < 2 ^ 200):
  qg zs (bq [] [(Sum.inr z1,V.int n1),(Sum.inr z3,.int n3),(Sum.inr z5,.int n5),(Sum.inr z7,.int n7),(Sum.inr z9,.int n9)]):=by
 have inj:∀{i j:Nat} {z:Str},zs[i]?=some z→zs[j]?=some z→i=j:=λ{i j z} hi hj=>by
  obtain ⟨h1,g1⟩:=List.getElem?_eq_some_iff.mp hi;obtain ⟨h2,g2⟩:=List.getElem?_eq_some_iff.mp hj;exact (ack nd).mp (g1.trans g2.symm)
 have hP:∀p∈[((Sum.inr z1:Key),V.int n1),(Sum.inr z3,.int n3),(Sum.inr z5,.int n5),(Sum.inr z7,.int n7),(Sum.inr z9,.int n9)],∃m:Int,p.2=.int m∧m.natAbs < 2 ^ 200:=λp hp=>by
  simp only[aav,aam,or_false] at hp;rcases hp with rfl | rfl | rfl | rfl | rfl
  ·exact ⟨_,rfl,b1⟩
  ·exact ⟨_,rfl,b3⟩
  ·exact ⟨_,rfl,b5⟩
  ·exact ⟨_,rfl,b7⟩
  ·exact ⟨_,rfl,b9⟩
 refine ⟨ug ach,λp hp=>?_,λk z hk hz=>?_,λk z hz=>?_⟩
 ·obtain ⟨m,h,_⟩:=hP p ((mem_merge hp).resolve_left λh=>nomatch h);exact ⟨m,h⟩
 ·obtain ⟨v,h1,m,rfl,h2⟩:=cz (k:=Sum.inr z) (kvs:=[]) (l:=[((Sum.inr z1:Key),V.int n1),(Sum.inr z3,.int n3),(Sum.inr z5,.int n5),(Sum.inr z7,.int n7),(Sum.inr z9,.int n9)]) (P:=λv=>∃m:Int,v=.int m∧m.natAbs < 2 ^ 200) hP (.inr (by
   match k,hk,hz with
   | 0,_,hz=>exact ⟨(Sum.inr z1,.int n1),by simp,by rw[e1] at hz;rw[←aa9 hz]⟩
   | 1,_,hz=>exact ⟨(Sum.inr z3,.int n3),by simp,by rw[e3] at hz;rw[←aa9 hz]⟩
   | 2,_,hz=>exact ⟨(Sum.inr z5,.int n5),by simp,by rw[e5] at hz;rw[←aa9 hz]⟩
   | 3,_,hz=>exact ⟨(Sum.inr z7,.int n7),by simp,by rw[e7] at hz;rw[←aa9 hz]⟩
   | 4,_,hz=>exact ⟨(Sum.inr z9,.int n9),by simp,by rw[e9] at hz;rw[←aa9 hz]⟩))
  exact ⟨m,h1,h2⟩
 ·refine dg λp hp e=>?_;simp only[aav,aam,or_false] at hp;rcases hp with rfl | rfl | rfl | rfl | rfl
  ·rw[←Sum.inr.inj e] at hz;have:=inj hz e1;omega
  ·rw[←Sum.inr.inj e] at hz;have:=inj hz e3;omega
  ·rw[←Sum.inr.inj e] at hz;have:=inj hz e5;omega
  ·rw[←Sum.inr.inj e] at hz;have:=inj hz e7;omega
  ·rw[←Sum.inr.inj e] at hz;have:=inj hz e9;omega
theorem Cc {ms:List Int} {zs:List Str} {i:Nat} {t:List V} {fs:List (Int×Int)} {vals:List (Key×V)} (h:jw ms zs t) (hm:∀x,x∈ms↔x∈fs.map (·.1)) (hv:qg zs vals) (hi:i < 63) (hb:kn (200+i) fs):
  ∃b n:Int,gr vals (bf fs) t b n∧n.natAbs < 2 ^ (200+(i+1))∧Rowy t∧cv t=b∧0≤b∧b < 9:=by
 have up:∀{n:Int} {e:Nat},n.natAbs < 2 ^ e→e≤200+(i+1)→n.natAbs < 2 ^ (200+(i+1)):=λh l=>aa6 h (ad2 (by decide) l);have bx:∀x∈ms,∃m:Int,av (bf fs) (Sum.inl x)=some (.int m)∧m.natAbs < 2 ^ (200+i)∧dy m:=λx hx=>by
  obtain ⟨m,h1⟩:=(d4 fs x).1 ((hm x).mp hx);have h2:=hb x m (mw h1);exact ⟨m,h1,h2,_,by omega,h2⟩
 cases h with
 | put b n hb h=>exact ⟨b,n,.put b n,up h (by omega),⟨_,_,_,rfl⟩,rfl,hb⟩
 | load b z hb k hk h=>
  obtain ⟨m,h1,h2⟩:=hv.odd k z hk h;exact ⟨b,m,.load b z m h1,up h2 (by omega),⟨_,_,_,rfl⟩,rfl,hb⟩
 | neg b x hb h=>
  obtain ⟨m,h1,h2,h3⟩:=bx x h;exact ⟨b,-m,.neg b x m h1 h3,up (by rw[Int.natAbs_neg];exact h2) (by omega),⟨_,_,_,rfl⟩,rfl,hb⟩
 | bin z b x y hb hz h1 h2=>
  obtain ⟨m,k1,k2,k3⟩:=bx x h1;obtain ⟨n,j1,j2,j3⟩:=bx y h2;have az:arS z=2:=by rcases hz with rfl | rfl <;> decide+kernel
  have nm:z≠"mul":=by rcases hz with rfl | rfl <;> decide+kernel
  exact ⟨b,_,.bin z b x y m n az k1 j1 k3 j3,up (Dd k2 j2 nm) (by omega),⟨_,_,_,rfl⟩,rfl,hb⟩
theorem bad_of {zs:List Str} {t:List V} {fs:List (Int×Int)} {vals:List (Key×V)} {bs:List Int} (h:kh bs zs t) (hm:bs=fs.map (·.1)) (hv:qg zs vals) (h9:∀x∈bs,0≤x∧x < 9):∃f,ib vals (bf fs) t f:=by
 have big:∀x∈bs,x.natAbs < 10 ^ 50:=λx hx=>by
  have:=h9 x hx;exact aa6 (show x.natAbs < 9 by omega) (by decide+kernel)
 rcases h with ⟨b,z,k,hk,hz,rfl⟩ | ⟨x,hx,hb,⟨b,rfl⟩ | ⟨z,b,u,v,hz,rfl,hu,hv',huv⟩⟩
 ·exact ⟨_,.load b z (hv.even k z hz)⟩
 ·rw[hm] at hx;exact ⟨_,.neg b x hb ((d4 fs x).2 hx)⟩
 ·have ub:u.natAbs < 10 ^ 50:=hu.elim (λe=>by rw[e];exact hb) (big u);have vb:v.natAbs < 10 ^ 50:=hv'.elim (λe=>by rw[e];exact hb) (big v);have xn:=(d4 fs x).2 (by rw[←hm];exact hx);refine ⟨_,.bin z b u v hz ub vb ?_⟩;rcases hu with e | hu
  ·exact .inl (by rw[e];exact xn)
  ·rcases huv with e | e
   ·exact .inl (by rw[e];exact xn)
   ·rw[hm] at hu;obtain ⟨m,h1⟩:=(d4 fs u).1 hu;exact .inr ⟨m,h1,by rw[e];exact xn⟩
theorem cj.take {vals:List (Key×V)} {ts:List (List V)} {fs:List (Int×Int)} (h:cj vals ts fs) (n:Nat):cj vals (ts.take n) (fs.take n):=by
 refine ⟨by rw[aaf,aaf,h.1],λi p hp=>?_⟩;have hi:i < n:=by
  have:=(List.getElem?_eq_some_iff.mp hp).1;rw[aaf] at this;omega
 rw[ab4 hi] at hp;obtain ⟨t,h1,h2⟩:=h.2 i p hp;exact ⟨t,by rw[ab4 hi];exact h1,by rw[List.take_take,aby (abb hi)];exact h2⟩
set_option hygiene false
local macro_rules
 | `(A0 $a $b)=>`(@pv _ $a _ _ (by rfl) $b (by decide) (by decide))
 | `(A1 $a $b)=>`(@ba _ _ _ _ _ $a $b (by rfl))
 | `(A2 $_)=>`(@Bf _ _ _ _)
 | `(A3 $a $b $c)=>`(@pe_op _ _ _ _ _ _ _ _ $a $b $c)
 | `(A4 $_)=>`(@dw _)
 | `(A5 $a $b)=>`(@b6 _ _ _ _ _ $a $b)
 | `(A6 $a)=>`(@dq _ _ _ $a)
 | `(A7 $a $b $c)=>`(@pe_ix _ _ _ _ _ _ _ $a $b $c (λ_ _=>rfl))
 | `(A8 $a $b $c $d $e)=>`(@Aj _ _ $a _ _ _ _ $b rfl $c $d (by rfl) $e)
 | `(A9 $a)=>`(@ps_ret _ _ _ _ $a)
 | `(AA $_)=>`(@zx _ _ _ _)
 | `(AB $_)=>`(@op_mod _)
 | `(AC $a)=>`(@je.str _ _ _ _ _ $a)
 | `(AD $_)=>`(@xh _)
 | `(AE $_)=>`(@nomark _ _ (by decide) (by decide))
 | `(AF $a $b $c)=>`(@ps_if _ _ _ _ _ _ _ _ $a $b $c)
 | `(AG $_)=>`(@Du _)
 | `(AH $_)=>`(@C3 _)
 | `(AI $a $b $c $d)=>`(@xt _ _ _ _ _ _ _ _ $a $b $c $d)
 | `(AJ $a $b $c $d)=>`(@Am _ _ _ _ _ _ _ _ _ $a rfl $b $c $d (by decide) (by decide) (by rfl) (by rfl))
 | `(AK $_)=>`(@op_eq _)
 | `(AL $_)=>`(@op_add _)
 | `(AM $a)=>`(@pe_lst _ _ _ _ $a)
 | `(AN $a $b $c)=>`(@pe_has _ _ _ _ _ _ _ _ _ _ $a $b $c (by rfl) (by decide+kernel) (by rfl) (by rfl))
 | `(AO $a)=>`(@pe_tup _ _ _ _ _ $a)
 | `(AQ $a)=>`(@En _ _ _ _ $a (by rfl) (by decide+kernel))
 | `(AR $a $b $c $d)=>`(@Au _ _ _ _ _ _ _ _ _ _ $a $b $c $d)
 | `(AS $a)=>`(@C9 _ _ _ $a)
 | `(AT $_)=>`(@Cq _)
 | `(AU $a)=>`(@je.int _ _ _ _ _ $a)
 | `(AV $_)=>`(@r6 _)
 | `(AW $a)=>`(@Cp _ _ _ _ $a)
 | `(AX $a $b $c $d $e)=>`(@d6.mk _ _ $a $b $c _ rfl rfl rfl rfl $d rfl $e)
 | `(AY $a $b $c)=>`(@wx _ _ $a _ $b rfl (aa1 rfl) $c)
 | `(AZ $a $b $c $d $e)=>`(@Cz _ _ _ _ _ _ _ _ _ _ _ _ $a $b $c (by decide) $d $e (by rfl) (by decide+kernel) (by rfl) (by rfl))
 | `(B0 $a $b $c)=>`(@Bp _ _ _ _ _ _ _ _ _ $a $b $c)
 | `(B1 $a)=>`(@Cb _ _ _ $a)
 | `(B2 $a $b $c $d)=>`(@o9 _ _ _ _ _ _ _ _ _ $a rfl $b $c $d (by decide) (by decide) (by rfl) (by rfl))
 | `(B3 $a)=>`(@pt_val _ _ _ $a (by intro _;rfl))
 | `(B4 $_)=>`(@pe_bl _ _ _ _)
 | `(B5 $a)=>`(@C0 _ _ _ _ _ $a rfl)
 | `(B6 $a $b)=>`(@pe_and _ _ _ _ _ _ _ $a $b)
 | `(B7 $a $b $c $d)=>`(@wx _ _ $a _ $b rfl $c $d)
 | `(B8 $a)=>`(@pt_not _ _ _ _ $a)
 | `(B9 $a $b $c $d)=>`(@xi _ _ _ _ _ _ _ _ $a $b $c $d)
 | `(BA $a $b)=>`(@pw_or _ _ _ _ _ _ _ $a $b)
 | `(BB $a $b $c $d)=>`(@Cw _ _ _ _ _ _ _ _ _ $a $b $c $d (by rfl) (by decide+kernel) (by rfl) (by rfl))
 | `(BC $a $b $c)=>`(@Ag _ _ _ _ _ _ _ _ PassesOwn.never rfl $a $b $c (by intro _;rfl))
 | `(BD $a $b)=>`(@pe_gty _ _ _ _ $a $b (by rfl) (by decide+kernel) (by decide+kernel))
 | `(BE $a $b $c)=>`(@Cn _ _ _ _ _ _ _ _ _ _ _ $a $b $c (by rfl) (by decide+kernel) (by rfl) (by rfl))
 | `(BF $a $b $c $d $e)=>`(@pe_lc _ _ _ _ _ _ _ _ _ _ _ _ _ _ _ $a rfl $b $c $d $e (by intro _;rfl))
 | `(BG $a $b)=>`(@zg _ _ _ _ _ _ rfl $a $b (by rfl))
 | `(BH $a $b $c $d $e $f $g $h)=>`(@Ci _ _ _ _ _ _ _ _ _ _ _ _ _ _ _ $a _ _ _ $b rfl (aa1 rfl) $c rfl $d $e $f $g (by rfl) (by intro _;rfl) $h)
 | `(BI $a $b)=>`(@C5 _ _ _ _ _ $a rfl rfl $b (by decide))
set_option hygiene true
section
variable {P:Program} {w:World} {K:PySem.W.Frag} {mg:Str→Option Value} {base:Heap} {k:Nat} {κ:Cl}
noncomputable abbrev cc:Stmt:=(ir (top 6)).getD 0 (.Pass ⟨0,0,0,0⟩)
theorem jh:ao ["self","row"] ["self","row"] (af cc):=⟨rfl,rfl,rfl,by decide+kernel,rfl,by decide+kernel,by decide+kernel⟩
theorem nq {f:Addr} {fd:FuncData} (G:Gs w K mg κ) (h_row:PySem.W.findIn K (.ref κ.badRow) "row"=some none) (F:Fun K "__init__" "BadRow.__init__" cc f fd):cx P w K mg base CX0 (k+1) f fd ["self","row"] (ax κ.badRow "row"):=by
 refine F.ok jh (λvs H Q E h=>?_) (λcdv A outer s H vs Q E hr h=>?_)
 ·obtain ⟨_,_,rfl,_,_⟩:=h;rfl
 have nd:=jh.nd;obtain ⟨a,v,rfl,ha,q⟩:=h;refine ⟨_,b6 (dk (dh G.er.m_cov G.er.r_cov G.er.t_cov G.er.f_cov (ba (pv 0) (ba (pv 1) dw)))) (dq (dn (pv 0) (pv 1) rfl)),?_⟩;rw[show start ["self","row"] [.ref a,v]=[some (.ref a),some v] from rfl];refine ⟨.ref a,rfl,v,rfl,a,κ.badRow,none,[v],cbm κ,rfl,ha,G.er.x_badRow,(by show 1≤100;decide),v,rfl,.ref a,rfl,a,κ.badRow,true,cbm κ,rfl,G.er.x_badRow,h_row,.inl ⟨ha,λdx hd ne=>q dx hd ne⟩⟩
noncomputable abbrev bz:Stmt:=(ir (top 7)).getD 0 (.Pass ⟨0,0,0,0⟩)
theorem gy:ao ["self","word"] ["self","word"] (af bz):=⟨rfl,rfl,rfl,by decide+kernel,rfl,by decide+kernel,by decide+kernel⟩
theorem mz {f:Addr} {fd:FuncData} (G:Gs w K mg κ) (h_word:PySem.W.findIn K (.ref κ.noValue) "word"=some none) (F:Fun K "__init__" "NoValue.__init__" bz f fd):cx P w K mg base CX0 (k+1) f fd ["self","word"] (ax κ.noValue "word"):=by
 refine F.ok gy (λvs H Q E h=>?_) (λcdv A outer s H vs Q E hr h=>?_)
 ·obtain ⟨_,_,rfl,_,_⟩:=h;rfl
 have nd:=gy.nd;obtain ⟨a,v,rfl,ha,q⟩:=h;refine ⟨_,b6 (dk (dh G.er.m_cov G.er.r_cov G.er.t_cov G.er.f_cov (ba (pv 0) (ba (pv 1) dw)))) (dq (dn (pv 0) (pv 1) rfl)),?_⟩;rw[show start ["self","word"] [.ref a,v]=[some (.ref a),some v] from rfl];refine ⟨.ref a,rfl,v,rfl,a,κ.noValue,none,[v],cbm κ,rfl,ha,G.er.x_noValue,(by show 1≤100;decide),v,rfl,.ref a,rfl,a,κ.noValue,true,cbm κ,rfl,G.er.x_noValue,h_word,.inl ⟨ha,λdx hd ne=>q dx hd ne⟩⟩
noncomputable abbrev cq:Stmt:=(ir (top 8)).getD 0 (.Pass ⟨0,0,0,0⟩)
theorem j5:ao ["self","word"] ["self","word"] (af cq):=⟨rfl,rfl,rfl,by decide+kernel,rfl,by decide+kernel,by decide+kernel⟩
theorem qz {f:Addr} {fd:FuncData} (G:Gs w K mg κ) (h_word:PySem.W.findIn K (.ref κ.twice) "word"=some none) (F:Fun K "__init__" "Twice.__init__" cq f fd):cx P w K mg base CX0 (k+1) f fd ["self","word"] (ax κ.twice "word"):=by
 refine F.ok j5 (λvs H Q E h=>?_) (λcdv A outer s H vs Q E hr h=>?_)
 ·obtain ⟨_,_,rfl,_,_⟩:=h;rfl
 have nd:=j5.nd;obtain ⟨a,v,rfl,ha,q⟩:=h;refine ⟨_,b6 (dk (dh G.er.m_cov G.er.r_cov G.er.t_cov G.er.f_cov (ba (pv 0) (ba (pv 1) dw)))) (dq (dn (pv 0) (pv 1) rfl)),?_⟩;rw[show start ["self","word"] [.ref a,v]=[some (.ref a),some v] from rfl];refine ⟨.ref a,rfl,v,rfl,a,κ.twice,none,[v],cbm κ,rfl,ha,G.er.x_twice,(by show 1≤100;decide),v,rfl,.ref a,rfl,a,κ.twice,true,cbm κ,rfl,G.er.x_twice,h_word,.inl ⟨ha,λdx hd ne=>q dx hd ne⟩⟩
noncomputable abbrev cb:Stmt:=(ir (top 9)).getD 0 (.Pass ⟨0,0,0,0⟩)
theorem i6:ao ["self","word"] ["self","word"] (af cb):=⟨rfl,rfl,rfl,by decide+kernel,rfl,by decide+kernel,by decide+kernel⟩
theorem nj {f:Addr} {fd:FuncData} (G:Gs w K mg κ) (h_word:PySem.W.findIn K (.ref κ.noName) "word"=some none) (F:Fun K "__init__" "NoName.__init__" cb f fd):cx P w K mg base CX0 (k+1) f fd ["self","word"] (ax κ.noName "word"):=by
 refine F.ok i6 (λvs H Q E h=>?_) (λcdv A outer s H vs Q E hr h=>?_)
 ·obtain ⟨_,_,rfl,_,_⟩:=h;rfl
 have nd:=i6.nd;obtain ⟨a,v,rfl,ha,q⟩:=h;refine ⟨_,b6 (dk (dh G.er.m_cov G.er.r_cov G.er.t_cov G.er.f_cov (ba (pv 0) (ba (pv 1) dw)))) (dq (dn (pv 0) (pv 1) rfl)),?_⟩;rw[show start ["self","word"] [.ref a,v]=[some (.ref a),some v] from rfl];refine ⟨.ref a,rfl,v,rfl,a,κ.noName,none,[v],cbm κ,rfl,ha,G.er.x_noName,(by show 1≤100;decide),v,rfl,.ref a,rfl,a,κ.noName,true,cbm κ,rfl,G.er.x_noName,h_word,.inl ⟨ha,λdx hd ne=>q dx hd ne⟩⟩
noncomputable abbrev bp:Stmt:=(ir (top 10)).getD 0 (.Pass ⟨0,0,0,0⟩)
theorem fo:ao ["self","word"] ["self","word"] (af bp):=⟨rfl,rfl,rfl,by decide+kernel,rfl,by decide+kernel,by decide+kernel⟩
theorem j8 {f:Addr} {fd:FuncData} (G:Gs w K mg κ) (h_word:PySem.W.findIn K (.ref κ.badShape) "word"=some none) (F:Fun K "__init__" "BadShape.__init__" bp f fd):cx P w K mg base CX0 (k+1) f fd ["self","word"] (ax κ.badShape "word"):=by
 refine F.ok fo (λvs H Q E h=>?_) (λcdv A outer s H vs Q E hr h=>?_)
 ·obtain ⟨_,_,rfl,_,_⟩:=h;rfl
 have nd:=fo.nd;obtain ⟨a,v,rfl,ha,q⟩:=h;refine ⟨_,b6 (dk (dh G.er.m_cov G.er.r_cov G.er.t_cov G.er.f_cov (ba (pv 0) (ba (pv 1) dw)))) (dq (dn (pv 0) (pv 1) rfl)),?_⟩;rw[show start ["self","word"] [.ref a,v]=[some (.ref a),some v] from rfl];refine ⟨.ref a,rfl,v,rfl,a,κ.badShape,none,[v],cbm κ,rfl,ha,G.er.x_badShape,(by show 1≤100;decide),v,rfl,.ref a,rfl,a,κ.badShape,true,cbm κ,rfl,G.er.x_badShape,h_word,.inl ⟨ha,λdx hd ne=>q dx hd ne⟩⟩
noncomputable abbrev bu:Stmt:=(ir (top 11)).getD 0 (.Pass ⟨0,0,0,0⟩)
theorem gu:ao ["self","word"] ["self","word"] (af bu):=⟨rfl,rfl,rfl,by decide+kernel,rfl,by decide+kernel,by decide+kernel⟩
theorem mf {f:Addr} {fd:FuncData} (G:Gs w K mg κ) (h_word:PySem.W.findIn K (.ref κ.badDeed) "word"=some none) (F:Fun K "__init__" "BadDeed.__init__" bu f fd):cx P w K mg base CX0 (k+1) f fd ["self","word"] (ax κ.badDeed "word"):=by
 refine F.ok gu (λvs H Q E h=>?_) (λcdv A outer s H vs Q E hr h=>?_)
 ·obtain ⟨_,_,rfl,_,_⟩:=h;rfl
 have nd:=gu.nd;obtain ⟨a,v,rfl,ha,q⟩:=h;refine ⟨_,b6 (dk (dh G.er.m_cov G.er.r_cov G.er.t_cov G.er.f_cov (ba (pv 0) (ba (pv 1) dw)))) (dq (dn (pv 0) (pv 1) rfl)),?_⟩;rw[show start ["self","word"] [.ref a,v]=[some (.ref a),some v] from rfl];refine ⟨.ref a,rfl,v,rfl,a,κ.badDeed,none,[v],cbm κ,rfl,ha,G.er.x_badDeed,(by show 1≤100;decide),v,rfl,.ref a,rfl,a,κ.badDeed,true,cbm κ,rfl,G.er.x_badDeed,h_word,.inl ⟨ha,λdx hd ne=>q dx hd ne⟩⟩
noncomputable abbrev bt:Stmt:=(ir (top 12)).getD 0 (.Pass ⟨0,0,0,0⟩)
theorem h7:ao ["self","word","worths","kept"] ["self","word","worths"] (af bt):=⟨rfl,rfl,rfl,by decide+kernel,rfl,by decide+kernel,by decide+kernel⟩
theorem mh {f:Addr} {fd:FuncData} (G:Gs w K mg κ) (h_word:PySem.W.findIn K (.ref κ.unsound) "word"=some none) (h_worths:PySem.W.findIn K (.ref κ.unsound) "worths"=some none) (F:Fun K "__init__" "Unsound.__init__" bt f fd):cx P w K mg base CX0 (k+1) f fd ["self","word","worths"] (ke κ.unsound):=by
 refine F.ok h7 (λvs H Q E h=>?_) (λcdv A outer s H vs Q E hr h=>?_)
 ·obtain ⟨_,_,_,_,rfl,_⟩:=h;rfl
 have nd:=h7.nd;have m_dict:=G.m_dict;obtain ⟨a,d,v,kvs,rfl,ha,hd,q⟩:=h;refine ⟨_,b6 (Aj (i:=3) nd rfl (aa1 rfl) (o9 ji rfl m_dict ux (ba (pv 2) dw))) (b6 (dk (dh G.er.m_cov G.er.r_cov G.er.t_cov G.er.f_cov (ba (pv 0) (ba (pv 1) (ba (pv 3) dw))))) (b6 (dn (pv 0) (pv 1) rfl) (dq (dn (pv 0) (pv 3) rfl)))),?_⟩;rw[show start ["self","word","worths","kept"] [.ref a,v,.ref d]=[some (.ref a),some v,some (.ref d),none] from rfl];refine ⟨.ref d,rfl,d,kvs,rfl,.inl hd,λl hl=>?_⟩;have na:a≠l:=aj ha hl;have ha1:upd H l (.dK kvs) a=some (XO a κ.unsound none true):=by rw[ag na];exact ha
 refine ⟨.ref a,rfl,v,rfl,.ref l,rfl,a,κ.unsound,none,[v,.ref l],cbm κ,rfl,ha1,G.er.x_unsound,(by show 2≤100;decide),v,rfl,.ref a,rfl,a,κ.unsound,true,cbm κ,rfl,G.er.x_unsound,h_word,.inl ⟨ha1,λdx hdx ne=>?_⟩⟩;refine ⟨.ref l,rfl,.ref a,rfl,a,κ.unsound,true,cbm κ,rfl,G.er.x_unsound,h_worths,.inr ⟨dx,_,aa,by rw[ag ne,aa],(by show 1 < 100;decide),?_⟩⟩;have nl:l≠dx:=λz=>by rw[z,aa] at hdx;cases hdx
 refine q l dx _ (λb o hb e=>?_) ?_ aa ?_
 ·have n1:b≠l:=aj e hl;have n2:b≠dx:=λz=>by rw[z] at n1 e;rw[ag n1,e] at hdx;cases hdx
  rw[ag n2,ag hb,ag n2,ag n1];exact e
 ·rw[ag (Ne.symm ne),aa]
 ·rw[ag nl,ag (Ne.symm na),ag nl,aa]
noncomputable abbrev il:Stmt:=top 14
theorem wy:ao ["word","parts"] ["word","parts"] (af il):=⟨rfl,rfl,rfl,by decide+kernel,rfl,by decide+kernel,by decide+kernel⟩
theorem Aq (G:Gs w K mg κ) (D:Def K mg "joined_numbers" il ["word","parts"]):Has P w K mg base (k+1) "joined_numbers" ["word","parts"] km:=by
 refine D.has wy (λvs H Q E h=>?_) (λf cdv A outer s H vs Q E hr h=>?_)
 ·obtain ⟨_,_,_,rfl,_,_,_,_,_⟩:=h;rfl
 have nd:=wy.nd;have hu:=d3 hr;have hu0:=aas hu;obtain ⟨z,pl,xs,rfl,hz,hp,hl,hb,q⟩:=h;refine ⟨_,(A5 (AF (AI (AK 0) (A0 0 (by first | exact aa1 rfl | exact aa0 (aa1 rfl) | exact aa0 (aa0 rfl))) (AA 0) (AE 0)) (A6 (A9 (A3 (AL 0) (A7 (AD 0) (A0 1 (by first | exact aa1 rfl | exact aa0 (aa1 rfl) | exact aa0 (aa0 rfl))) (A2 0)) (A7 (AD 0) (A0 1 (by first | exact aa1 rfl | exact aa0 (aa1 rfl) | exact aa0 (aa0 rfl))) (A2 0))))) (AG 0)) (A5 (AF (AI (AK 0) (A0 0 (by first | exact aa1 rfl | exact aa0 (aa1 rfl) | exact aa0 (aa0 rfl))) (AA 0) (AE 0)) (A6 (A9 (A3 (@vm _) (A7 (AD 0) (A0 1 (by first | exact aa1 rfl | exact aa0 (aa1 rfl) | exact aa0 (aa0 rfl))) (A2 0)) (A7 (AD 0) (A0 1 (by first | exact aa1 rfl | exact aa0 (aa1 rfl) | exact aa0 (aa0 rfl))) (A2 0))))) (AG 0)) (A5 (AF (AI (AK 0) (A0 0 (by first | exact aa1 rfl | exact aa0 (aa1 rfl) | exact aa0 (aa0 rfl))) (AA 0) (AE 0)) (A6 (A9 (A3 (@Dg _) (A7 (AD 0) (A0 1 (by first | exact aa1 rfl | exact aa0 (aa1 rfl) | exact aa0 (aa0 rfl))) (A2 0)) (A7 (AD 0) (A0 1 (by first | exact aa1 rfl | exact aa0 (aa1 rfl) | exact aa0 (aa0 rfl))) (A2 0))))) (AG 0)) (A6 (A9 (@pe_un _ _ _ _ _ _ (@Bo _) (A7 (AD 0) (A0 1 (by first | exact aa1 rfl | exact aa0 (aa1 rfl) | exact aa0 (aa0 rfl))) (A2 0)))))))),?_⟩;rw[show start ["word","parts"] [.str z,.ref pl]=[some (.str z),some (.ref pl)] from rfl];push_cast [and_true];have two:arS z=2→∃a b,xs=[a,b]:=λh2=>by
  rw[h2] at hl;match xs,hl with
  | [a,b],_=>exact ⟨a,b,rfl⟩
 refine ⟨rfl,iy (λe=>?_) λn1=>⟨rfl,iy (λe=>?_) λn2=>⟨rfl,iy (λe=>?_) λn3=>?_⟩⟩⟩
 ·obtain ⟨a,b,rfl⟩:=two (by rw[e];decide+kernel);have q':Q (.int (opN z a b)) H:=q;rw[show opN z a b=a+b from if_pos e] at q';exact ar hp rfl (ar hp rfl ⟨a,rfl,b,rfl,q'⟩)
 ·obtain ⟨a,b,rfl⟩:=two (by rw[e];decide+kernel);have q':Q (.int (opN z a b)) H:=q;rw[show opN z a b=a - b by unfold opN;rw[if_neg n1,if_pos e]] at q';exact ar hp rfl (ar hp rfl ⟨a,rfl,b,rfl,q'⟩)
 ·obtain ⟨a,b,rfl⟩:=two (by rw[e];decide+kernel);have q':Q (.int (opN z a b)) H:=q;rw[show opN z a b=a*b by unfold opN;rw[if_neg n1,if_neg n2,if_pos e]] at q';exact ar hp rfl (ar hp rfl ⟨a,rfl,b,rfl,⟨hb a aa7,hb b (aad _ aa7)⟩,q'⟩)
 ·obtain ⟨a,r,rfl⟩:∃a r,xs=a::r:=List.exists_cons_of_ne_nil (by intro e;rw[e] at hl;simp at hl;omega);have q':Q (.int (opN z a ((a::r).getD 1 0))) H:=q;rw[show opN z a ((a::r).getD 1 0)=-a by unfold opN;rw[if_neg n1,if_neg n2,if_neg n3]] at q';exact ar hp (cy (xs:=(a::r).map V.int) (j:=0) rfl) ⟨a,rfl,q'⟩
noncomputable abbrev iz:Stmt:=top 15
theorem xq:ao ["name","values"] ["name","values"] (af iz):=⟨rfl,rfl,rfl,by decide+kernel,rfl,by decide+kernel,by decide+kernel⟩
theorem Bi (G:Gs w K mg κ) (hi_NoValue:fi P w K mg base 1 κ.noValue ["self","word"] (ax κ.noValue "word")) (hk2:2≤k) (D:Def K mg "value_of" iz ["name","values"]):dz P w K mg base (k+1) "value_of" ["name","values"] (rm κ):=by
 refine D.hasX xq (λvs H Q E h=>?_) (λf cdv A outer s H vs Q E hr h=>?_)
 ·obtain ⟨_,_,_,rfl,_,_⟩:=h;rfl
 have nd:=xq.nd;have hu:=d3 hr;have hu0:=aas hu;obtain ⟨vl,z,kvs,rfl,hV,q⟩:=h;have m_NoValue:=G.er.m_noValue;refine ⟨_,(A5 (AF (@Ap _ _ _ _ _ _ (@o6 _ _ _ _ _ hu (A0 0 (by first | exact aa1 rfl | exact aa0 (aa1 rfl) | exact aa0 (aa0 rfl))) (A0 1 (by first | exact aa1 rfl | exact aa0 (aa1 rfl) | exact aa0 (aa0 rfl)))) (by first | exact nobehind _ (by decide) (by decide) | rfl)) (A6 (@xy _ _ _ _ _ _ _ _ _ _ _ _ _ _ G.er.x_noValue hi_NoValue (hr.mono hk2) (by decide) m_NoValue (A1 (A0 0 (by first | exact aa1 rfl | exact aa0 (aa1 rfl) | exact aa0 (aa0 rfl))) (A4 0)) (by rfl) (by decide+kernel) (by rfl) (by rfl))) (AG 0)) (A6 (A9 (@wo _ _ _ _ _ _ hu (A0 1 (by first | exact aa1 rfl | exact aa0 (aa1 rfl) | exact aa0 (aa0 rfl))) (A0 0 (by first | exact aa1 rfl | exact aa0 (aa1 rfl) | exact aa0 (aa0 rfl))) (λ_ _=>rfl))))),?_⟩;rw[show start ["name","values"] [.str z,.ref vl]=[some (.str z),some (.ref vl)] from rfl];push_cast [and_true];have g:=nk.k (k:=Sum.inr z) hV;refine ⟨_,g,?_⟩;rcases q with ⟨n,hn,q⟩ | ⟨hn,q⟩
 ·rw[hn] at g ⊢;exact iteF ⟨_,g,q⟩
 ·rw[hn];exact iteT (raise1 (v:=.str z) (λQ h=>⟨_,rfl,h⟩) λdx H' hS hd=>q dx H' hS hd)
noncomputable abbrev ml:Stmt:=top 17
theorem Ai:ao ["box","boxes"] ["box","boxes"] (af ml):=⟨rfl,rfl,rfl,by decide+kernel,rfl,by decide+kernel,by decide+kernel⟩
theorem Cy (G:Gs w K mg κ) (D:Def K mg "held_in" ml ["box","boxes"]):dz P w K mg base (k+1) "held_in" ["box","boxes"] (jm κ):=by
 refine D.hasX Ai (λvs H Q E h=>?_) (λf cdv A outer s H vs Q E hr h=>?_)
 ·obtain ⟨_,_,_,rfl,_,_⟩:=h;rfl
 have nd:=Ai.nd;have hu:=d3 hr;have hu0:=aas hu;obtain ⟨bx,x,kvs,rfl,hB,q⟩:=h;have m_NoBox:=G.er.m_noBox;refine ⟨_,(A5 (AF (@Ap _ _ _ _ _ _ (@o6 _ _ _ _ _ hu (A0 0 (by first | exact aa1 rfl | exact aa0 (aa1 rfl) | exact aa0 (aa0 rfl))) (A0 1 (by first | exact aa1 rfl | exact aa0 (aa1 rfl) | exact aa0 (aa0 rfl)))) (by first | exact nobehind _ (by decide) (by decide) | rfl)) (A6 (@xx _ _ _ _ _ _ _ _ _ _ _ _ G.er.x_noBox G.i_NoBox hr m_NoBox (A1 (@Co _ _ _ _ _ _ _ (@pf_c _ _ _ _ _ _ _ (@pf_i _ _ _ _ _ _ _ (A0 0 (by first | exact aa1 rfl | exact aa0 (aa1 rfl) | exact aa0 (aa0 rfl))) (@pf_c _ _ _ _ _ _ _ (@pf_nil _) (by decide+kernel))) (by decide+kernel)) (by decide)) (A4 0)) (by rfl) (by decide+kernel) (by rfl) (by rfl))) (AG 0)) (A6 (A9 (@wo _ _ _ _ _ _ hu (A0 1 (by first | exact aa1 rfl | exact aa0 (aa1 rfl) | exact aa0 (aa0 rfl))) (A0 0 (by first | exact aa1 rfl | exact aa0 (aa1 rfl) | exact aa0 (aa0 rfl))) (λ_ _=>rfl))))),?_⟩;rw[show start ["box","boxes"] [.int x,.ref bx]=[some (.int x),some (.ref bx)] from rfl];push_cast [and_true];have g:=nk.k (k:=Sum.inl x) hB;refine ⟨_,g,?_⟩;rcases q with ⟨n,hn,q⟩ | ⟨hn,hx,q⟩
 ·rw[hn] at g ⊢;exact iteF ⟨_,g,q⟩
 ·rw[hn];exact iteT ⟨_,rfl,x,rfl,log_lt hx,λm=>⟨by show 1≤100;decide,q _ (ah.refl _)⟩⟩
noncomputable abbrev me:Stmt:=top 18
theorem Bc:ao ["row","boxes","values"] ["row","boxes","values"] (af me):=⟨rfl,rfl,rfl,by decide+kernel,rfl,by decide+kernel,by decide+kernel⟩
theorem Dx (G:Gs w K mg κ) (h_held_in:dz P w K mg base k "held_in" ["box","boxes"] (jm κ)) (h_joined_numbers:Has P w K mg base k "joined_numbers" ["word","parts"] km) (h_value_of:dz P w K mg base k "value_of" ["name","values"] (rm κ)) (D:Def K mg "row_number" me ["row","boxes","values"]):dz P w K mg base (k+1) "row_number" ["row","boxes","values"] (kq κ):=by
 refine D.hasX Bc (λvs H Q E h=>?_) (λf cdv A outer s H vs Q E hr h=>?_)
 ·obtain ⟨_,_,_,_,_,_,rfl,_,_,_,_⟩:=h;rfl
 have nd:=Bc.nd;have hu:=d3 hr;have hu0:=aas hu;obtain ⟨t,bx,vl,ts,kvs,vals,rfl,hT,hB,hV,q⟩:=h;refine ⟨_,(A5 (AF (AI (AK 0) (A7 (@eh _) (A0 0 (by first | exact aa1 rfl | exact aa0 (aa1 rfl) | exact aa0 (aa0 rfl))) (A2 0)) (AA 0) (AE 0)) (A6 (A9 (A7 (@eh _) (A0 0 (by first | exact aa1 rfl | exact aa0 (aa1 rfl) | exact aa0 (aa0 rfl))) (A2 0)))) (AG 0)) (A5 (AF (AI (AK 0) (A7 (@eh _) (A0 0 (by first | exact aa1 rfl | exact aa0 (aa1 rfl) | exact aa0 (aa0 rfl))) (A2 0)) (AA 0) (AE 0)) (A6 (A9 (BE h_value_of hr (A1 (A7 (@eh _) (A0 0 (by first | exact aa1 rfl | exact aa0 (aa1 rfl) | exact aa0 (aa0 rfl))) (A2 0)) (A1 (A0 2 (by first | exact aa1 rfl | exact aa0 (aa1 rfl) | exact aa0 (aa0 rfl))) (A4 0)))))) (AG 0)) (A6 (A9 (AN h_joined_numbers hr (A1 (A7 (@eh _) (A0 0 (by first | exact aa1 rfl | exact aa0 (aa1 rfl) | exact aa0 (aa0 rfl))) (A2 0)) (A1 (@pe_lcX _ _ _ _ _ _ _ _ _ _ _ _ _ _ _ _ ve (AX ["box"] ["boxes"] [1] (aac rfl trivial) (aac (aac rfl (aac rfl rfl)) trivial)) rfl (@pi_tup _ _ _ _ (AR (@Ey _) (A0 0 (by first | exact aa1 rfl | exact aa0 (aa1 rfl) | exact aa0 (aa0 rfl))) (AS (A2 0)) (AT 0))) (λ_ _ _=>(AY 0 (show ac3 (["box","boxes"]:List Str) by decide+kernel) (by first | exact .inl rfl | exact .inr rfl | assumption))) (λ_ _ _=>(@pif0 _)) (λ_ _ _=>(BE h_held_in hr (A1 (A0 0 (by first | exact aa1 rfl | exact aa0 (aa1 rfl) | exact aa0 (aa0 rfl))) (A1 (A0 1 (by first | exact aa1 rfl | exact aa0 (aa1 rfl) | exact aa0 (aa0 rfl))) (A4 0))))) (by intro _;rfl)) (A4 0)))))))),?_⟩;rw[show start ["row","boxes","values"] [.ref t,.ref bx,.ref vl]=[some (.ref t),some (.ref bx),some (.ref vl)] from rfl];push_cast [jm,km,rm];have sz:=sizeLine_eq;have nput:∀z:Str,0 < arS z→z≠"put"∧z≠"load":=λz h=>⟨λe=>by rw[e] at h;exact absurd h (by decide+kernel),λe=>by rw[e] at h;exact absurd h (by decide+kernel)⟩;have ng:(Str.ofString "neg")=("neg":Str):=rfl;have cs:(∃b n:Int,ts=[.str "put",.int b,.int n]∧Q (.int n) H)∨(∃(b:Int) (z:Str),ts=[.str "load",.int b,.str z]∧((∃n:Int,av vals (Sum.inr z)=some (.int n)∧Q (.int n) H)∨(av vals (Sum.inr z)=none∧g8 κ E H (some z))))∨
   ∃(z:Str) (b:Int) (xs:List Int),ts=.str z::.int b::xs.map V.int∧0 < arS z∧xs.length=arS z∧(∀(i:Nat) (x:Int),xs[i]?=some x→(∀(j:Nat) (y:Int),j < i→xs[j]?=some y→∃m:Int,av kvs (Sum.inl y)=some (.int m))→(∃m:Int,av kvs (Sum.inl x)=some (.int m))∨(av kvs (Sum.inl x)=none∧x.natAbs < 10 ^ 50∧g8 κ E H none))∧
   (∀ms:List Int,ms.length=xs.length→(∀(i:Nat) (x:Int),xs[i]?=some x→∃m:Int,ms[i]?=some m∧av kvs (Sum.inl x)=some (.int m))→(∀m∈ms,dy m)∧∀H',ah H H'→Q (.int (opN z (ms.getD 0 0) (ms.getD 1 0))) H'):=by
  have e1:∀(x:Int) (i:Nat) (y:Int),([x]:List Int)[i]?=some y→i=0∧y=x:=λx i y h=>by
   match i,h with
   | 0,h=>exact ⟨rfl,(aa9 h).symm⟩
  have e2:∀(x1 x2:Int) (i:Nat) (y:Int),([x1,x2]:List Int)[i]?=some y→(i=0∧y=x1)∨(i=1∧y=x2):=λx1 x2 i y h=>by
   match i,h with
   | 0,h=>exact .inl ⟨rfl,(aa9 h).symm⟩
   | 1,h=>exact .inr ⟨rfl,(aa9 h).symm⟩
  rcases q with ⟨b0,n0,hR,q⟩ | ⟨f,hR,q⟩
  ·cases hR with
   | put _ _=>exact .inl ⟨b0,n0,rfl,q _ (ah.refl _)⟩
   | load _ z _ h=>exact .inr (.inl ⟨b0,z,rfl,.inl ⟨n0,h,q _ (ah.refl _)⟩⟩)
   | neg _ x m h b1=>
    refine .inr (.inr ⟨"neg",b0,[x],rfl,by decide+kernel,by rw[show arS "neg"=1 from Bt];rfl,λi y hy _=>.inl ⟨m,by rw[(e1 _ _ _ hy).2];exact h⟩,λms hl hm=>?_⟩);obtain ⟨m',h1,h2⟩:=hm 0 x rfl;rw[h] at h2;cases h2
    match ms,hl,h1 with
    | [a],_,h1=>
     cases aa9 h1
     have e:opN "neg" m 0=-m:=by
      unfold opN;rw[if_neg (by decide+kernel),if_neg (by decide+kernel),if_neg (by decide+kernel)]
     refine ⟨λy hy=>by rw[List.mem_singleton.mp hy];exact b1,λH' s=>?_⟩;show Q (.int (opN "neg" m 0)) H'
     rw[e];exact q H' s
   | bin z _ x y m n hz h1 h2 b1 b2=>
    refine .inr (.inr ⟨z,b0,[x,y],rfl,by omega,by rw[hz];rfl,λi u hu _=>.inl ?_,λms hl hm=>?_⟩)
    ·rcases e2 _ _ _ _ hu with ⟨_,rfl⟩ | ⟨_,rfl⟩
     ·exact ⟨m,h1⟩
     ·exact ⟨n,h2⟩
    ·obtain ⟨m',k1,k2⟩:=hm 0 x rfl;obtain ⟨n',j1,j2⟩:=hm 1 y rfl;rw[h1] at k2;rw[h2] at j2;cases k2
     cases j2
     match ms,hl,k1,j1 with
     | [a,c],_,k1,j1=>
      cases aa9 k1
      cases aa9 j1
      refine ⟨λu hu=>?_,q⟩;rcases List.mem_cons.mp hu with e | e
      ·rw[e];exact b1
      ·rw[List.mem_singleton.mp e];exact b2
  ·cases hR with
   | load b z h=>exact .inr (.inl ⟨b,z,rfl,.inr ⟨h,q⟩⟩)
   | neg b x hx h=>
    refine .inr (.inr ⟨"neg",b,[x],rfl,by decide+kernel,by rw[show arS "neg"=1 from Bt];rfl,λi y hy _=>.inr (by rw[(e1 _ _ _ hy).2];exact ⟨h,hx,q⟩),λms hl hm=>?_⟩);obtain ⟨m',h1,h2⟩:=hm 0 x rfl;rw[h] at h2;cases h2
   | bin z b x y hz hx hy h=>
    refine .inr (.inr ⟨z,b,[x,y],rfl,by omega,by rw[hz];rfl,λi u hu hbf=>?_,λms hl hm=>?_⟩)
    ·rcases e2 _ _ _ _ hu with ⟨rfl,rfl⟩ | ⟨rfl,rfl⟩
     ·rcases h with h | ⟨m,h,_⟩
      ·exact .inr ⟨h,hx,q⟩
      ·exact .inl ⟨m,h⟩
     ·obtain ⟨m,hm⟩:=hbf 0 x (by decide) rfl;rcases h with h | ⟨m,_,h⟩
      ·rw[h] at hm;cases hm
      ·exact .inr ⟨h,hy,q⟩
    ·obtain ⟨m',k1,k2⟩:=hm 0 x rfl;obtain ⟨n',j1,j2⟩:=hm 1 y rfl;rcases h with h | ⟨m,_,h⟩
     ·rw[h] at k2;cases k2
     ·rw[h] at j2;cases j2
 clear q;rcases cs with ⟨b,n,rfl,q⟩ | ⟨b,z,rfl,q⟩ | ⟨z,b,xs,rfl,ha,hl,hv,hq⟩
 ·refine bw hT rfl ⟨rfl,?_⟩;rw[if_pos rfl];exact bw hT rfl q
 ·refine bw hT rfl ⟨rfl,?_⟩;rw[if_neg (by decide+kernel)];refine bw hT rfl ⟨rfl,?_⟩;rw[if_pos rfl];exact bw hT rfl ⟨vl,z,rfl,rfl,vals,hV,q⟩
 ·have al:arS z≤2:=arS_le z;obtain ⟨n1,n2⟩:=nput z ha;have a0:atI (V.str z::V.int b::xs.map V.int) 0=some (V.str z):=cy (j:=0) rfl;refine bw hT a0 ⟨rfl,?_⟩;rw[if_neg (λe=>n1 (V.str.inj e))];refine bw hT a0 ⟨rfl,?_⟩;rw[if_neg (λe=>n2 (V.str.inj e))];refine bw hT a0 (C7 hT λp H1 s1 h1=>⟨p,rfl,⟨_,SqT.of h1⟩,λD hD=>?_⟩);have h1:H1 p=some (.tup (xs.map V.int)):=by
   rw[h1];match xs,hl with
   | [],_=>rfl
   | [x],_=>rfl
   | [x,y],_=>rfl
   | x::y::w::r,hl=>rw[aai,aai,aai] at hl;omega
  refine lc_tup (λi ys=>∃ms:List Int,ys=ms.map V.int∧ms.length=i∧∀(j:Nat) (y:Int),j < i→xs[j]?=some y→∃m:Int,ms[j]?=some m∧av kvs (Sum.inl y)=some (.int m)) (SqT.of h1) (by rw[aa2];omega) hD ⟨[],rfl,rfl,λj y h=>absurd h (abx _)⟩ (λi y ys H2 G' K' hy hP hl2 hS hG hK=>?_) λys H2 hP hl2 hS hD2=>?_
  ·rw[aag] at hy;obtain ⟨x,hx,rfl⟩:=Option.map_eq_some_iff.mp hy;obtain ⟨ms,rfl,hml,hmv⟩:=hP;push_cast [jm];refine ⟨kvs,hS _ _ (s1 _ _ hB),?_⟩;rcases hv i x hx (λj y hj hy=>let ⟨m,_,h⟩:=hmv j y hj hy;⟨m,h⟩) with ⟨m,hm⟩ | ⟨hm,hb,hf⟩
   ·refine .inl ⟨m,hm,hK _ _ (ah.refl _) ⟨ms++[m],by rw[aat];rfl,by rw[aa8,hml];rfl,λj y hj hyy=>?_⟩⟩;rcases acd j i with h | h
    ·obtain ⟨m',h1,h2⟩:=hmv j y h hyy;exact ⟨m',by rw[aal (by omega)];exact h1,h2⟩
    ·have e:j=i:=by omega
     subst e;rw[hx] at hyy;rw[←aa9 hyy];exact ⟨m,by rw[aaj (by omega),hml,abo];rfl,hm⟩
   ·exact .inr ⟨hm,hb,hf.same (s1.trans hS)⟩
  ·obtain ⟨ms,rfl,hml,hmv⟩:=hP;rw[aa2] at hml;obtain ⟨hb,hq⟩:=hq ms hml λi x hx=>hmv i x (by rw[aa2];exact (List.getElem?_eq_some_iff.mp hx).1) hx;exact ⟨z,rfl,ha,ms,hD2,by omega,hb,hq _ (s1.trans hS)⟩
noncomputable abbrev vk:Stmt:=top 19
theorem scRun:ao ["rows","values","boxes","row"] ["rows","values"] (af vk):=⟨rfl,rfl,rfl,by decide+kernel,rfl,by decide+kernel,by decide+kernel⟩
theorem hasRun (G:Gs w K mg κ) (h_row_number:dz P w K mg base k "row_number" ["row","boxes","values"] (kq κ)) (D:Def K mg "run" vk ["rows","values"]):dz P w K mg base (k+1) "run" ["rows","values"] (ig K κ):=by
 refine D.hasX scRun (λvs H Q E h=>?_) (λf cdv A outer s H vs Q E hr h=>?_)
 ·obtain ⟨_,_,_,_,_,_,rfl,_,_,_,_,_,_⟩:=h;rfl
 have nd:=scRun.nd;have hu:=d3 hr;have hu0:=aas hu;obtain ⟨l,vl,rs,ts,fs,vals,rfl,hL,hl,hI,hV,hR,q⟩:=h;refine ⟨_,(A5 (A8 2 nd (by first | exact aa1 rfl | exact aa0 rfl) (@Bk _ _) (by first | exact .inl rfl | exact .inr rfl | assumption)) (A5 (@Ag _ _ _ _ _ _ _ _ (@Az _ _ ve) rfl (AW (A0 0 (by first | exact aa1 rfl | exact aa0 (aa1 rfl) | exact aa0 (aa0 rfl)))) (B7 3 nd (by first | exact aa1 rfl | exact aa0 rfl) (by first | exact .inl rfl | exact .inr rfl | assumption)) (A6 (@Eo _ _ _ _ _ _ _ _ _ hu (A0 2 (by first | exact aa1 rfl | exact aa0 (aa1 rfl) | exact aa0 (aa0 rfl))) (A7 (@eh _) (A0 3 (by first | exact aa1 rfl | exact aa0 (aa1 rfl) | exact aa0 (aa0 rfl))) (A2 0)) (BE h_row_number hr (A1 (A0 3 (by first | exact aa1 rfl | exact aa0 (aa1 rfl) | exact aa0 (aa0 rfl))) (A1 (A0 2 (by first | exact aa1 rfl | exact aa0 (aa1 rfl) | exact aa0 (aa0 rfl))) (A1 (A0 1 (by first | exact aa1 rfl | exact aa0 (aa1 rfl) | exact aa0 (aa0 rfl))) (A4 0))))) rfl)) (by intro _;rfl)) (A6 (A9 (A0 2 (by first | exact aa1 rfl | exact aa0 (aa1 rfl) | exact aa0 (aa0 rfl))))))),?_⟩;rw[show start ["rows","values","boxes","row"] [.ref l,.ref vl]=[some (.ref l),some (.ref vl),none,none] from rfl];push_cast [kq];have sz:=sizeLine_eq;intro d hd;have fl:fs.length≤ts.length:=by
  rcases q with ⟨h,_⟩ | ⟨t,f,h,_⟩
  ·omega
  ·exact abb (List.getElem?_eq_some_iff.mp h).1
 refine ⟨⟨rs,(ae hd _).seq hL⟩,gg (xs:=rs) (λi σ H'=>∃v,σ=[some (.ref l),some (.ref vl),some (.ref d),v]∧ah H H'∧H' d=some (.dK (bf (fs.take i)))∧i≤fs.length) ⟨none,rfl,ae hd _,aa,ab0 _⟩ (λi σ H' _ h=>?_) ?_ ?_⟩
 ·obtain ⟨_,_,s1,_⟩:=h;exact s1.seq hL
 ·rintro i x σ H' hx ⟨v,rfl,s1,hD,hif⟩;push_cast [kq];have hi:=(List.getElem?_eq_some_iff.mp hx).1;obtain ⟨a,ha,hta⟩:=hI.2 i (ts[i]'(by rw[←hI.1];exact hi)) (aa4 _);rw[hx] at ha;cases ha
  have lb:=n6 (fs.take i);rw[aaf] at lb;refine ⟨a,rfl,_,s1 _ _ hta,_,hD,vals,s1 _ _ hV,?_⟩;rcases Nat.lt_or_eq_of_le hif with hlt | heq
  ·obtain ⟨t,ht,hrow⟩:=hR.2 i fs[i] (aa4 hlt);rw[ab4 hlt,aa4 (by omega)] at ht;cases ht
   refine .inl ⟨_,_,hrow,λH2 s2=>bw (s2 _ _ (s1 _ _ hta)) hrow.at1 ⟨_,DPut.k (k:=Sum.inl fs[i].1) (s2 _ _ hD) (by omega),(s1.trans s2).upd hd _,?_,hlt⟩⟩;rw[aa,ac5,aa4 hlt];show some (HO.dK (putK (bf (fs.take i)) (Sum.inl fs[i].1) (.int fs[i].2)))=some (HO.dK (bf (fs.take i++[(fs[i].1,fs[i].2)])))
   rw[lz]
  ·subst heq;have hr1:=hI.1;rcases q with ⟨h,_⟩ | ⟨t,f,h,hbad,q⟩
   ·omega
   ·rw[aa4 (by omega)] at h;cases h
    rw[abd];exact .inr ⟨f,hbad,q.same s1⟩
 ·rintro σ H' ⟨v,rfl,s1,hD,hif⟩;rcases q with ⟨h,q⟩ | ⟨t,f,h,_⟩
  ·have e:fs.take rs.length=fs:=by rw[hI.1,←h,abd]
   rw[e] at hD;exact ⟨_,rfl,q d H' s1 hd hD⟩
  ·have:=(List.getElem?_eq_some_iff.mp h).1;have:=hI.1;omega
noncomputable abbrev ly:Stmt:=top 21
theorem zt:ao ["script","k"] ["script","k"] (af ly):=⟨rfl,rfl,rfl,by decide+kernel,rfl,by decide+kernel,by decide+kernel⟩
theorem Ee (G:Gs w K mg κ) (D:Def K mg "_law_cell_at" ly ["script","k"]):Has P w K mg base (k+1) "_law_cell_at" ["script","k"] (fu K):=by
 refine D.has zt (λvs H Q E h=>?_) (λf cdv A outer s H vs Q E hr h=>?_)
 ·obtain ⟨_,_,_,rfl,_,_,_⟩:=h;rfl
 have nd:=zt.nd;have hu:=d3 hr;have hu0:=aas hu;obtain ⟨a,ns,k,rfl,hL,hl,q⟩:=h;have m_len:=G.m_len;refine ⟨_,(A5 (AF (AI (@op_lt _) (A0 1 (by first | exact aa1 rfl | exact aa0 (aa1 rfl) | exact aa0 (aa0 rfl))) (AJ (AV 0) m_len i4 (A1 (A0 0 (by first | exact aa1 rfl | exact aa0 (aa1 rfl) | exact aa0 (aa0 rfl))) (A4 0))) (AE 0)) (A6 (A9 (A7 (AD 0) (A0 0 (by first | exact aa1 rfl | exact aa0 (aa1 rfl) | exact aa0 (aa0 rfl))) (A0 1 (by first | exact aa1 rfl | exact aa0 (aa1 rfl) | exact aa0 (aa0 rfl)))))) (AG 0)) (A6 (A9 (A2 0)))),?_⟩;rw[show start ["script","k"] [.ref a,.int (k:Int)]=[some (.ref a),some (.int (k:Int))] from rfl];push_cast [and_true];refine ⟨ns.map V.int,.inl hL,iy (λc=>?_) λ_=>q 0⟩;rw[aa2] at c;have hk:k < ns.length:=by omega
 exact ⟨a,_,_,_,rfl,rfl,hL,cy (by rw[aag,aa4 hk];rfl),q _⟩
noncomputable abbrev iu:Stmt:=top 22
theorem xr:ao ["cell","letters","first","other","rest","size","at","base","names","kept"] ["cell"] (af iu):=⟨rfl,rfl,rfl,by decide+kernel,rfl,by decide+kernel,by decide+kernel⟩
theorem Cj (G:Gs w K mg κ) (D:Def K mg "_law_names" iu ["cell"]):Has P w K mg base (k+1) "_law_names" ["cell"] gf:=by
 refine D.has xr (λvs H Q E h=>?_) (λf cdv A outer s H vs Q E hr h=>?_)
 ·obtain ⟨_,rfl,_⟩:=h;rfl
 have nd:=xr.nd;have hu:=d3 hr;have hu0:=aas hu;obtain ⟨c,rfl,q⟩:=h;have m_int:=G.m_int;have m_range:=G.m_range;refine ⟨_,(A5 (A8 1 nd (by first | exact aa1 rfl | exact aa0 rfl) (AA 0) (by first | exact .inl rfl | exact .inr rfl | assumption)) (A5 (A8 2 nd (by first | exact aa1 rfl | exact aa0 rfl) (A7 (@qe _) (A0 1 (by first | exact aa1 rfl | exact aa0 (aa1 rfl) | exact aa0 (aa0 rfl))) (A3 (AB 0) (A0 0 (by first | exact aa1 rfl | exact aa0 (aa1 rfl) | exact aa0 (aa0 rfl))) (A2 0))) (by first | exact .inl rfl | exact .inr rfl | assumption)) (A5 (A8 3 nd (by first | exact aa1 rfl | exact aa0 rfl) (A7 (@qe _) (A0 1 (by first | exact aa1 rfl | exact aa0 (aa1 rfl) | exact aa0 (aa0 rfl))) (A3 (AB 0) (A3 (AL 0) (A3 (AL 0) (A0 0 (by first | exact aa1 rfl | exact aa0 (aa1 rfl) | exact aa0 (aa0 rfl))) (A2 0)) (A3 (AB 0) (A3 (AH 0) (A0 0 (by first | exact aa1 rfl | exact aa0 (aa1 rfl) | exact aa0 (aa0 rfl))) (A2 0)) (A2 0))) (A2 0))) (by first | exact .inl rfl | exact .inr rfl | assumption)) (A5 (A8 4 nd (by first | exact aa1 rfl | exact aa0 rfl) (A3 (AH 0) (A0 0 (by first | exact aa1 rfl | exact aa0 (aa1 rfl) | exact aa0 (aa0 rfl))) (A2 0)) (by first | exact .inl rfl | exact .inr rfl | assumption)) (A5 (AF (AI (AK 0) (A3 (AB 0) (A0 4 (by first | exact aa1 rfl | exact aa0 (aa1 rfl) | exact aa0 (aa0 rfl))) (A2 0)) (A2 0) (AE 0)) (A6 (A9 (AM (B1 (AC (AC (AC (AC (AC (AC (AC (AC (AC (AC (AC (AC (AC (@je.nil)))))))))))))))))) (AG 0)) (A5 (A8 5 nd (by first | exact aa1 rfl | exact aa0 rfl) (A3 (AB 0) (A3 (AH 0) (A0 4 (by first | exact aa1 rfl | exact aa0 (aa1 rfl) | exact aa0 (aa0 rfl))) (A2 0)) (A2 0)) (by first | exact .inl rfl | exact .inr rfl | assumption)) (A5 (A8 6 nd (by first | exact aa1 rfl | exact aa0 rfl) (A3 (AB 0) (A3 (AH 0) (A0 4 (by first | exact aa1 rfl | exact aa0 (aa1 rfl) | exact aa0 (aa0 rfl))) (A2 0)) (A3 (AL 0) (A0 5 (by first | exact aa1 rfl | exact aa0 (aa1 rfl) | exact aa0 (aa0 rfl))) (A2 0))) (by first | exact .inl rfl | exact .inr rfl | assumption)) (A5 (A8 7 nd (by first | exact aa1 rfl | exact aa0 rfl) (@pe_bm _ _ _ _ _ _ _ _ _ _ _ _ PySem.F.plainAttrs_str PySem.F.slot_str_join PySem.F.type_str_join (@Dz _) (AA 0) (A1 (BF (AX ["k"] ["first","other","letters","rest"] [2,3,1,4] (aac rfl (aac rfl (aac rfl (aac rfl trivial)))) (aac (aac rfl (aac rfl rfl)) (aac (aac rfl (aac rfl rfl)) (aac (aac rfl (aac rfl rfl)) (aac (aac rfl (aac rfl rfl)) trivial))))) (BG m_range (A1 (A0 5 (by first | exact aa1 rfl | exact aa0 (aa1 rfl) | exact aa0 (aa0 rfl))) (A4 0))) (λ_ _ _=>(AY 0 (show ac3 (["k","first","other","letters","rest"]:List Str) by decide+kernel) (by first | exact .inl rfl | exact .inr rfl | assumption))) (λ_ _ _=>(@pif0 _)) (λ_ _ _=>(A7 (@sd _ K rfl) (AM (A1 (A0 1 (by first | exact aa1 rfl | exact aa0 (aa1 rfl) | exact aa0 (aa0 rfl))) (A1 (A0 2 (by first | exact aa1 rfl | exact aa0 (aa1 rfl) | exact aa0 (aa0 rfl))) (A1 (A7 (@qe _) (A0 3 (by first | exact aa1 rfl | exact aa0 (aa1 rfl) | exact aa0 (aa0 rfl))) (A3 (AB 0) (A3 (AH 0) (A0 4 (by first | exact aa1 rfl | exact aa0 (aa1 rfl) | exact aa0 (aa0 rfl))) (A2 0)) (A2 0))) (A4 0))))) (A3 (AB 0) (A3 (@lu _) (A0 0 (by first | exact aa1 rfl | exact aa0 (aa1 rfl) | exact aa0 (aa0 rfl))) (A3 (AL 0) (A2 0) (A3 (AH 0) (A0 4 (by first | exact aa1 rfl | exact aa0 (aa1 rfl) | exact aa0 (aa0 rfl))) (A2 0)))) (A2 0))))) (A4 0)) (by rfl) (by rfl) (by rfl) (by rfl) (by rfl)) (by first | exact .inl rfl | exact .inr rfl | assumption)) (A5 (BH 8 nd (AX ["k"] ["base","at","letters","cell"] [7,6,1,0] (aac rfl (aac rfl (aac rfl (aac rfl trivial)))) (aac (aac rfl (aac rfl rfl)) (aac (aac rfl (aac rfl rfl)) (aac (aac rfl (aac rfl rfl)) (aac (aac rfl (aac rfl rfl)) trivial))))) (BG m_range (A1 (A2 0) (A4 0))) (λ_ _ _=>(AY 0 (show ac3 (["k","base","at","letters","cell"]:List Str) by decide+kernel) (by first | exact .inl rfl | exact .inr rfl | assumption))) (λ_ _ _=>(@pif0 _)) (λ_ _ _=>(A3 (@ij _) (A3 (@ij _) (AR (@zy _) (A0 1 (by first | exact aa1 rfl | exact aa0 (aa1 rfl) | exact aa0 (aa0 rfl))) (AT 0) (AS (A0 2 (by first | exact aa1 rfl | exact aa0 (aa1 rfl) | exact aa0 (aa0 rfl))))) (A7 (@qe _) (A0 3 (by first | exact aa1 rfl | exact aa0 (aa1 rfl) | exact aa0 (aa0 rfl))) (A3 (AB 0) (A3 (AL 0) (A3 (AH 0) (A0 4 (by first | exact aa1 rfl | exact aa0 (aa1 rfl) | exact aa0 (aa0 rfl))) (A2 0)) (A0 0 (by first | exact aa1 rfl | exact aa0 (aa1 rfl) | exact aa0 (aa0 rfl)))) (A2 0)))) (AR (@zy _) (A0 1 (by first | exact aa1 rfl | exact aa0 (aa1 rfl) | exact aa0 (aa0 rfl))) (AS (A0 2 (by first | exact aa1 rfl | exact aa0 (aa1 rfl) | exact aa0 (aa0 rfl)))) (AT 0)))) (by first | exact .inl rfl | exact .inr rfl | assumption)) (A5 (A8 9 nd (by first | exact aa1 rfl | exact aa0 rfl) (AM (B1 (AC (AC (AC (AC (AC (AC (AC (AC (AC (@je.nil)))))))))))) (by first | exact .inl rfl | exact .inr rfl | assumption)) (A6 (A9 (BF (AX ["name"] ["kept"] [9] (aac rfl trivial) (aac (aac rfl (aac rfl rfl)) trivial)) (AW (A0 8 (by first | exact aa1 rfl | exact aa0 (aa1 rfl) | exact aa0 (aa0 rfl)))) (λ_ _ _=>(AY 0 (show ac3 (["name","kept"]:List Str) by decide+kernel) (by first | exact .inl rfl | exact .inr rfl | assumption))) (λ_ _ _=>(@pif0 _)) (λ_ _ _=>(A3 (@ij _) (A0 0 (by first | exact aa1 rfl | exact aa0 (aa1 rfl) | exact aa0 (aa0 rfl))) (A3 (@um _) (AA 0) (B2 (@yx _) m_int b_int (A1 (@xi _ _ _ _ _ _ _ _ (@u6 _ K rfl) (A0 0 (by first | exact aa1 rfl | exact aa0 (aa1 rfl) | exact aa0 (aa0 rfl))) (A0 1 (by first | exact aa1 rfl | exact aa0 (aa1 rfl) | exact aa0 (aa0 rfl))) (by with_unfolding_all rfl)) (A4 0))))))))))))))))))),?_⟩;rw[show start ["cell","letters","first","other","rest","size","at","base","names","kept"] [.int c]=[some (.int c),none,none,none,none,none,none,none,none,none] from rfl];push_cast [and_true];have sz:=sizeLine_eq;obtain ⟨c1,h1,l1⟩:=qb c;obtain ⟨c2,h2,l2⟩:=qb (c+1+c / 26 % 25);have ll:(Str.ofString "abcdefghijklmnopqrstuvwxyz").length≤sizeLine:=by decide+kernel
 have la:∀a b:Str,(a++b).length=a.length+b.length:=λa b=>Array.size_append;have one:∀x:Nat,(⟨#[x]⟩:Str).length≤1000:=λx=>by rw[qt];decide
 refine ⟨_,_,_,rfl,rfl,ll,h1,_,_,_,rfl,rfl,ll,h2,rfl,iy (λ_=>?_) λ_=>?_⟩
 ·refine ⟨by show (13:Nat)≤sizeLine;decide,λp hp=>?_⟩;exact q p _ ["d","a","abc","b","kin","ab","kinds","c","ba","kind","zz","aa","e"] rfl (by decide+kernel) (ae hp _) aa
 ·have b0:0≤c / 650 / 4 % 8:=aao _ (by decide);have b1:c / 650 / 4 % 8 < 8:=aaz _ (by decide);refine ⟨by omega,by omega,by omega,λD hD=>?_⟩;refine ud (λi ys=>∃zs:List Str,ys=zs.map V.str∧zs.length=i∧∀z∈zs,z.length=1) (by omega) hD ⟨[],rfl,rfl,λ_ h=>nomatch h⟩ (λi ys H1 G' K' hi hP hl2 hS1 hG hK=>?_) λys H2 hP hl2 hS1 hD2=>?_
  ·push_cast [rIxS];obtain ⟨x,hx,_⟩:=let_at (c / 650 / 256);obtain ⟨v,hv,hm⟩:=iw [V.str ⟨#[97+c1]⟩,V.str ⟨#[97+c2]⟩,V.str ⟨#[97+x]⟩] ((0+(i:Int))*(1+c / 650 / 6656) % 3) (aao _ (by decide)) (aaz _ (by decide));refine ⟨ll,97+x,hx,by show (3:Nat)≤sizeLine;decide,λp hp=>⟨.inl ⟨by omega,by omega⟩,ar aa hv ?_⟩⟩;obtain ⟨zs,rfl,hz,hz1⟩:=hP;obtain ⟨y,rfl⟩:∃y:Nat,v=.str ⟨#[y]⟩:=by
    simp only[aav,aam,or_false] at hm;rcases hm with rfl | rfl | rfl <;> exact ⟨_,rfl⟩
   refine hK _ _ (ae hp _) ⟨zs++[⟨#[y]⟩],by rw[aat];rfl,by rw[aa8,hz];rfl,λz hz'=>?_⟩;rcases List.mem_append.mp hz' with m | m
   ·exact hz1 z m
   ·rw[List.mem_singleton.mp m];rfl
  ·obtain ⟨zs,rfl,hz,hz1⟩:=hP;have hsum:(zs.map λx=>x.length).sum≤8:=by
    have:∀l:List Str,(∀z∈l,z.length=1)→(l.map λx=>x.length).sum=l.length:=by
     intro l;induction l with
     | nil=>exact λ_=>rfl
     | cons a r ih=>
      intro h;rw[aan,List.sum_cons,ih λz hz=>h z (aad _ hz),h a aa7,aai];omega
    rw[this zs hz1];omega
   have e0:(Str.ofString "").length=0:=by decide+kernel
   have jl:=join_le (Str.ofString "") zs;rw[e0,Nat.mul_zero,Nat.add_zero] at jl;refine ⟨zs,SqL.of hD2,by rw[e0,Nat.mul_zero,Nat.add_zero];omega,λl hl=>?_⟩;generalize eA:wb (Txt.join (Str.ofString "") zs) none (some (c / 650 / 32 % (c / 650 / 4 % 8+1)))=A;generalize eB:wb (Txt.join (Str.ofString "") zs) (some (c / 650 / 32 % (c / 650 / 4 % 8+1))) none=B;have k1:=qy (Txt.join (Str.ofString "") zs) none (some (c / 650 / 32 % (c / 650 / 4 % 8+1)));have k2:=qy (Txt.join (Str.ofString "") zs) (some (c / 650 / 32 % (c / 650 / 4 % 8+1))) none;rw[eA] at k1;rw[eB] at k2;refine ud (λi ys=>ys=((aaq i).map (nmK A B c)).map V.str) (by show (13:Nat) < sizeLine;rw[sz];decide) hl rfl (λi ys H3 G' K' hi hP hl2 hS3 hG hK=>?_) λys H4 hP hl2 hS4 hD4=>?_
   ·push_cast [rIxS];obtain ⟨x,hx,ex⟩:=qb (c / 7+(0+(i:Int)));have k3:=qt (97+x);rw[eA,eB];refine ⟨by omega,ll,97+x,hx,by omega,by omega,by rw[la];omega,hK _ _ (ah.refl _) ?_⟩;rw[hP,List.range_succ,aat,aat];congr 1
    show [V.str ((A++⟨#[97+x]⟩)++B)]=[V.str (nmK A B c i)]
    unfold nmK;rw[show ((c / 7+(i:Int)) % 26).toNat=x by omega]
   ·have ew:ys=((aaq 13).map (nmK A B c)).map V.str:=hP;have hw1:∀z∈(aaq 13).map (nmK A B c),z.length≤18:=λz hz=>by
     obtain ⟨k,_,rfl⟩:=List.mem_map.mp hz;have:=qt (97+((c / 7+(k:Int)) % 26).toNat);unfold nmK;rw[la,la];omega
    have hw:((aaq 13).map (nmK A B c)).length=13:=by rw[aa2,aau]
    have nnd:=nm_nd A B c;generalize (aaq 13).map (nmK A B c)=ws at ew hw1 hw nnd;subst ew;refine ⟨by show (9:Nat)≤sizeLine;decide,λp hp=>⟨⟨_,SqL.of (ae hp _ _ _ hD4)⟩,λD5 hD5=>?_⟩⟩;refine kd (λi ys=>ys=((ws.take i).map xK).map V.str) (SqL.of (ae hp _ _ _ hD4)) (by rw[aa2];omega) hD5 rfl (λi y ys H6 G' K' hy hP hl2 hS6 hG hK=>?_) λys H7 hP hl2 hS7 hD7=>?_
    ·rw[aag] at hy;obtain ⟨z,hz',rfl⟩:=Option.map_eq_some_iff.mp hy;push_cast [rIn];have hp6:H6 p=some (.lst j6):=hS6 _ _ aa;have kx:=kept_x (hw1 z (abf hz'));refine ⟨j6,.inl (SqL.of hp6),rfl,rfl,by split <;> decide,by split <;> decide,by decide+kernel,by rw[←la];omega,hK _ _ (ah.refl _) ?_⟩;rw[hP,ac5,hz',aat,aat];rfl
    ·rw[aa2,abd] at hP;subst hP;exact q D5 H7 (ws.map xK) (by rw[aa2];exact hw) nnd (((hS1.trans hS4).trans (ae hp _)).trans hS7) hD7
noncomputable abbrev vr:Stmt:=top 23
theorem scRow:ao ["cell","full","names","rest","box","more","word","one"] ["cell","full","names"] (af vr):=⟨rfl,rfl,rfl,by decide+kernel,rfl,by decide+kernel,by decide+kernel⟩
theorem hasRow (G:Gs w K mg κ) (D:Def K mg "_law_row" vr ["cell","full","names"]):Has P w K mg base (k+1) "_law_row" ["cell","full","names"] (i0 K):=by
 refine D.has scRow (λvs H Q E h=>?_) (λf cdv A outer s H vs Q E hr h=>?_)
 ·obtain ⟨_,_,_,_,_,rfl,_,_,_,_,_⟩:=h;rfl
 have nd:=scRow.nd;have hu:=d3 hr;have hu0:=aas hu;obtain ⟨c,fl,nl,ms,zs,rfl,hF,hm,hN,hn,q⟩:=h;have m_len:=G.m_len;refine ⟨_,(A5 (A8 3 nd (by first | exact aa1 rfl | exact aa0 rfl) (A3 (AH 0) (A0 0 (by first | exact aa1 rfl | exact aa0 (aa1 rfl) | exact aa0 (aa0 rfl))) (A2 0)) (by first | exact .inl rfl | exact .inr rfl | assumption)) (A5 (A8 4 nd (by first | exact aa1 rfl | exact aa0 rfl) (A3 (AB 0) (A0 3 (by first | exact aa1 rfl | exact aa0 (aa1 rfl) | exact aa0 (aa0 rfl))) (A2 0)) (by first | exact .inl rfl | exact .inr rfl | assumption)) (A5 (A8 5 nd (by first | exact aa1 rfl | exact aa0 rfl) (A3 (AH 0) (A0 3 (by first | exact aa1 rfl | exact aa0 (aa1 rfl) | exact aa0 (aa0 rfl))) (A2 0)) (by first | exact .inl rfl | exact .inr rfl | assumption)) (A5 (A8 6 nd (by first | exact aa1 rfl | exact aa0 rfl) (A7 (AD 0) (AM (B1 (AC (AC (AC (AC (AC (AC (AC (@je.nil)))))))))) (A3 (AB 0) (A0 0 (by first | exact aa1 rfl | exact aa0 (aa1 rfl) | exact aa0 (aa0 rfl))) (A2 0))) (by first | exact .inl rfl | exact .inr rfl | assumption)) (A5 (AF (AI (AK 0) (A0 6 (by first | exact aa1 rfl | exact aa0 (aa1 rfl) | exact aa0 (aa0 rfl))) (AA 0) (AE 0)) (A6 (A9 (AO (A1 (AA 0) (A1 (A0 4 (by first | exact aa1 rfl | exact aa0 (aa1 rfl) | exact aa0 (aa0 rfl))) (A1 (A7 (AD 0) (A0 2 (by first | exact aa1 rfl | exact aa0 (aa1 rfl) | exact aa0 (aa0 rfl))) (A3 (AL 0) (A2 0) (A3 (@lu _) (A2 0) (A3 (AB 0) (A0 5 (by first | exact aa1 rfl | exact aa0 (aa1 rfl) | exact aa0 (aa0 rfl))) (A2 0))))) (A4 0))))))) (AG 0)) (A5 (AF (@PW.pt _ _ _ (BA (AI (AK 0) (A0 6 (by first | exact aa1 rfl | exact aa0 (aa1 rfl) | exact aa0 (aa0 rfl))) (AA 0) (AE 0)) (@rj _ _ _ _ (AI (@Bh _ hu0) (A0 1 (by first | exact aa1 rfl | exact aa0 (aa1 rfl) | exact aa0 (aa0 rfl))) (AM (A4 0)) (AE 0))))) (A6 (A9 (AO (A1 (AA 0) (A1 (A0 4 (by first | exact aa1 rfl | exact aa0 (aa1 rfl) | exact aa0 (aa0 rfl))) (A1 (A3 (@vm _) (A3 (AB 0) (A0 5 (by first | exact aa1 rfl | exact aa0 (aa1 rfl) | exact aa0 (aa0 rfl))) (A2 0)) (A2 0)) (A4 0))))))) (AG 0)) (A5 (A8 7 nd (by first | exact aa1 rfl | exact aa0 rfl) (A7 (AD 0) (A0 1 (by first | exact aa1 rfl | exact aa0 (aa1 rfl) | exact aa0 (aa0 rfl))) (A3 (AB 0) (A0 5 (by first | exact aa1 rfl | exact aa0 (aa1 rfl) | exact aa0 (aa0 rfl))) (AJ (AV 0) m_len i4 (A1 (A0 1 (by first | exact aa1 rfl | exact aa0 (aa1 rfl) | exact aa0 (aa0 rfl))) (A4 0))))) (by first | exact .inl rfl | exact .inr rfl | assumption)) (A5 (AF (AI (AK 0) (A0 6 (by first | exact aa1 rfl | exact aa0 (aa1 rfl) | exact aa0 (aa0 rfl))) (AA 0) (AE 0)) (A6 (A9 (AO (A1 (AA 0) (A1 (A0 4 (by first | exact aa1 rfl | exact aa0 (aa1 rfl) | exact aa0 (aa0 rfl))) (A1 (A0 7 (by first | exact aa1 rfl | exact aa0 (aa1 rfl) | exact aa0 (aa0 rfl))) (A4 0))))))) (AG 0)) (A6 (A9 (AO (A1 (A0 6 (by first | exact aa1 rfl | exact aa0 (aa1 rfl) | exact aa0 (aa0 rfl))) (A1 (A0 4 (by first | exact aa1 rfl | exact aa0 (aa1 rfl) | exact aa0 (aa0 rfl))) (A1 (A0 7 (by first | exact aa1 rfl | exact aa0 (aa1 rfl) | exact aa0 (aa0 rfl))) (A1 (A7 (AD 0) (A0 1 (by first | exact aa1 rfl | exact aa0 (aa1 rfl) | exact aa0 (aa0 rfl))) (A3 (AB 0) (A3 (AH 0) (A0 5 (by first | exact aa1 rfl | exact aa0 (aa1 rfl) | exact aa0 (aa0 rfl))) (A2 0)) (AJ (AV 0) m_len i4 (A1 (A0 1 (by first | exact aa1 rfl | exact aa0 (aa1 rfl) | exact aa0 (aa0 rfl))) (A4 0))))) (A4 0)))))))))))))))),?_⟩;rw[show start ["cell","full","names","rest","box","more","word","one"] [.int c,.ref fl,.ref nl]=[some (.int c),some (.ref fl),some (.ref nl),none,none,none,none,none] from rfl];push_cast [and_true];have sz:=sizeLine_eq;refine ⟨by show (7:Nat)≤sizeLine;decide,λp hp=>?_⟩;obtain ⟨v,hv,hmv⟩:=iw [V.str (Str.ofString "put"),V.str (Str.ofString "load"),V.str (Str.ofString "add"),V.str (Str.ofString "sub"),V.str (Str.ofString "neg"),V.str (Str.ofString "put"),V.str (Str.ofString "add")] (c % 7) (aao _ (by decide)) (by show c % 7 < 7;omega);refine ar aa hv ?_;have hS:=ae hp (.lst [V.str (Str.ofString "put"),V.str (Str.ofString "load"),V.str (Str.ofString "add"),V.str (Str.ofString "sub"),V.str (Str.ofString "neg"),V.str (Str.ofString "put"),V.str (Str.ofString "add")]);generalize upd H p (.lst [V.str (Str.ofString "put"),V.str (Str.ofString "load"),V.str (Str.ofString "add"),V.str (Str.ofString "sub"),V.str (Str.ofString "neg"),V.str (Str.ofString "put"),V.str (Str.ofString "add")])=H1 at hS ⊢;obtain ⟨z,rfl,hz⟩:∃z:Str,v=.str z∧(z="put"∨z="load"∨z="neg"∨z="add"∨z="sub"):=by
  simp only[aav,aam,or_false] at hmv;rcases hmv with rfl | rfl | rfl | rfl | rfl | rfl | rfl <;> exact ⟨_,rfl,by decide+kernel⟩
 have hb:0≤c / 7 % 9∧c / 7 % 9 < 9:=⟨aao _ (by decide),aaz _ (by decide)⟩;generalize c / 7 % 9=b at hb ⊢;have put:∀H2,ah H1 H2→[V.str (Str.ofString "put"),V.int b,V.int (c / 7 / 9 % 100 - 50)].length≤sizeLine∧∀(p:Addr),H2 p=none→Q (V.ref p) (upd H2 p (HO.tup [V.str (Str.ofString "put"),V.int b,V.int (c / 7 / 9 % 100 - 50)])):=λH2 s2=>
  ⟨by show (3:Nat)≤sizeLine;decide,λp hp=>q p _ _ (.put b _ hb (aa6 (show (c / 7 / 9 % 100 - 50).natAbs < 64 by omega) (by decide+kernel))) ((hS.trans s2).trans (ae hp _)) ((hS.trans s2).free hp) aa⟩
 refine ⟨rfl,iy (λ_=>⟨.inl ⟨by decide,by decide⟩,?_⟩) λn1=>⟨rfl,iy (λ_=>put H1 (ah.refl _)) λn2=>⟨ab0 _,λp2 hp2=>?_⟩⟩⟩
 ·obtain ⟨k,hk⟩:∃k:Nat,c / 7 / 9 % 5=(k:Int):=⟨(c / 7 / 9 % 5).toNat,by omega⟩;have hk5:k < 5:=by omega
  rw[hk,show (1:Int)+2*(k:Int)=((1+2*k:Nat):Int) by omega];have ez:=aa4 (show 1+2*k < zs.length by omega);exact ⟨nl,_,_,_,rfl,rfl,hS.seq hN,cy (by rw[aag,ez];rfl),by show (3:Nat)≤sizeLine;decide,λp hp=>q p _ _ (.load b _ hb k hk5 ez) (hS.trans (ae hp _)) (hS.free hp) aa⟩
 have s2:=ae hp2 (.lst []);have kf:(ms.map V.int)=(ms.map (Sum.inl:Int→Key)).map kV:=by rw[abn];rfl
 have hF2:=s2 _ _ (hS _ _ hF);refine ⟨fl,p2,ms.map Sum.inl,[],rfl,rfl,.inr ⟨SqL.of (by rw[hF2,kf]),SqL.of aa⟩,_,rfl,iy (λ_=>put _ s2) λne=>?_⟩;have f0:0 < ms.length:=by
  rcases ac0 ms.length with h | h
  ·rw[ab7 h] at ne;exact absurd rfl ne
  ·exact h
 obtain ⟨x,hx,mx⟩:=ki (ns:=ms) (k:=c / 7 / 9 % (ms.length:Int)) (aao _ (by omega)) (aaz _ (by omega));obtain ⟨y,hy,my⟩:=ki (ns:=ms) (k:=c / 7 / 9 / 9 % (ms.length:Int)) (aao _ (by omega)) (aaz _ (by omega));refine ⟨ms.map V.int,.inl (SqL.of hF2),by rw[aa2];omega,fl,_,_,_,rfl,rfl,SqL.of hF2,by rw[aa2];exact hx,rfl,iy (λ_=>⟨by show (3:Nat)≤sizeLine;decide,λp hp=>q p _ _ (.neg b x hb mx) ((hS.trans s2).trans (ae hp _)) ((hS.trans s2).free hp) aa⟩) λn3=>?_⟩;refine ⟨ms.map V.int,.inl (SqL.of hF2),by rw[aa2];omega,fl,_,_,_,rfl,rfl,SqL.of hF2,by rw[aa2];exact hy,by show (4:Nat)≤sizeLine;decide,λp hp=>?_⟩;have hz4:=((hz.resolve_left λe=>n2 (by rw[e])).resolve_left λe=>n1 (by rw[e])).resolve_left λe=>n3 (by rw[e]);exact q p _ _ (.bin z b x y hb hz4 mx my) ((hS.trans s2).trans (ae hp _)) ((hS.trans s2).free hp) aa
noncomputable abbrev mr:Stmt:=top 24
theorem Bw:ao ["rows"] ["rows"] (af mr):=⟨rfl,rfl,rfl,by decide+kernel,rfl,by decide+kernel,by decide+kernel⟩
theorem El (G:Gs w K mg κ) (D:Def K mg "_law_full" mr ["rows"]):Has P w K mg base (k+1) "_law_full" ["rows"] (ic K):=by
 refine D.has Bw (λvs H Q E h=>?_) (λf cdv A outer s H vs Q E hr h=>?_)
 ·obtain ⟨_,_,_,rfl,_,_,_,_,_⟩:=h;rfl
 have nd:=Bw.nd;have hu:=d3 hr;have hu0:=aas hu;obtain ⟨l,rs,ts,rfl,hL,hI,hrw,hl,q⟩:=h;have m_set:=G.m_set;have m_sorted:=G.m_sorted;refine ⟨_,(A6 (A9 (@uq _ _ _ _ _ _ _ rfl rfl m_sorted rfl m_set (A1 (BF (AX ["row"] [] [] trivial trivial) (AW (A0 0 (by first | exact aa1 rfl | exact aa0 (aa1 rfl) | exact aa0 (aa0 rfl)))) (λ_ _ _=>(AY 0 (show ac3 (["row"]:List Str) by decide+kernel) (by first | exact .inl rfl | exact .inr rfl | assumption))) (λ_ _ _=>(@pif0 _)) (λ_ _ _=>(A7 (@Er _ K rfl) (A0 0 (by first | exact aa1 rfl | exact aa0 (aa1 rfl) | exact aa0 (aa0 rfl))) (A2 0)))) (A4 0)) (by rfl) (by rfl)))),?_⟩;rw[show start ["rows"] [.ref l]=[some (.ref l)] from rfl];push_cast [and_true];have sz:=sizeLine_eq;push_cast [tSS];refine ⟨⟨rs,hL⟩,λD hD=>kd (λi ys=>ys=((ts.take i).map cv).map V.int) hL (by rw[hI.1];omega) hD rfl (λi x ys H1 G' K' hx hP hl2 hS hG hK=>?_) λys H2 hP hl2 hS hD2=>?_⟩
 ·have hi:i < ts.length:=by rw[←hI.1];exact (List.getElem?_eq_some_iff.mp hx).1
  have et:=aa4 hi;obtain ⟨a,h1,h2⟩:=hI.2 i _ et;rw[hx] at h1;cases h1
  push_cast [and_true];obtain ⟨v,b,r,e⟩:=hrw _ (abq hi);refine bw (hS _ _ h2) (show atI ts[i] ((1:Nat):Int)=some (.int b) from cy (by rw[e];rfl)) (hK _ _ (ah.refl _) ?_);rw[hP,ac5,et,ad9,aat,aat,ac2,ac2,e];rfl
 ·rw[hI.1,abd] at hP;subst hP;have hf:=PySem.Sti.Cf (ts.map cv);rw[aa2] at hf;exact ⟨ts.map cv,SqL.of hD2,by rw[aa2];omega,by omega,λl' ms hp ho hn=>q l' _ ms hp ho (hS.trans (ae hn _)) (hS.free hn) aa⟩
noncomputable abbrev dc:Stmt:=top 25
theorem p6:ao ["rows","at","cell","names","full","empty","gap","word","one","box"] ["rows","at","cell","names"] (af dc):=⟨rfl,rfl,rfl,by decide+kernel,rfl,by decide+kernel,by decide+kernel⟩
theorem wa (G:Gs w K mg κ) (h_law_full:Has P w K mg base k "_law_full" ["rows"] (ic K)) (D:Def K mg "_law_failing" dc ["rows","at","cell","names"]):Has P w K mg base (k+1) "_law_failing" ["rows","at","cell","names"] (d8 K):=by
 refine D.has p6 (λvs H Q E h=>?_) (λf cdv A outer s H vs Q E hr h=>?_)
 ·obtain ⟨_,_,_,_,_,_,_,rfl,_,_,_,_,_,_,_,_⟩:=h;rfl
 have nd:=p6.nd;have hu:=d3 hr;have hu0:=aas hu;obtain ⟨l,nl,rs,ts,at',c,zs,rfl,hL,hI,hrw,hl,ha,hN,hn,q⟩:=h;have m_len:=G.m_len;have m_list:=G.m_list;have m_range:=G.m_range;refine ⟨_,(A5 (A8 4 nd (by first | exact aa1 rfl | exact aa0 rfl) (AN h_law_full hr (A1 (AR (@ee _) (A0 0 (by first | exact aa1 rfl | exact aa0 (aa1 rfl) | exact aa0 (aa0 rfl))) (AT 0) (AS (A0 1 (by first | exact aa1 rfl | exact aa0 (aa1 rfl) | exact aa0 (aa0 rfl))))) (A4 0))) (by first | exact .inl rfl | exact .inr rfl | assumption)) (A5 (BH 5 nd (AX ["box"] ["full"] [4] (aac rfl trivial) (aac (aac rfl (aac rfl rfl)) trivial)) (AW (A3 (@jy _) (B2 (@nr _ rfl) m_list vz (A1 (B2 (@uf _) m_range Dr (A1 (A2 0) (A4 0))) (A4 0))) (AM (A1 (A2 0) (A1 (A3 (AL 0) (A3 (@Ay _) (A2 0) (A2 0)) (A3 (AB 0) (A0 2 (by first | exact aa1 rfl | exact aa0 (aa1 rfl) | exact aa0 (aa0 rfl))) (A2 0))) (A4 0)))))) (λ_ _ _=>(AY 0 (show ac3 (["box","full"]:List Str) by decide+kernel) (by first | exact .inl rfl | exact .inr rfl | assumption))) (λ_ _ _=>(@pif1 _ _ _ (@xt _ _ _ _ _ _ _ _ (@nc _ K rfl) (A0 0 (by first | exact aa1 rfl | exact aa0 (aa1 rfl) | exact aa0 (aa0 rfl))) (A0 1 (by first | exact aa1 rfl | exact aa0 (aa1 rfl) | exact aa0 (aa0 rfl))) (by with_unfolding_all rfl)))) (λ_ _ _=>(A0 0 (by first | exact aa1 rfl | exact aa0 (aa1 rfl) | exact aa0 (aa0 rfl)))) (by first | exact .inl rfl | exact .inr rfl | assumption)) (A5 (A8 6 nd (by first | exact aa1 rfl | exact aa0 rfl) (A7 (AD 0) (A0 5 (by first | exact aa1 rfl | exact aa0 (aa1 rfl) | exact aa0 (aa0 rfl))) (A3 (AB 0) (A3 (AH 0) (A0 2 (by first | exact aa1 rfl | exact aa0 (aa1 rfl) | exact aa0 (aa0 rfl))) (A2 0)) (AJ (AV 0) m_len i4 (A1 (A0 5 (by first | exact aa1 rfl | exact aa0 (aa1 rfl) | exact aa0 (aa0 rfl))) (A4 0))))) (by first | exact .inl rfl | exact .inr rfl | assumption)) (A5 (A8 7 nd (by first | exact aa1 rfl | exact aa0 rfl) (A7 (AD 0) (AM (B1 (AC (AC (AC (@je.nil)))))) (A3 (AB 0) (A3 (AH 0) (A0 2 (by first | exact aa1 rfl | exact aa0 (aa1 rfl) | exact aa0 (aa0 rfl))) (A2 0)) (A2 0))) (by first | exact .inl rfl | exact .inr rfl | assumption)) (A5 (A8 8 nd (by first | exact aa1 rfl | exact aa0 rfl) (A0 6 (by first | exact aa1 rfl | exact aa0 (aa1 rfl) | exact aa0 (aa0 rfl))) (by first | exact .inl rfl | exact .inr rfl | assumption)) (@Ea _ _ _ _ _ (AF (AI (@op_neK _ hu0) (A0 4 (by first | exact aa1 rfl | exact aa0 (aa1 rfl) | exact aa0 (aa0 rfl))) (AM (A4 0)) (AE 0)) (A6 (A8 8 nd (by first | exact aa1 rfl | exact aa0 rfl) (A7 (AD 0) (A0 4 (by first | exact aa1 rfl | exact aa0 (aa1 rfl) | exact aa0 (aa0 rfl))) (A3 (AB 0) (A3 (AH 0) (A0 2 (by first | exact aa1 rfl | exact aa0 (aa1 rfl) | exact aa0 (aa0 rfl))) (A2 0)) (AJ (AV 0) m_len i4 (A1 (A0 4 (by first | exact aa1 rfl | exact aa0 (aa1 rfl) | exact aa0 (aa0 rfl))) (A4 0))))) (by first | exact .inl rfl | exact .inr rfl | assumption))) (AG 0)) (A5 (A8 9 nd (by first | exact aa1 rfl | exact aa0 rfl) (A7 (AD 0) (AM (A1 (A3 (AB 0) (A3 (AH 0) (A0 2 (by first | exact aa1 rfl | exact aa0 (aa1 rfl) | exact aa0 (aa0 rfl))) (A2 0)) (A2 0)) (A1 (A0 6 (by first | exact aa1 rfl | exact aa0 (aa1 rfl) | exact aa0 (aa0 rfl))) (A4 0)))) (A3 (AB 0) (A3 (AH 0) (A0 2 (by first | exact aa1 rfl | exact aa0 (aa1 rfl) | exact aa0 (aa0 rfl))) (A2 0)) (A2 0))) (by first | exact .inl rfl | exact .inr rfl | assumption)) (A5 (AF (AI (AK 0) (A3 (AB 0) (A0 2 (by first | exact aa1 rfl | exact aa0 (aa1 rfl) | exact aa0 (aa0 rfl))) (A2 0)) (A2 0) (AE 0)) (A6 (A9 (AO (A1 (AA 0) (A1 (A0 9 (by first | exact aa1 rfl | exact aa0 (aa1 rfl) | exact aa0 (aa0 rfl))) (A1 (A7 (AD 0) (A0 3 (by first | exact aa1 rfl | exact aa0 (aa1 rfl) | exact aa0 (aa0 rfl))) (A3 (@lu _) (A2 0) (A3 (AB 0) (A3 (AH 0) (A0 2 (by first | exact aa1 rfl | exact aa0 (aa1 rfl) | exact aa0 (aa0 rfl))) (A2 0)) (A2 0)))) (A4 0))))))) (AG 0)) (A5 (AF (AI (AK 0) (A3 (AB 0) (A0 2 (by first | exact aa1 rfl | exact aa0 (aa1 rfl) | exact aa0 (aa0 rfl))) (A2 0)) (A2 0) (AE 0)) (A6 (A9 (AO (A1 (AA 0) (A1 (A0 9 (by first | exact aa1 rfl | exact aa0 (aa1 rfl) | exact aa0 (aa0 rfl))) (A1 (A0 6 (by first | exact aa1 rfl | exact aa0 (aa1 rfl) | exact aa0 (aa0 rfl))) (A4 0))))))) (AG 0)) (A5 (AF (AI (AK 0) (A3 (AB 0) (A0 2 (by first | exact aa1 rfl | exact aa0 (aa1 rfl) | exact aa0 (aa0 rfl))) (A2 0)) (A2 0) (AE 0)) (A6 (A9 (AO (A1 (A0 7 (by first | exact aa1 rfl | exact aa0 (aa1 rfl) | exact aa0 (aa0 rfl))) (A1 (A0 9 (by first | exact aa1 rfl | exact aa0 (aa1 rfl) | exact aa0 (aa0 rfl))) (A1 (A0 6 (by first | exact aa1 rfl | exact aa0 (aa1 rfl) | exact aa0 (aa0 rfl))) (A1 (A0 6 (by first | exact aa1 rfl | exact aa0 (aa1 rfl) | exact aa0 (aa0 rfl))) (A4 0)))))))) (AG 0)) (A5 (AF (AI (AK 0) (A3 (AB 0) (A0 2 (by first | exact aa1 rfl | exact aa0 (aa1 rfl) | exact aa0 (aa0 rfl))) (A2 0)) (A2 0) (AE 0)) (A6 (A9 (AO (A1 (A0 7 (by first | exact aa1 rfl | exact aa0 (aa1 rfl) | exact aa0 (aa0 rfl))) (A1 (A0 9 (by first | exact aa1 rfl | exact aa0 (aa1 rfl) | exact aa0 (aa0 rfl))) (A1 (A0 6 (by first | exact aa1 rfl | exact aa0 (aa1 rfl) | exact aa0 (aa0 rfl))) (A1 (A0 8 (by first | exact aa1 rfl | exact aa0 (aa1 rfl) | exact aa0 (aa0 rfl))) (A4 0)))))))) (AG 0)) (A6 (A9 (AO (A1 (A0 7 (by first | exact aa1 rfl | exact aa0 (aa1 rfl) | exact aa0 (aa0 rfl))) (A1 (A0 9 (by first | exact aa1 rfl | exact aa0 (aa1 rfl) | exact aa0 (aa0 rfl))) (A1 (A0 8 (by first | exact aa1 rfl | exact aa0 (aa1 rfl) | exact aa0 (aa0 rfl))) (A1 (A0 6 (by first | exact aa1 rfl | exact aa0 (aa1 rfl) | exact aa0 (aa0 rfl))) (A4 0))))))))))))))))))),?_⟩;rw[show start ["rows","at","cell","names","full","empty","gap","word","one","box"] [.ref l,.int (at':Int),.int c,.ref nl]=[some (.ref l),some (.int (at':Int)),some (.int c),some (.ref nl),none,none,none,none,none,none] from rfl];push_cast [ic];have sz:=sizeLine_eq;have e40:(10:Int) ^ ab2 40=10000000000000000000000000000000000000000:=by decide+kernel
 have e50:(10:Nat) ^ 50=100000000000000000000000000000000000000000000000000:=by decide+kernel
 refine ⟨rs,SqL.of hL,λp hp=>?_⟩;have ec:fj rs none (some (at':Int))=rs.take at':=kz rs at';rw[ec];refine ⟨rs.take at',SqL.of aa,ts.take at',(jn hI at').same (ae hp _),λt ht=>(hrw t (ace ht)).1,by rw[aaf];omega,λl1 H1 ms hpm hso s1 hn1 h1 l2 hl2=>⟨9,aa,by decide,by decide,λl3 hl3=>⟨⟨by decide,by decide,by decide⟩,by show (2:Nat)≤sizeLine;decide,λl4 hl4=>?_⟩⟩⟩;rw[e40];have s0:ah H H1:=(ae hp _).trans s1;have hS4:ah H1 (upd (upd (upd H1 l2 (.rng 0 9)) l3 (.lst ((aaq (9:Int).toNat).map λi=>V.int ((i:Nat):Int)))) l4 (.lst [V.int 12,V.int (10000000000000000000000000000000000000000+c % 9)])):=((ae hl2 _).trans (ae hl3 _)).trans (ae hl4 _);have h34:=ae hl4 (.lst [V.int 12,V.int (10000000000000000000000000000000000000000+c % 9)]) _ _ (aa (H:=upd H1 l2 (.rng 0 9)) (a:=l3) (o:=.lst ((aaq (9:Int).toNat).map λi=>V.int ((i:Nat):Int))));have h44:upd (upd (upd H1 l2 (.rng 0 9)) l3 (.lst ((aaq (9:Int).toNat).map λi=>V.int ((i:Nat):Int)))) l4 (.lst [V.int 12,V.int (10000000000000000000000000000000000000000+c % 9)]) l4=some (.lst [V.int 12,V.int (10000000000000000000000000000000000000000+c % 9)]):=aa;generalize upd (upd (upd H1 l2 (.rng 0 9)) l3 (.lst ((aaq (9:Int).toNat).map λi=>V.int ((i:Nat):Int)))) l4 (.lst [V.int 12,V.int (10000000000000000000000000000000000000000+c % 9)])=H4 at hS4 h34 h44 ⊢;refine gc h34 h44 (by rw[aa2,aau];show 9+2≤sizeLine;omega) λl5 hl5=>⟨l5,rfl,⟨_,SqL.of aa⟩,λl6 hl6=>?_⟩;obtain ⟨as,ea,ha12,hab⟩:∃as:List Int,((aaq (9:Int).toNat).map λi=>V.int ((i:Nat):Int))++[V.int 12,V.int (10000000000000000000000000000000000000000+c % 9)]=as.map V.int∧(∃pre post:List Int,as=pre++12::post∧as.length=11)∧∀x∈as,x.natAbs < 10 ^ 50:=by
  refine ⟨((aaq 9).map λi=>((i:Nat):Int))++[12,10000000000000000000000000000000000000000+c % 9],by rw[aat,abn];rfl,⟨(aaq 9).map λi=>((i:Nat):Int),_,rfl,by rw[aa8,aa2,aau];rfl⟩,λx hx=>?_⟩;rw[e50];rcases List.mem_append.mp hx with h | h
  ·obtain ⟨i,hi,rfl⟩:=List.mem_map.mp h;have:=List.mem_range.mp hi;omega
  ·rcases List.mem_cons.mp h with h | h
   ·rw[h];decide
   ·rw[List.mem_singleton.mp h];omega
 rw[ea] at hl6 ⊢;obtain ⟨pre,post,eas,las⟩:=ha12;have hm9:∀x∈ms,0≤x∧x < 9:=λx hx=>by
  obtain ⟨t,ht,rfl⟩:=List.mem_map.mp (PySem.Sti.q4.mp (hpm.mem_iff.mp hx));exact (hrw t (ace ht)).2
 have n12:(12:Int)∉ms:=λh=>by have:=hm9 _ h;omega
 refine kd (λi ys=>∃gs:List Int,ys=gs.map V.int∧gs=(as.take i).filter λx=>decide (x∉ms)) (SqL.of aa) (by rw[aa2];omega) hl6 ⟨[],rfl,by rw[List.take_zero];rfl⟩ (λi x ys H7 G' K' hx0 hP hl2 hS hG hK=>?_) λys H7 hP hl2 hS7 hD7=>?_
 ·rw[aag] at hx0;obtain ⟨x,hx,rfl⟩:=Option.map_eq_some_iff.mp hx0;obtain ⟨gs,rfl,eg⟩:=hP;push_cast [rIn];have et:(as.take (i+1)).filter (λx=>decide (x∉ms))=(as.take i).filter (λx=>decide (x∉ms))++(if x∈ms then [] else [x]):=by
   rw[ac5,hx,ad9,List.filter_append];congr 1
   by_cases h:x∈ms
   ·rw[if_pos h];simp[h]
   ·rw[if_neg h];simp[h]
  refine ⟨ms.map V.int,.inl (SqL.of (hS _ _ (ae hl5 _ _ _ (hS4 _ _ h1)))),rfl,pk ms,?_⟩;rw[t8];by_cases h:x∈ms
  ·rw[decide_eq_true h,if_neg (by decide)];exact hG _ (ah.refl _) ⟨gs,rfl,by rw[et,if_pos h,ab6];exact eg⟩
  ·rw[decide_eq_false h,if_pos (by decide)];exact hK _ _ (ah.refl _) ⟨gs++[x],by rw[aat];rfl,by rw[et,if_neg h,eg]⟩
 ·obtain ⟨gs,rfl,eg⟩:=hP;rw[aa2,abd] at eg;have g0:0 < gs.length:=List.length_pos_of_mem (a:=12) (by rw[eg,ado,eas];exact ⟨by simp,decide_eq_true n12⟩);have sA:ah H H7:=(s0.trans hS4).trans ((ae hl5 _).trans hS7);obtain ⟨gap,hgap,mg'⟩:=ki (ns:=gs) (k:=c / 6 % (gs.length:Int)) (aao _ (by omega)) (aaz _ (by omega));rw[eg,ado] at mg';have gb:=hab gap mg'.1;have gn:gap∉ms:=of_decide_eq_true mg'.2;refine ⟨gs.map V.int,.inl (SqL.of hD7),by rw[aa2];omega,ar hD7 (by rw[aa2];exact hgap) ⟨by show (3:Nat)≤sizeLine;decide,λl8 hl8=>?_⟩⟩;obtain ⟨v,hv,hmv⟩:=iw [V.str (Str.ofString "add"),V.str (Str.ofString "sub"),V.str (Str.ofString "mul")] (c / 60 % 3) (aao _ (by decide)) (by show c / 60 % 3 < 3;omega);refine ar aa hv ?_;obtain ⟨z,rfl,hz⟩:∃z:Str,v=.str z∧arS z=2:=by
   simp only[aav,aam,or_false] at hmv;rcases hmv with rfl | rfl | rfl <;> exact ⟨_,rfl,by decide+kernel⟩
  have h8:=ae hl8 (.lst [V.str (Str.ofString "add"),V.str (Str.ofString "sub"),V.str (Str.ofString "mul")]);have sB:=sA.trans h8;have hf8:upd H7 l8 (.lst [V.str (Str.ofString "add"),V.str (Str.ofString "sub"),V.str (Str.ofString "mul")]) l1=some (.lst (ms.map V.int)):=h8 _ _ (hS7 _ _ (ae hl5 _ _ _ (hS4 _ _ h1)));generalize upd H7 l8 (.lst [V.str (Str.ofString "add"),V.str (Str.ofString "sub"),V.str (Str.ofString "mul")])=H8 at sB hf8 ⊢;refine Cr (λσ' H9=>∃one:Int,(one=gap∨one∈ms)∧ah H H9∧σ'=[some (.ref l),some (.int (at':Int)),some (.int c),some (.ref nl),some (.ref l1),some (.ref l6),some (.int gap),some (.str z),some (.int one),none]) ?_ ?_
  ·push_cast [and_true];refine ⟨ab0 _,λp9 hp9=>?_⟩;have s9:=ae hp9 (.lst []);have kf:(ms.map V.int)=(ms.map (Sum.inl:Int→Key)).map kV:=by rw[abn];rfl
   have hf9:=s9 _ _ hf8;refine ⟨l1,p9,ms.map Sum.inl,[],rfl,rfl,.inr ⟨SqL.of (by rw[hf9,kf]),SqL.of aa⟩,_,rfl,iy (λne=>?_) λ_=>⟨gap,.inl rfl,sB.trans s9,rfl⟩⟩;have f0:0 < ms.length:=by
    rcases ac0 ms.length with h | h
    ·rw[ab7 h] at ne;exact absurd ne (by decide)
    ·exact h
   obtain ⟨x,hx,mx⟩:=ki (ns:=ms) (k:=c / 180 % (ms.length:Int)) (aao _ (by omega)) (aaz _ (by omega));exact ⟨ms.map V.int,.inl (SqL.of hf9),by rw[aa2];omega,ar hf9 (by rw[aa2];exact hx) ⟨x,.inr mx,sB.trans s9,rfl⟩⟩
  ·rintro σ' H9 ⟨one,hone,sC,rfl⟩;push_cast [and_true];refine ⟨by show (2:Nat)≤sizeLine;decide,λpA hpA=>?_⟩;obtain ⟨vb,hvb,hmb⟩:=iw [V.int (c / 60 % 9),V.int gap] (c / 540 % 2) (aao _ (by decide)) (by show c / 540 % 2 < 2;omega);refine ar aa hvb ?_;obtain ⟨b,rfl⟩:∃b:Int,vb=.int b:=by
    simp only[aav,aam,or_false] at hmb;rcases hmb with rfl | rfl <;> exact ⟨_,rfl⟩
   have sD:=sC.trans (ae hpA (.lst [V.int (c / 60 % 9),V.int gap]));generalize upd H9 pA (.lst [V.int (c / 60 % 9),V.int gap])=HA at sD ⊢;have mm:∀x,x∈ms↔x∈(ts.take at').map cv:=λx=>hpm.mem_iff.trans PySem.Sti.q4;have gB:gap∉(ts.take at').map cv:=λh=>gn ((mm gap).mpr h);have oB:one=gap∨one∈(ts.take at').map cv:=hone.imp id (mm one).mp;have fin:∀r:List V,r.length≤4→kh ((ts.take at').map cv) zs r→r.length≤sizeLine∧∀p:Addr,HA p=none→Q (V.ref p) (upd HA p (.tup r)):=λr hr4 hr=>⟨by omega,λp hp=>q p _ r hr (sD.trans (ae hp _)) (sD.free hp) aa⟩;refine ⟨rfl,iy (λ_=>⟨.inl ⟨by decide,by decide⟩,?_⟩) λ_=>⟨rfl,iy (λ_=>fin _ (abe rfl) (.inr ⟨gap,gB,gb,.inl ⟨b,rfl⟩⟩)) λ_=>⟨rfl,iy (λ_=>fin _ (abe rfl) (.inr ⟨gap,gB,gb,.inr ⟨z,b,gap,gap,hz,rfl,.inl rfl,.inl rfl,.inl rfl⟩⟩)) λ_=>⟨rfl,iy (λ_=>fin _ (abe rfl) (.inr ⟨gap,gB,gb,.inr ⟨z,b,gap,one,hz,rfl,.inl rfl,oB,.inl rfl⟩⟩)) λ_=>fin _ (abe rfl) (.inr ⟨gap,gB,gb,.inr ⟨z,b,one,gap,hz,rfl,oB,.inl rfl,.inr rfl⟩⟩)⟩⟩⟩⟩;obtain ⟨k,hk⟩:∃k:Nat,c / 60 % 7=(k:Int):=⟨(c / 60 % 7).toNat,by omega⟩;have hk7:k < 7:=by omega
   rw[hk,show (2:Int)*(k:Int)=((2*k:Nat):Int) by omega];have ez:=aa4 (show 2*k < zs.length by omega);exact ⟨nl,_,_,_,rfl,rfl,sD.seq hN,cy (by rw[aag,ez];rfl),fin _ (abe rfl) (.inl ⟨b,_,k,hk7,ez,rfl⟩)⟩
noncomputable abbrev ku:Stmt:=top 26
theorem Ao:ao ["texts","words","one"] [] (af ku):=⟨rfl,rfl,rfl,by decide+kernel,rfl,by decide+kernel,by decide+kernel⟩
theorem C1 (G:Gs w K mg κ) (hi_BadRow:fi P w K mg base 1 κ.badRow ["self","row"] (ax κ.badRow "row")) (hk2:2≤k) (hi_NoValue:fi P w K mg base 1 κ.noValue ["self","word"] (ax κ.noValue "word")) (hk2:2≤k) (hi_Twice:fi P w K mg base 1 κ.twice ["self","word"] (ax κ.twice "word")) (hk2:2≤k) (hi_NoName:fi P w K mg base 1 κ.noName ["self","word"] (ax κ.noName "word")) (hk2:2≤k) (hi_BadShape:fi P w K mg base 1 κ.badShape ["self","word"] (ax κ.badShape "word")) (hk2:2≤k) (hi_BadDeed:fi P w K mg base 1 κ.badDeed ["self","word"] (ax κ.badDeed "word")) (hk2:2≤k) (hi_Unsound:fi P w K mg base 1 κ.unsound ["self","word","worths"] (ke κ.unsound)) (hk2:2≤k) (D:Def K mg "_law_made" ku []):Has P w K mg base (k+1) "_law_made" [] jg:=by
 refine D.has Ao (λvs H Q E h=>?_) (λf cdv A outer s H vs Q E hr h=>?_)
 ·obtain ⟨rfl,_⟩:=h;rfl
 have nd:=Ao.nd;have hu:=d3 hr;have hu0:=aas hu;obtain ⟨rfl,q⟩:=h;have m_BadCover:=G.er.m_badCover;have m_BadDeed:=G.er.m_badDeed;have m_BadRow:=G.er.m_badRow;have m_BadShape:=G.er.m_badShape;have m_CoverError:=G.er.m_cov;have m_NoBox:=G.er.m_noBox;have m_NoCover:=G.er.m_noCover;have m_NoName:=G.er.m_noName;have m_NoTerm:=G.er.m_noTerm;have m_NoValue:=G.er.m_noValue;have m_Twice:=G.er.m_twice;have m_Unsound:=G.er.m_unsound;have m_ValueError:=G.m_ValueError;have m_isinstance:=G.m_isinstance;refine ⟨_,(A5 (A8 0 nd (by first | exact aa1 rfl | exact aa0 rfl) (AM (A1 (BB G.er.x_noBox G.i_NoBox m_NoBox (A1 (AA 0) (A4 0))) (A1 (BB G.er.x_noTerm G.i_NoTerm m_NoTerm (A1 (AA 0) (A4 0))) (A1 (BB G.er.x_badCover G.i_BadCover m_BadCover (A1 (AA 0) (A4 0))) (A1 (BB G.er.x_noCover G.i_NoCover m_NoCover (A1 (AA 0) (A4 0))) (A1 (AZ G.er.x_badRow hi_BadRow (hr.mono hk2) m_BadRow (A1 (A2 0) (A4 0))) (A1 (AZ G.er.x_unsound hi_Unsound (hr.mono hk2) m_Unsound (A1 (AA 0) (A1 (BI (B0 (AA 0) (A2 0) (@ql _ _)) (λe=>nomatch e)) (A4 0)))) (A4 0)))))))) (by first | exact .inl rfl | exact .inr rfl | assumption)) (A5 (A8 1 nd (by first | exact aa1 rfl | exact aa0 rfl) (AM (A1 (AZ G.er.x_noValue hi_NoValue (hr.mono hk2) m_NoValue (A1 (AA 0) (A4 0))) (A1 (AZ G.er.x_twice hi_Twice (hr.mono hk2) m_Twice (A1 (AA 0) (A4 0))) (A1 (AZ G.er.x_noName hi_NoName (hr.mono hk2) m_NoName (A1 (AA 0) (A4 0))) (A1 (AZ G.er.x_badShape hi_BadShape (hr.mono hk2) m_BadShape (A1 (AA 0) (A4 0))) (A1 (AZ G.er.x_badDeed hi_BadDeed (hr.mono hk2) m_BadDeed (A1 (AA 0) (A4 0))) (A4 0))))))) (by first | exact .inl rfl | exact .inr rfl | assumption)) (A5 (BC (AW (A3 (@jy _) (A0 0 (by first | exact aa1 rfl | exact aa0 (aa1 rfl) | exact aa0 (aa0 rfl))) (A0 1 (by first | exact aa1 rfl | exact aa0 (aa1 rfl) | exact aa0 (aa0 rfl))))) (B7 2 nd (by first | exact aa1 rfl | exact aa0 rfl) (by first | exact .inl rfl | exact .inr rfl | assumption)) (A6 (AF (@PW.pt _ _ _ (BA (B8 (B3 (AJ (@cf _) m_isinstance aw (A1 (A0 2 (by first | exact aa1 rfl | exact aa0 (aa1 rfl) | exact aa0 (aa0 rfl))) (A1 (AQ m_CoverError) (A4 0)))))) (@rj _ _ _ _ (B8 (B3 (AJ (@i3 _) m_isinstance aw (A1 (A0 2 (by first | exact aa1 rfl | exact aa0 (aa1 rfl) | exact aa0 (aa0 rfl))) (A1 (BD m_ValueError jc) (A4 0))))))))) (A6 (A9 (B4 0))) (AG 0)))) (A5 (BC (AW (A0 1 (by first | exact aa1 rfl | exact aa0 (aa1 rfl) | exact aa0 (aa0 rfl)))) (B7 2 nd (by first | exact aa1 rfl | exact aa0 rfl) (by first | exact .inl rfl | exact .inr rfl | assumption)) (A6 (AF (AI (@op_ne _) (B5 (A0 2 (by first | exact aa1 rfl | exact aa0 (aa1 rfl) | exact aa0 (aa0 rfl)))) (AA 0) (AE 0)) (A6 (A9 (B4 0))) (AG 0)))) (A6 (A9 (B6 (B9 (AK 0) (B5 (A7 (AD 0) (A0 0 (by first | exact aa1 rfl | exact aa0 (aa1 rfl) | exact aa0 (aa0 rfl))) (A2 0))) (A2 0) (AE 0)) (B6 (B9 (AK 0) (B5 (A7 (AD 0) (A0 0 (by first | exact aa1 rfl | exact aa0 (aa1 rfl) | exact aa0 (aa0 rfl))) (A2 0))) (AA 0) (AE 0)) (@vg _ _ _ _ _ (B9 (@op_eqD _ hu0) (B5 (A7 (AD 0) (A0 0 (by first | exact aa1 rfl | exact aa0 (aa1 rfl) | exact aa0 (aa0 rfl))) (A2 0))) (BI (B0 (AA 0) (A2 0) (@ql _ _)) (λe=>nomatch e)) (AE 0))))))))))),?_⟩;rw[show start ["texts","words","one"] []=[none,none,none] from rfl];push_cast [and_true];have sz:=sizeLine_eq;have er:=G.er;have c1:∀{v:V} {σ:L2.St} {H1:Hp},∀R:List V→Hp→Prop,R [v] H1→Ce (tC v) tNil σ H1 R:=λR h=>h;refine kg c1 λa0 H0 s0 x0=>kg c1 λa1 H1 s1 x1=>kg c1 λa2 H2 s2 x2=>kg c1 λa3 H3 s3 x3=>fw c1 λa4 H4 s4 x4=>C2 (v:=.str "x") (kvs:=[(Sum.inr "h1",.int 2)]) ?_ λa5 l5 H5 s5 x5 d5=>?_
 ·exact λR h p hp=>⟨aa,[(Sum.inr "h1",.int 2)],rfl,by decide,h p _ ((ae hp _).upd hp _) aa⟩
 have t0:=((((x0.same s1).same s2).same s3).same s4).same s5;have t1:=(((x1.same s2).same s3).same s4).same s5;have t2:=((x2.same s3).same s4).same s5;have t3:=(x3.same s4).same s5;have t4:=x4.same s5;have S5:=((((s0.trans s1).trans s2).trans s3).trans s4).trans s5;refine ⟨by show (6:Nat)≤sizeLine;decide,λp hp=>?_⟩;have s6:=ae hp (.lst [V.ref a0,V.ref a1,V.ref a2,V.ref a3,V.ref a4,V.ref a5]);have hp6:upd H5 p (.lst [V.ref a0,V.ref a1,V.ref a2,V.ref a3,V.ref a4,V.ref a5]) p=some (.lst [V.ref a0,V.ref a1,V.ref a2,V.ref a3,V.ref a4,V.ref a5]):=aa;generalize upd H5 p (.lst [V.ref a0,V.ref a1,V.ref a2,V.ref a3,V.ref a4,V.ref a5])=H6 at s6 hp6 ⊢;refine fw c1 λb0 I0 w0 y0=>fw c1 λb1 I1 w1 y1=>fw c1 λb2 I2 w2 y2=>fw c1 λb3 I3 w3 y3=>fw c1 λb4 I4 w4 y4=>⟨by show (5:Nat)≤sizeLine;decide,λp7 hp7=>?_⟩;have s7:=ae hp7 (.lst [V.ref b0,V.ref b1,V.ref b2,V.ref b3,V.ref b4]);have hp7':upd I4 p7 (.lst [V.ref b0,V.ref b1,V.ref b2,V.ref b3,V.ref b4]) p7=some (.lst [V.ref b0,V.ref b1,V.ref b2,V.ref b3,V.ref b4]):=aa;generalize upd I4 p7 (.lst [V.ref b0,V.ref b1,V.ref b2,V.ref b3,V.ref b4])=H7 at s7 hp7' ⊢;have S6:=((((w0.trans w1).trans w2).trans w3).trans w4).trans s7;have hpA:=S6 _ _ hp6;have S7:ah H H7:=(S5.trans s6).trans S6;have u0:=t0.same (s6.trans S6);have u1:=t1.same (s6.trans S6);have u2:=t2.same (s6.trans S6);have u3:=t3.same (s6.trans S6);have u4:=t4.same (s6.trans S6);have u5:=x5.same (s6.trans S6);have dd5:=S6 _ _ (s6 _ _ d5);have v0:=((((y0.same w1).same w2).same w3).same w4).same s7;have v1:=(((y1.same w2).same w3).same w4).same s7;have v2:=((y2.same w3).same w4).same s7;have v3:=(y3.same w4).same s7;have v4:=y4.same s7;refine gc hpA hp7' (by show 6+5≤sizeLine;omega) λp8 hp8=>⟨p8,rfl,⟨_,SqL.of aa⟩,?_⟩;have s8:=ae hp8 (.lst ([V.ref a0,V.ref a1,V.ref a2,V.ref a3,V.ref a4,V.ref a5]++[V.ref b0,V.ref b1,V.ref b2,V.ref b3,V.ref b4]));have hp8':upd H7 p8 (.lst ([V.ref a0,V.ref a1,V.ref a2,V.ref a3,V.ref a4,V.ref a5]++[V.ref b0,V.ref b1,V.ref b2,V.ref b3,V.ref b4])) p8=some (.lst ([V.ref a0,V.ref a1,V.ref a2,V.ref a3,V.ref a4,V.ref a5]++[V.ref b0,V.ref b1,V.ref b2,V.ref b3,V.ref b4])):=aa;generalize upd H7 p8 (.lst ([V.ref a0,V.ref a1,V.ref a2,V.ref a3,V.ref a4,V.ref a5]++[V.ref b0,V.ref b1,V.ref b2,V.ref b3,V.ref b4]))=H8 at s8 hp8' ⊢;have each:∀x∈[V.ref a0,V.ref a1,V.ref a2,V.ref a3,V.ref a4,V.ref a5]++[V.ref b0,V.ref b1,V.ref b2,V.ref b3,V.ref b4],∃(a C:Addr) (fs:List (Str×V)),x=.ref a∧XAt H7 a C fs∧Xc K C (cbm κ):=λx hx=>by
  simp only[aco,adn,aav,aam,or_false] at hx;rcases hx with rfl | rfl | rfl | rfl | rfl | rfl | rfl | rfl | rfl | rfl | rfl
  ·exact ⟨_,_,_,rfl,u0,er.x_noBox⟩
  ·exact ⟨_,_,_,rfl,u1,er.x_noTerm⟩
  ·exact ⟨_,_,_,rfl,u2,er.x_badCover⟩
  ·exact ⟨_,_,_,rfl,u3,er.x_noCover⟩
  ·exact ⟨_,_,_,rfl,u4,er.x_badRow⟩
  ·exact ⟨_,_,_,rfl,u5,er.x_unsound⟩
  ·exact ⟨_,_,_,rfl,v0,er.x_noValue⟩
  ·exact ⟨_,_,_,rfl,v1,er.x_twice⟩
  ·exact ⟨_,_,_,rfl,v2,er.x_noName⟩
  ·exact ⟨_,_,_,rfl,v3,er.x_badShape⟩
  ·exact ⟨_,_,_,rfl,v4,er.x_badDeed⟩
 refine gg (xs:=[V.ref a0,V.ref a1,V.ref a2,V.ref a3,V.ref a4,V.ref a5]++[V.ref b0,V.ref b1,V.ref b2,V.ref b3,V.ref b4]) (λi σ H'=>∃v,σ=[some (.ref p),some (.ref p7),v]∧ah H8 H') ⟨none,rfl,ah.refl _⟩ (λi σ H' _ h=>?_) ?_ ?_
 ·obtain ⟨_,_,h⟩:=h;exact SqL.of (h _ _ hp8')
 ·rintro i x σ H' hx ⟨v,rfl,s9⟩;obtain ⟨a,C,fs,rfl,hX,hC⟩:=each x (abf hx);push_cast [and_true];have is:=(hX.same (s8.trans s9)).is hC;refine ⟨C,cbm κ,is,⟨_,er.x_cov⟩,?_⟩;rw[isC,decide_eq_true (rfl:κ.cov=κ.cov),abh,if_neg (by decide)];refine ⟨C,cbm κ,is,by decide+kernel,?_⟩;rw[show (cbm κ).contains (Value.type "ValueError")=true from hC.hv,if_neg (by decide)];exact s9
 ·rintro σ H' ⟨v,rfl,s9⟩;push_cast [and_true];have s79:=s8.trans s9;have hp9:=s79 _ _ hp7';refine ⟨⟨_,SqL.of hp9⟩,gg (xs:=[V.ref b0,V.ref b1,V.ref b2,V.ref b3,V.ref b4]) (λi σ H2=>∃v,σ=[some (.ref p),some (.ref p7),v]∧ah H' H2) ⟨v,rfl,ah.refl _⟩ (λi σ H2 _ h=>?_) ?_ ?_⟩
  ·obtain ⟨_,_,h⟩:=h;exact SqL.of (h _ _ hp9)
  ·rintro i x σ H2 hx ⟨v,rfl,sA⟩;obtain ⟨a,C,rfl,hX,hC,hw⟩:∃(a C:Addr),x=.ref a∧XAt H7 a C [("word",.str "x")]∧Xc K C (cbm κ)∧PySem.W.findIn K (.ref C) "word"=some none:=by
    have hx:=abf hx;simp only[aav,aam,or_false] at hx;rcases hx with rfl | rfl | rfl | rfl | rfl
    ·exact ⟨_,_,rfl,v0,er.x_noValue,G.w_NoValue⟩
    ·exact ⟨_,_,rfl,v1,er.x_twice,G.w_Twice⟩
    ·exact ⟨_,_,rfl,v2,er.x_noName,G.w_NoName⟩
    ·exact ⟨_,_,rfl,v3,er.x_badShape,G.w_BadShape⟩
    ·exact ⟨_,_,rfl,v4,er.x_badDeed,G.w_BadDeed⟩
   push_cast [and_true];refine fz (hX.same (s79.trans sA)) hC hw (v:=.str "x") (by rw[ab1];rfl) (λR h=>⟨_,rfl,h⟩) ⟨rfl,?_⟩;rw[if_neg (by simp)];exact sA
  ·rintro σ H2 ⟨v,rfl,sA⟩;push_cast [and_true];have S:=s79.trans sA;have hpB:=S _ _ hpA;have g4:∀R:VK,R (.ref a4) H2→tOp (rIxL K) (tVar 0) (tC (V.int 4)) [some (V.ref p),some (V.ref p7),v] H2 R:=λR h=>⟨_,rfl,ar hpB rfl h⟩;have g5:∀R:VK,R (.ref a5) H2→tOp (rIxL K) (tVar 0) (tC (V.int 5)) [some (V.ref p),some (V.ref p7),v] H2 R:=λR h=>⟨_,rfl,ar hpB rfl h⟩;have z5:=u5.same S;refine fz (u4.same S) er.x_badRow G.w_BadRow (v:=.int 5) (by rw[ab1];rfl) g4 ⟨rfl,?_⟩;rw[if_pos rfl];refine fz z5 er.x_unsound G.w_Unsound (v:=.str "x") (by rw[ab1,show (("word":Str)==("worths":Str))=false by decide+kernel,ab1];rfl) g5 ⟨rfl,?_⟩;rw[if_pos rfl];refine fz z5 er.x_unsound G.w2_Unsound (v:=.ref l5) (by rw[ab1];rfl) g5 ?_;intro pB hpB;refine ⟨aa,[(Sum.inr "h1",.int 2)],rfl,by decide,?_⟩;have sB:ah H2 (upd (upd H2 pB (.dK [])) pB (.dK (bq [] [(Sum.inr "h1",V.int 2)]))):=(ae hpB _).upd hpB _;have fl:∀kv∈[((Sum.inr "h1":Key),V.int 2)],cm kv.2=true:=λkv h=>by rw[List.mem_singleton.mp h];rfl
   refine ⟨l5,pB,[(Sum.inr "h1",V.int 2)],[(Sum.inr "h1",V.int 2)],rfl,rfl,.inl (sB _ _ (S _ _ dd5)),.inl aa,fl,fl,?_⟩;rw[show (if false=true then !eqD [((Sum.inr "h1":Key),V.int 2)] [(Sum.inr "h1",V.int 2)] else eqD [((Sum.inr "h1":Key),V.int 2)] [(Sum.inr "h1",V.int 2)])=true by decide+kernel];exact q _ ((((S7.trans s8).trans s9).trans sA).trans sB)
noncomputable abbrev de:Stmt:=top 27
theorem ou:ao ["rows","values","due","caught","handed","e"] ["rows","values","due"] (af de):=⟨rfl,rfl,rfl,by decide+kernel,rfl,by decide+kernel,by decide+kernel⟩
theorem vw (G:Gs w K mg κ) (h_run:dz P w K mg base k "run" ["rows","values"] (ig K κ)) (D:Def K mg "_law_refused" de ["rows","values","due"]):Has P w K mg base (k+1) "_law_refused" ["rows","values","due"] (dm K):=by
 refine D.has ou (λvs H Q E h=>?_) (λf cdv A outer s H vs Q E hr h=>?_)
 ·obtain ⟨_,_,_,_,_,_,_,_,_,rfl,_,_,_,_,_,_,_,_,_,_,_⟩:=h;rfl
 have nd:=ou.nd;have hu:=d3 hr;have hu0:=aas hu;obtain ⟨l,vl,d,rs,ts,fs,vals,t,f,rfl,hL,hl,hI,hV,hnd,hvi,hR,ht,hB,hd,q⟩:=h;have m_BadCover:=G.er.m_badCover;have m_BadDeed:=G.er.m_badDeed;have m_BadRow:=G.er.m_badRow;have m_BadShape:=G.er.m_badShape;have m_CoverError:=G.er.m_cov;have m_NoBox:=G.er.m_noBox;have m_NoCover:=G.er.m_noCover;have m_NoName:=G.er.m_noName;have m_NoTerm:=G.er.m_noTerm;have m_NoValue:=G.er.m_noValue;have m_Twice:=G.er.m_twice;have m_Unsound:=G.er.m_unsound;have m_ValueError:=G.m_ValueError;have m_dict:=G.m_dict;have m_isinstance:=G.m_isinstance;have m_list:=G.m_list;have m_str:=G.m_str;refine ⟨_,(A5 (A8 3 nd (by first | exact aa1 rfl | exact aa0 rfl) (@pe_non _ _ _) (by first | exact .inl rfl | exact .inr rfl | assumption)) (A5 (A8 4 nd (by first | exact aa1 rfl | exact aa0 rfl) (AM (A1 (B2 (@i5 _) m_list vz (A1 (A0 0 (by first | exact aa1 rfl | exact aa0 (aa1 rfl) | exact aa0 (aa0 rfl))) (A4 0))) (A1 (B2 (@ji _) m_dict ux (A1 (A0 1 (by first | exact aa1 rfl | exact aa0 (aa1 rfl) | exact aa0 (aa0 rfl))) (A4 0))) (A4 0)))) (by first | exact .inl rfl | exact .inr rfl | assumption)) (A5 (@ps_try _ _ _ 5 _ _ _ _ _ _ _ _ _ _ (ada _ (ada _ (ada _ (aac rfl (aac rfl rfl))))) nd rfl rfl rfl G.er.x_cov m_CoverError (@By _ _ _ _ _ _ _ _ _ _ _ h_run hr (A1 (A7 (AD 0) (A0 4 (by first | exact aa1 rfl | exact aa0 (aa1 rfl) | exact aa0 (aa0 rfl))) (A2 0)) (A1 (A7 (AD 0) (A0 4 (by first | exact aa1 rfl | exact aa0 (aa1 rfl) | exact aa0 (aa0 rfl))) (A2 0)) (A4 0))) (by rfl) (by decide+kernel) (by rfl) (by rfl) (by rfl)) (λ_=>(A6 (A8 3 nd (by first | exact aa1 rfl | exact aa0 rfl) (A0 5 (by first | exact aa1 rfl | exact aa0 (aa1 rfl) | exact aa0 (aa0 rfl))) (by first | exact .inl rfl | exact .inr rfl | assumption)))) (by rfl) (by decide+kernel)) (A5 (AF (AI (@op_neH _ hu) (A0 4 (by first | exact aa1 rfl | exact aa0 (aa1 rfl) | exact aa0 (aa0 rfl))) (AM (A1 (A0 0 (by first | exact aa1 rfl | exact aa0 (aa1 rfl) | exact aa0 (aa0 rfl))) (A1 (A0 1 (by first | exact aa1 rfl | exact aa0 (aa1 rfl) | exact aa0 (aa0 rfl))) (A4 0)))) (AE 0)) (A6 (A9 (B4 0))) (AG 0)) (A5 (AF (B3 (AJ (@qp _) m_isinstance aw (A1 (A0 3 (by first | exact aa1 rfl | exact aa0 (aa1 rfl) | exact aa0 (aa0 rfl))) (A1 (AO (A1 (AQ m_BadCover) (A1 (AQ m_BadDeed) (A1 (AQ m_BadRow) (A1 (AQ m_BadShape) (A1 (AQ m_NoCover) (A1 (AQ m_NoName) (A1 (AQ m_NoTerm) (A1 (AQ m_Twice) (A1 (AQ m_Unsound) (A4 0))))))))))) (A4 0))))) (A6 (A9 (B4 0))) (AG 0)) (A5 (AF (@PW.pt _ _ _ (BA (B8 (B3 (AJ (@i3 _) m_isinstance aw (A1 (A0 3 (by first | exact aa1 rfl | exact aa0 (aa1 rfl) | exact aa0 (aa0 rfl))) (A1 (BD m_ValueError jc) (A4 0)))))) (@rj _ _ _ _ (AI (AK 0) (AJ (@cf _) m_isinstance aw (A1 (A0 3 (by first | exact aa1 rfl | exact aa0 (aa1 rfl) | exact aa0 (aa0 rfl))) (A1 (AQ m_NoBox) (A4 0)))) (AJ (@cf _) m_isinstance aw (A1 (A0 3 (by first | exact aa1 rfl | exact aa0 (aa1 rfl) | exact aa0 (aa0 rfl))) (A1 (AQ m_NoValue) (A4 0)))) (AE 0))))) (A6 (A9 (B4 0))) (AG 0)) (A5 (AF (AI (@op_ne _) (A7 (@eh _) (A0 2 (by first | exact aa1 rfl | exact aa0 (aa1 rfl) | exact aa0 (aa0 rfl))) (A2 0)) (AA 0) (AE 0)) (A6 (A9 (AJ (@cf _) m_isinstance aw (A1 (A0 3 (by first | exact aa1 rfl | exact aa0 (aa1 rfl) | exact aa0 (aa0 rfl))) (A1 (AQ m_NoBox) (A4 0)))))) (AG 0)) (A6 (A9 (B6 (AJ (@cf _) m_isinstance aw (A1 (A0 3 (by first | exact aa1 rfl | exact aa0 (aa1 rfl) | exact aa0 (aa0 rfl))) (A1 (AQ m_NoValue) (A4 0)))) (B6 (AJ (@j0 _) m_isinstance aw (A1 (B5 (A0 3 (by first | exact aa1 rfl | exact aa0 (aa1 rfl) | exact aa0 (aa0 rfl)))) (A1 (BD m_str b_str) (A4 0)))) (@vg _ _ _ _ _ (B9 (AK 0) (B5 (A0 3 (by first | exact aa1 rfl | exact aa0 (aa1 rfl) | exact aa0 (aa0 rfl)))) (A7 (@eh _) (A0 2 (by first | exact aa1 rfl | exact aa0 (aa1 rfl) | exact aa0 (aa0 rfl))) (A2 0)) (AE 0)))))))))))))),?_⟩;rw[show start ["rows","values","due","caught","handed","e"] [.ref l,.ref vl,.ref d]=[some (.ref l),some (.ref vl),some (.ref d),none,none,none] from rfl];push_cast [ig];have sz:=sizeLine_eq;have er:=G.er;refine ⟨rs,.inl (SqL.of hL),λl1 hl1=>⟨vals,.inl (ae hl1 _ _ _ hV),λl2 hl2=>⟨by show (2:Nat)≤sizeLine;decide,λp hp=>?_⟩⟩⟩;have n1:=ae hl1 (.lst rs);have n2:=ae hl2 (.dK vals);have n3:=ae hp (.lst [V.ref l1,V.ref l2]);have e1:=n3 _ _ (n2 _ _ (aa (H:=H) (a:=l1) (o:=.lst rs)));have e2:=n3 _ _ (aa (H:=upd H l1 (.lst rs)) (a:=l2) (o:=.dK vals));have e3:upd (upd (upd H l1 (.lst rs)) l2 (.dK vals)) p (.lst [V.ref l1,V.ref l2]) p=some (.lst [V.ref l1,V.ref l2]):=aa;have s1:=(n1.trans n2).trans n3;generalize upd (upd (upd H l1 (.lst rs)) l2 (.dK vals)) p (.lst [V.ref l1,V.ref l2])=H1 at e1 e2 e3 s1 ⊢;push_cast [tTry,zm,ig];refine ar e3 rfl (ar e3 rfl ⟨l1,rfl,l2,rfl,rs,SqL.of e1,hl,ts,hI.same s1,fs,vals,e2,hR,.inr ⟨t,ht,f,hB,Bs λC dx H2 s2 hc=>?_⟩⟩);obtain ⟨hxC,hne⟩:Xc K C (cbm κ)∧(C=κ.noBox∨C=κ.noValue):=by
  rcases hc with ⟨rfl,_⟩ | ⟨z,dd,rfl,_⟩
  ·exact ⟨er.x_noBox,.inl rfl⟩
  ·exact ⟨er.x_noValue,.inr rfl⟩
 refine ⟨C,rfl,cbm κ,hxC,by rw[isC,decide_eq_true (rfl:κ.cov=κ.cov),abh],λe he=>?_⟩;have s3:=ae he (XO e C dx false);obtain ⟨fe,hX,hfe⟩:∃fe:List (Str×V),XAt (upd H2 e (XO e C dx false)) e C fe∧∀z,f=some z→C=κ.noValue∧fe=[(("word":Str),V.str z)]:=by
  rcases hc with ⟨rfl,rfl,rfl⟩ | ⟨z,dd,rfl,rfl,hdd,rfl⟩
  ·exact ⟨[],⟨false,.inl ⟨aa,rfl⟩⟩,λz h=>nomatch h⟩
  ·exact ⟨_,⟨false,.inr ⟨dd,aa,s3 _ _ hdd⟩⟩,λz' h=>by cases h;exact ⟨rfl,rfl⟩⟩
 have hbx:f=none→C=κ.noBox:=λh=>by
  rcases hc with ⟨rfl,_⟩ | ⟨z,dd,_,_,_,h'⟩
  ·rfl
  ·rw[h] at h';cases h'
 generalize upd H2 e (XO e C dx false)=H3 at s3 hX ⊢;have S3:ah H1 H3:=s2.trans s3;have S03:=s1.trans S3;refine ⟨by show (2:Nat)≤sizeLine;decide,λp4 hp4=>?_⟩;have s4:=ae hp4 (.lst [V.ref l,V.ref vl]);have flat:∀kv∈vals,cm kv.2=true:=λkv h=>by
  obtain ⟨n,e⟩:=hvi kv h;rw[e];rfl
 refine ⟨p,p4,l1,l,l2,vl,rs,vals,vals,rfl,rfl,SqL.of (s4 _ _ (S3 _ _ e3)),SqL.of aa,SqL.of (s4 _ _ (S3 _ _ e1)),SqL.of (s4 _ _ (S03 _ _ hL)),hI.refs,.inl (s4 _ _ (S3 _ _ e2)),.inl (s4 _ _ (S03 _ _ hV)),flat,flat,Aa hnd hvi,false,rfl,iteF ?_⟩;have hX4:=hX.same s4;have S04:=S03.trans s4;generalize upd H3 p4 (.lst [V.ref l,V.ref vl])=H4 at hX4 S04 ⊢;refine ⟨by show (9:Nat)≤sizeLine;decide,λp5 hp5=>?_⟩;have s5:=ae hp5 (.tup [V.ref κ.badCover,V.ref κ.badDeed,V.ref κ.badRow,V.ref κ.badShape,V.ref κ.noCover,V.ref κ.noName,V.ref κ.noTerm,V.ref κ.twice,V.ref κ.unsound]);have h5:upd H4 p5 (.tup [V.ref κ.badCover,V.ref κ.badDeed,V.ref κ.badRow,V.ref κ.badShape,V.ref κ.noCover,V.ref κ.noName,V.ref κ.noTerm,V.ref κ.twice,V.ref κ.unsound]) p5=some (.tup [V.ref κ.badCover,V.ref κ.badDeed,V.ref κ.badRow,V.ref κ.badShape,V.ref κ.noCover,V.ref κ.noName,V.ref κ.noTerm,V.ref κ.twice,V.ref κ.unsound]):=aa;generalize upd H4 p5 (.tup [V.ref κ.badCover,V.ref κ.badDeed,V.ref κ.badRow,V.ref κ.badShape,V.ref κ.noCover,V.ref κ.noName,V.ref κ.noTerm,V.ref κ.twice,V.ref κ.unsound])=H5 at s5 h5 ⊢;have hX5:=hX4.same s5;have is5:=hX5.is hxC;have S05:=S04.trans s5;refine ⟨[κ.badCover,κ.badDeed,κ.badRow,κ.badShape,κ.noCover,κ.noName,κ.noTerm,κ.twice,κ.unsound],h5,λD hD=>?_,_,⟨_,_,is5,rfl⟩,?_⟩
 ·simp only[aav,aam,or_false] at hD;rcases hD with rfl | rfl | rfl | rfl | rfl | rfl | rfl | rfl | rfl
  ·exact ⟨_,er.x_badCover⟩
  ·exact ⟨_,er.x_badDeed⟩
  ·exact ⟨_,er.x_badRow⟩
  ·exact ⟨_,er.x_badShape⟩
  ·exact ⟨_,er.x_noCover⟩
  ·exact ⟨_,er.x_noName⟩
  ·exact ⟨_,er.x_noTerm⟩
  ·exact ⟨_,er.x_twice⟩
  ·exact ⟨_,er.x_unsound⟩
 rw[anyC (λD hD=>?_)]
 ·refine iteF ⟨C,cbm κ,is5,by decide+kernel,?_⟩;rw[show (cbm κ).contains (Value.type "ValueError")=true from hxC.hv,if_neg (by decide)];refine ⟨C,cbm κ,is5,⟨_,er.x_noBox⟩,C,cbm κ,is5,⟨_,er.x_noValue⟩,rfl,?_⟩;have nb:κ.noValue≠κ.noBox:=er.ne 6 2 rfl rfl (by decide);have c1:κ.noBox≠κ.cov:=er.ne 2 0 rfl rfl (by decide);have c2:κ.noValue≠κ.cov:=er.ne 6 0 rfl rfl (by decide);have hd5:=S05 _ _ hd;have cs:(∃(b:Int) (z:Str),f=some z∧t=[.str "load",.int b,.str z])∨(f=none∧∃z0:Str,atI t 0=some (.str z0)∧z0≠"load"):=by
   cases hB with
   | load b z h=>exact .inl ⟨b,z,rfl,rfl⟩
   | neg b x hx h=>exact .inr ⟨rfl,_,rfl,by decide+kernel⟩
   | bin z b x y hz hx hy h=>exact .inr ⟨rfl,z,rfl,λe=>by rw[e] at hz;exact absurd hz (by decide+kernel)⟩
  rcases cs with ⟨b,z,ef,rfl⟩ | ⟨ef,z0,hz0,n0⟩
  ·obtain ⟨eC,efe⟩:=hfe z ef;rw[isC,isC,eC,decide_eq_true (rfl:κ.noValue=κ.noValue),decide_eq_false (Ne.symm nb),decide_eq_false c1,aca,Bool.or_self,if_neg (by decide)];refine bw hd5 rfl ⟨rfl,?_⟩;rw[decide_eq_true rfl,if_neg (by decide)];refine ⟨C,cbm κ,is5,⟨_,er.x_noValue⟩,?_⟩;rw[isC,eC,decide_eq_true (rfl:κ.noValue=κ.noValue),aca,if_pos rfl];have hl:fe.lookup ("word":Str)=some (V.str z):=by rw[efe,ab1];rfl
   have hw:PySem.W.findIn K (.ref C) "word"=some none:=by rw[eC];exact G.w_NoValue
   refine fz hX5 hxC hw hl (λR h=>⟨_,rfl,h⟩) ⟨_,.str z,true,rfl,?_⟩;rw[if_pos rfl];refine fz hX5 hxC hw hl (λR h=>⟨_,rfl,h⟩) (bw hd5 rfl ⟨rfl,?_⟩);rw[decide_eq_true rfl];exact q _ S05
  ·have eC:=hbx ef;rw[isC,isC,eC,decide_eq_true (rfl:κ.noBox=κ.noBox),decide_eq_false nb,decide_eq_false c2,aca,Bool.or_self,if_neg (by decide)];refine bw hd5 hz0 ⟨rfl,?_⟩;have n1:¬V.str z0=V.str "load":=λh=>n0 (V.str.inj h);rw[decide_eq_false n1,if_pos (by decide)];refine ⟨C,cbm κ,is5,⟨_,er.x_noBox⟩,?_⟩;rw[isC,eC,decide_eq_true (rfl:κ.noBox=κ.noBox),aca];exact q _ S05
 ·rcases hne with e | e
  ·rw[e];simp only[aav,aam,or_false] at hD;rcases hD with rfl | rfl | rfl | rfl | rfl | rfl | rfl | rfl | rfl
   ·exact ⟨er.ne 3 2 rfl rfl (by decide),er.ne 3 0 rfl rfl (by decide)⟩
   ·exact ⟨er.ne 10 2 rfl rfl (by decide),er.ne 10 0 rfl rfl (by decide)⟩
   ·exact ⟨er.ne 5 2 rfl rfl (by decide),er.ne 5 0 rfl rfl (by decide)⟩
   ·exact ⟨er.ne 9 2 rfl rfl (by decide),er.ne 9 0 rfl rfl (by decide)⟩
   ·exact ⟨er.ne 4 2 rfl rfl (by decide),er.ne 4 0 rfl rfl (by decide)⟩
   ·exact ⟨er.ne 8 2 rfl rfl (by decide),er.ne 8 0 rfl rfl (by decide)⟩
   ·exact ⟨er.ne 1 2 rfl rfl (by decide),er.ne 1 0 rfl rfl (by decide)⟩
   ·exact ⟨er.ne 7 2 rfl rfl (by decide),er.ne 7 0 rfl rfl (by decide)⟩
   ·exact ⟨er.ne 11 2 rfl rfl (by decide),er.ne 11 0 rfl rfl (by decide)⟩
  ·rw[e];simp only[aav,aam,or_false] at hD;rcases hD with rfl | rfl | rfl | rfl | rfl | rfl | rfl | rfl | rfl
   ·exact ⟨er.ne 3 6 rfl rfl (by decide),er.ne 3 0 rfl rfl (by decide)⟩
   ·exact ⟨er.ne 10 6 rfl rfl (by decide),er.ne 10 0 rfl rfl (by decide)⟩
   ·exact ⟨er.ne 5 6 rfl rfl (by decide),er.ne 5 0 rfl rfl (by decide)⟩
   ·exact ⟨er.ne 9 6 rfl rfl (by decide),er.ne 9 0 rfl rfl (by decide)⟩
   ·exact ⟨er.ne 4 6 rfl rfl (by decide),er.ne 4 0 rfl rfl (by decide)⟩
   ·exact ⟨er.ne 8 6 rfl rfl (by decide),er.ne 8 0 rfl rfl (by decide)⟩
   ·exact ⟨er.ne 1 6 rfl rfl (by decide),er.ne 1 0 rfl rfl (by decide)⟩
   ·exact ⟨er.ne 7 6 rfl rfl (by decide),er.ne 7 0 rfl rfl (by decide)⟩
   ·exact ⟨er.ne 11 6 rfl rfl (by decide),er.ne 11 0 rfl rfl (by decide)⟩
noncomputable abbrev qj:Stmt:=top 28
theorem scLaw:ao ["script","names","values","rows","cell","spoiled","first","due","k","at","bad","more","behind","lacking","later","some","found"] ["script"] (af qj):=⟨rfl,rfl,rfl,by decide+kernel,rfl,by decide+kernel,by decide+kernel⟩
theorem hasLaw {f:Addr} {fd:FuncData} (G:Gs w K mg κ) (h_law_cell_at:Has P w K mg base k "_law_cell_at" ["script","k"] (fu K)) (h_law_failing:Has P w K mg base k "_law_failing" ["rows","at","cell","names"] (d8 K)) (h_law_full:Has P w K mg base k "_law_full" ["rows"] (ic K)) (h_law_made:Has P w K mg base k "_law_made" [] jg) (h_law_names:Has P w K mg base k "_law_names" ["cell"] gf) (h_law_refused:Has P w K mg base k "_law_refused" ["rows","values","due"] (dm K)) (h_law_row:Has P w K mg base k "_law_row" ["cell","full","names"] (i0 K)) (h_run:dz P w K mg base k "run" ["rows","values"] (ig K κ)) (F:Fun K "law" "law" qj f fd):cx P w K mg base CX0 (k+1) f fd ["script"] (wt K):=by
 refine F.ok scLaw (λvs H Q E h=>?_) (λcdv A outer s H vs Q E hr h=>?_)
 ·obtain ⟨_,_,rfl,_,_,_⟩:=h;rfl
 have nd:=scLaw.nd;have hu:=d3 hr;have hu0:=aas hu;obtain ⟨a,ns,rfl,hL,hl0,q⟩:=h;have m_dict:=G.m_dict;have m_isinstance:=G.m_isinstance;have m_len:=G.m_len;have m_list:=G.m_list;have m_range:=G.m_range;have m_sorted:=G.m_sorted;refine ⟨_,(A5 (A8 1 nd (by first | exact aa1 rfl | exact aa0 rfl) (AN h_law_names hr (A1 (AN h_law_cell_at hr (A1 (A0 0 (by first | exact aa1 rfl | exact aa0 (aa1 rfl) | exact aa0 (aa0 rfl))) (A1 (A2 0) (A4 0)))) (A4 0))) (by first | exact .inl rfl | exact .inr rfl | assumption)) (A5 (A8 2 nd (by first | exact aa1 rfl | exact aa0 rfl) (BI (B0 (A7 (AD 0) (A0 1 (by first | exact aa1 rfl | exact aa0 (aa1 rfl) | exact aa0 (aa0 rfl))) (A2 0)) (A2 0) (B0 (A7 (AD 0) (A0 1 (by first | exact aa1 rfl | exact aa0 (aa1 rfl) | exact aa0 (aa0 rfl))) (A2 0)) (@pe_un _ _ _ _ _ _ (@Bo _) (A2 0)) (B0 (A7 (AD 0) (A0 1 (by first | exact aa1 rfl | exact aa0 (aa1 rfl) | exact aa0 (aa0 rfl))) (A2 0)) (A3 (@Ay _) (A2 0) (A2 0)) (B0 (A7 (AD 0) (A0 1 (by first | exact aa1 rfl | exact aa0 (aa1 rfl) | exact aa0 (aa0 rfl))) (A2 0)) (A2 0) (B0 (A7 (AD 0) (A0 1 (by first | exact aa1 rfl | exact aa0 (aa1 rfl) | exact aa0 (aa0 rfl))) (A2 0)) (A3 (AB 0) (AN h_law_cell_at hr (A1 (A0 0 (by first | exact aa1 rfl | exact aa0 (aa1 rfl) | exact aa0 (aa0 rfl))) (A1 (A2 0) (A4 0)))) (A2 0)) (@ql _ _)))))) (λe=>nomatch e)) (by first | exact .inl rfl | exact .inr rfl | assumption)) (A5 (A8 3 nd (by first | exact aa1 rfl | exact aa0 rfl) (AM (A4 0)) (by first | exact .inl rfl | exact .inr rfl | assumption)) (A5 (BC (AW (AR (@ee _) (A0 0 (by first | exact aa1 rfl | exact aa0 (aa1 rfl) | exact aa0 (aa0 rfl))) (AT 0) (AS (A2 0)))) (B7 4 nd (by first | exact aa1 rfl | exact aa0 rfl) (by first | exact .inl rfl | exact .inr rfl | assumption)) (A6 (@dk _ _ _ _ (@pe_bm _ _ _ _ _ _ _ _ _ _ _ _ PySem.F.plainAttrs_list PySem.F.slot_list_append PySem.F.type_list_append (@jx _) (A0 3 (by first | exact aa1 rfl | exact aa0 (aa1 rfl) | exact aa0 (aa0 rfl))) (A1 (AN h_law_row hr (A1 (A0 4 (by first | exact aa1 rfl | exact aa0 (aa1 rfl) | exact aa0 (aa0 rfl))) (A1 (AN h_law_full hr (A1 (A0 3 (by first | exact aa1 rfl | exact aa0 (aa1 rfl) | exact aa0 (aa0 rfl))) (A4 0))) (A1 (A0 1 (by first | exact aa1 rfl | exact aa0 (aa1 rfl) | exact aa0 (aa0 rfl))) (A4 0))))) (A4 0)) (by rfl) (by rfl) (by rfl) (by rfl) (by rfl)) (by rfl)))) (A5 (A8 5 nd (by first | exact aa1 rfl | exact aa0 rfl) (B2 (@i5 _) m_list vz (A1 (A0 3 (by first | exact aa1 rfl | exact aa0 (aa1 rfl) | exact aa0 (aa0 rfl))) (A4 0))) (by first | exact .inl rfl | exact .inr rfl | assumption)) (A5 (A8 6 nd (by first | exact aa1 rfl | exact aa0 rfl) (A3 (AL 0) (AJ (AV 0) m_len i4 (A1 (A0 3 (by first | exact aa1 rfl | exact aa0 (aa1 rfl) | exact aa0 (aa0 rfl))) (A4 0))) (A2 0)) (by first | exact .inl rfl | exact .inr rfl | assumption)) (A5 (A8 7 nd (by first | exact aa1 rfl | exact aa0 rfl) (AO (A4 0)) (by first | exact .inl rfl | exact .inr rfl | assumption)) (A5 (BC (BG m_range (A1 (A3 (AL 0) (A2 0) (A3 (AB 0) (AN h_law_cell_at hr (A1 (A0 0 (by first | exact aa1 rfl | exact aa0 (aa1 rfl) | exact aa0 (aa0 rfl))) (A1 (A2 0) (A4 0)))) (A2 0))) (A4 0))) (B7 8 nd (by first | exact aa1 rfl | exact aa0 rfl) (by first | exact .inl rfl | exact .inr rfl | assumption)) (A5 (A8 4 nd (by first | exact aa1 rfl | exact aa0 rfl) (A3 (AL 0) (A3 (AL 0) (A3 (AH 0) (AN h_law_cell_at hr (A1 (A0 0 (by first | exact aa1 rfl | exact aa0 (aa1 rfl) | exact aa0 (aa0 rfl))) (A1 (A2 0) (A4 0)))) (A2 0)) (A3 (AH 0) (AN h_law_cell_at hr (A1 (A0 0 (by first | exact aa1 rfl | exact aa0 (aa1 rfl) | exact aa0 (aa0 rfl))) (A1 (A2 0) (A4 0)))) (A3 (AL 0) (A2 0) (A3 (@lu _) (A2 0) (A0 8 (by first | exact aa1 rfl | exact aa0 (aa1 rfl) | exact aa0 (aa0 rfl))))))) (A3 (@lu _) (A0 8 (by first | exact aa1 rfl | exact aa0 (aa1 rfl) | exact aa0 (aa0 rfl))) (A0 8 (by first | exact aa1 rfl | exact aa0 (aa1 rfl) | exact aa0 (aa0 rfl))))) (by first | exact .inl rfl | exact .inr rfl | assumption)) (A5 (A8 9 nd (by first | exact aa1 rfl | exact aa0 rfl) (A3 (AB 0) (A0 4 (by first | exact aa1 rfl | exact aa0 (aa1 rfl) | exact aa0 (aa0 rfl))) (A3 (AL 0) (AJ (AV 0) m_len i4 (A1 (A0 3 (by first | exact aa1 rfl | exact aa0 (aa1 rfl) | exact aa0 (aa0 rfl))) (A4 0))) (A2 0))) (by first | exact .inl rfl | exact .inr rfl | assumption)) (A5 (A8 10 nd (by first | exact aa1 rfl | exact aa0 rfl) (AN h_law_failing hr (A1 (A0 3 (by first | exact aa1 rfl | exact aa0 (aa1 rfl) | exact aa0 (aa0 rfl))) (A1 (A0 9 (by first | exact aa1 rfl | exact aa0 (aa1 rfl) | exact aa0 (aa0 rfl))) (A1 (A3 (AH 0) (A0 4 (by first | exact aa1 rfl | exact aa0 (aa1 rfl) | exact aa0 (aa0 rfl))) (A3 (AL 0) (AJ (AV 0) m_len i4 (A1 (A0 3 (by first | exact aa1 rfl | exact aa0 (aa1 rfl) | exact aa0 (aa0 rfl))) (A4 0))) (A2 0))) (A1 (A0 1 (by first | exact aa1 rfl | exact aa0 (aa1 rfl) | exact aa0 (aa0 rfl))) (A4 0)))))) (by first | exact .inl rfl | exact .inr rfl | assumption)) (A6 (AF (AI (@op_lt _) (A0 9 (by first | exact aa1 rfl | exact aa0 (aa1 rfl) | exact aa0 (aa0 rfl))) (A0 6 (by first | exact aa1 rfl | exact aa0 (aa1 rfl) | exact aa0 (aa0 rfl))) (AE 0)) (A5 (A8 6 nd (by first | exact aa1 rfl | exact aa0 rfl) (A0 9 (by first | exact aa1 rfl | exact aa0 (aa1 rfl) | exact aa0 (aa0 rfl))) (by first | exact .inl rfl | exact .inr rfl | assumption)) (A5 (A8 7 nd (by first | exact aa1 rfl | exact aa0 rfl) (A0 10 (by first | exact aa1 rfl | exact aa0 (aa1 rfl) | exact aa0 (aa0 rfl))) (by first | exact .inl rfl | exact .inr rfl | assumption)) (A6 (A8 5 nd (by first | exact aa1 rfl | exact aa0 rfl) (A3 (@jy _) (A3 (@jy _) (AR (@ee _) (A0 3 (by first | exact aa1 rfl | exact aa0 (aa1 rfl) | exact aa0 (aa0 rfl))) (AT 0) (AS (A0 9 (by first | exact aa1 rfl | exact aa0 (aa1 rfl) | exact aa0 (aa0 rfl))))) (AM (A1 (A0 10 (by first | exact aa1 rfl | exact aa0 (aa1 rfl) | exact aa0 (aa0 rfl))) (A4 0)))) (AR (@ee _) (A0 3 (by first | exact aa1 rfl | exact aa0 (aa1 rfl) | exact aa0 (aa0 rfl))) (AS (A0 9 (by first | exact aa1 rfl | exact aa0 (aa1 rfl) | exact aa0 (aa0 rfl)))) (AT 0))) (by first | exact .inl rfl | exact .inr rfl | assumption))))) (AG 0))))))) (A5 (A8 11 nd (by first | exact aa1 rfl | exact aa0 rfl) (A3 (AH 0) (AN h_law_cell_at hr (A1 (A0 0 (by first | exact aa1 rfl | exact aa0 (aa1 rfl) | exact aa0 (aa0 rfl))) (A1 (A2 0) (A4 0)))) (A2 0)) (by first | exact .inl rfl | exact .inr rfl | assumption)) (A5 (A8 12 nd (by first | exact aa1 rfl | exact aa0 rfl) (A3 (AL 0) (A3 (AL 0) (A0 6 (by first | exact aa1 rfl | exact aa0 (aa1 rfl) | exact aa0 (aa0 rfl))) (A2 0)) (A3 (AB 0) (A0 11 (by first | exact aa1 rfl | exact aa0 (aa1 rfl) | exact aa0 (aa0 rfl))) (A3 (@vm _) (AJ (AV 0) m_len i4 (A1 (A0 5 (by first | exact aa1 rfl | exact aa0 (aa1 rfl) | exact aa0 (aa0 rfl))) (A4 0))) (A0 6 (by first | exact aa1 rfl | exact aa0 (aa1 rfl) | exact aa0 (aa0 rfl)))))) (by first | exact .inl rfl | exact .inr rfl | assumption)) (A5 (BH 13 nd (AX ["k"] ["names"] [1] (aac rfl trivial) (aac (aac rfl (aac rfl rfl)) trivial)) (AW (AM (B1 (AU (AU (AU (AU (AU (AU (AU (AU (@je.nil)))))))))))) (λ_ _ _=>(AY 0 (show ac3 (["k","names"]:List Str) by decide+kernel) (by first | exact .inl rfl | exact .inr rfl | assumption))) (λ_ _ _=>(@pif0 _)) (λ_ _ _=>(A7 (@sd _ K rfl) (A0 1 (by first | exact aa1 rfl | exact aa0 (aa1 rfl) | exact aa0 (aa0 rfl))) (A0 0 (by first | exact aa1 rfl | exact aa0 (aa1 rfl) | exact aa0 (aa0 rfl))))) (by first | exact .inl rfl | exact .inr rfl | assumption)) (A5 (A8 14 nd (by first | exact aa1 rfl | exact aa0 rfl) (AM (A1 (AO (A1 (AA 0) (A1 (A2 0) (A1 (A7 (AD 0) (A0 13 (by first | exact aa1 rfl | exact aa0 (aa1 rfl) | exact aa0 (aa0 rfl))) (A3 (AB 0) (A3 (AH 0) (A0 11 (by first | exact aa1 rfl | exact aa0 (aa1 rfl) | exact aa0 (aa0 rfl))) (A2 0)) (A2 0))) (A4 0))))) (A1 (AO (A1 (AA 0) (A1 (A2 0) (A1 (A7 (AD 0) (A0 13 (by first | exact aa1 rfl | exact aa0 (aa1 rfl) | exact aa0 (aa0 rfl))) (A3 (AB 0) (A3 (AH 0) (A0 11 (by first | exact aa1 rfl | exact aa0 (aa1 rfl) | exact aa0 (aa0 rfl))) (A2 0)) (A2 0))) (A4 0))))) (A1 (AO (B1 (AC (AU (AU (@je.nil)))))) (A4 0))))) (by first | exact .inl rfl | exact .inr rfl | assumption)) (A5 (A8 15 nd (by first | exact aa1 rfl | exact aa0 rfl) (A3 (@jy _) (A3 (@jy _) (AR (@ee _) (A0 5 (by first | exact aa1 rfl | exact aa0 (aa1 rfl) | exact aa0 (aa0 rfl))) (AT 0) (AS (A0 12 (by first | exact aa1 rfl | exact aa0 (aa1 rfl) | exact aa0 (aa0 rfl))))) (AR (@ee _) (A0 14 (by first | exact aa1 rfl | exact aa0 (aa1 rfl) | exact aa0 (aa0 rfl))) (AS (A3 (AB 0) (A0 11 (by first | exact aa1 rfl | exact aa0 (aa1 rfl) | exact aa0 (aa0 rfl))) (A2 0))) (AT 0))) (AR (@ee _) (A0 5 (by first | exact aa1 rfl | exact aa0 (aa1 rfl) | exact aa0 (aa0 rfl))) (AS (A0 12 (by first | exact aa1 rfl | exact aa0 (aa1 rfl) | exact aa0 (aa0 rfl)))) (AT 0))) (by first | exact .inl rfl | exact .inr rfl | assumption)) (A5 (AF (@PW.pt _ _ _ (BA (B8 (B3 (AN h_law_refused hr (A1 (A0 5 (by first | exact aa1 rfl | exact aa0 (aa1 rfl) | exact aa0 (aa0 rfl))) (A1 (A0 2 (by first | exact aa1 rfl | exact aa0 (aa1 rfl) | exact aa0 (aa0 rfl))) (A1 (A0 7 (by first | exact aa1 rfl | exact aa0 (aa1 rfl) | exact aa0 (aa0 rfl))) (A4 0))))))) (@rj _ _ _ _ (B8 (B3 (AN h_law_refused hr (A1 (A0 15 (by first | exact aa1 rfl | exact aa0 (aa1 rfl) | exact aa0 (aa0 rfl))) (A1 (A0 2 (by first | exact aa1 rfl | exact aa0 (aa1 rfl) | exact aa0 (aa0 rfl))) (A1 (A0 7 (by first | exact aa1 rfl | exact aa0 (aa1 rfl) | exact aa0 (aa0 rfl))) (A4 0)))))))))) (A6 (A9 (B4 0))) (AG 0)) (A5 (A8 16 nd (by first | exact aa1 rfl | exact aa0 rfl) (@Ds _ _ _ _ _ _ _ _ _ _ h_run hr (A1 (A0 3 (by first | exact aa1 rfl | exact aa0 (aa1 rfl) | exact aa0 (aa0 rfl))) (A1 (A0 2 (by first | exact aa1 rfl | exact aa0 (aa1 rfl) | exact aa0 (aa0 rfl))) (A4 0))) (by rfl) (by decide+kernel) (by rfl) (by rfl)) (by first | exact .inl rfl | exact .inr rfl | assumption)) (A6 (A9 (B6 (AJ (@j0 _) m_isinstance aw (A1 (A0 16 (by first | exact aa1 rfl | exact aa0 (aa1 rfl) | exact aa0 (aa0 rfl))) (A1 (BD m_dict ux) (A4 0)))) (B6 (B9 (@Bh _ hu0) (AJ (@m9 _ rfl) m_sorted sr (A1 (A0 16 (by first | exact aa1 rfl | exact aa0 (aa1 rfl) | exact aa0 (aa0 rfl))) (A4 0))) (AN h_law_full hr (A1 (A0 3 (by first | exact aa1 rfl | exact aa0 (aa1 rfl) | exact aa0 (aa0 rfl))) (A4 0))) (AE 0)) (@vg _ _ _ _ _ (@Dm _ _ _ _ _ _ h_law_made hr (by rfl) (by decide+kernel)))))))))))))))))))))),?_⟩;rw[show start ["script","names","values","rows","cell","spoiled","first","due","k","at","bad","more","behind","lacking","later","some","found"] [.ref a]=[some (.ref a),none,none,none,none,none,none,none,none,none,none,none,none,none,none,none,none] from rfl];push_cast [fu,d8,ic,jg,gf,dm,i0,ig];have sz:=sizeLine_eq;have e30:(10:Int) ^ ab2 30=1000000000000000000000000000000:=by decide+kernel
 refine ⟨⟨0,rfl⟩,ns,hL,hl0,λc0 ln H0 zs h13 hnd s0 hln=>?_⟩;push_cast [tDisp,rd,fu];intro vd hvd;have zat:∀k:Nat,k < 13→∃z,zs[k]?=some z∧atI (zs.map V.str) (k:Int)=some (.str z):=λk hk=>by
  have e:=aa4 (show k < zs.length by omega);exact ⟨_,e,cy (by rw[aag,e];rfl)⟩
 obtain ⟨z1,f1,g1⟩:=zat 1 (by decide);obtain ⟨z3,f3,g3⟩:=zat 3 (by decide);obtain ⟨z5,f5,g5⟩:=zat 5 (by decide);obtain ⟨z7,f7,g7⟩:=zat 7 (by decide);obtain ⟨z9,f9,g9⟩:=zat 9 (by decide);have sv:=ae hvd (.dK []);have hln1:=sv _ _ hln;have hL1:=(s0.trans sv).seq hL;have hv1:upd H0 vd (.dK []) vd=some (.dK []):=aa;generalize upd H0 vd (.dK [])=H1 at sv hln1 hL1 hv1 ⊢;refine ar hln1 g1 (ar hln1 g3 (ar hln1 g5 ⟨⟨by decide,by decide,by decide⟩,ar hln1 g7 (ar hln1 g9 ⟨⟨0,rfl⟩,ns,hL1,hl0,λc1=>⟨hv1,[(Sum.inr z1,.int 3),(Sum.inr z3,.int (-7)),(Sum.inr z5,.int (10 ^ ab2 30)),(Sum.inr z7,.int 0),(Sum.inr z9,.int (c1 % 1000))],rfl,abe rfl,ab0 _,λro hro=>?_⟩⟩)⟩));have small:∀n:Int,n.natAbs < 1000→n.natAbs < 2 ^ 200:=λn h=>acp h (by decide+kernel);have vok:qg zs (bq [] [(Sum.inr z1,V.int 3),(Sum.inr z3,.int (-7)),(Sum.inr z5,.int (10 ^ ab2 30)),(Sum.inr z7,.int 0),(Sum.inr z9,.int (c1 % 1000))]):=yj hnd f1 f3 f5 f7 f9 (small _ (by decide)) (small _ (by decide)) (by decide+kernel) (small _ (by decide)) (small _ (by omega));have hv2:upd H1 vd (.dK (bq [] [(Sum.inr z1,V.int 3),(Sum.inr z3,.int (-7)),(Sum.inr z5,.int (10 ^ ab2 30)),(Sum.inr z7,.int 0),(Sum.inr z9,.int (c1 % 1000))])) vd=some (.dK (bq [] [(Sum.inr z1,V.int 3),(Sum.inr z3,.int (-7)),(Sum.inr z5,.int (10 ^ ab2 30)),(Sum.inr z7,.int 0),(Sum.inr z9,.int (c1 % 1000))])):=aa;generalize bq [] [((Sum.inr z1:Key),V.int 3),(Sum.inr z3,.int (-7)),(Sum.inr z5,.int (10 ^ ab2 30)),(Sum.inr z7,.int 0),(Sum.inr z9,.int (c1 % 1000))]=vals at vok hv2 hro ⊢;have sV:ah H (upd H1 vd (.dK vals)):=(s0.trans sv).upd (s0.free hvd) _;have hln2:upd H1 vd (.dK vals) ln=some (.lst (zs.map V.str)):=by rw[ag (aj hln hvd)];exact hln1
 generalize upd H1 vd (.dK vals)=H2 at sV hv2 hln2 hro ⊢;obtain ⟨ms,em,hms⟩:=Ad ns none (some 50);refine ⟨ns.map V.int,(sV.trans (ae hro _)).seq hL,λsl hsl=>?_⟩;rw[em] at ⊢;have nsr:sl≠ro:=(aj aa hsl).symm;have hro0:H2 ro=none:=hro;refine ⟨⟨_,SqL.of aa⟩,gg (xs:=ms.map V.int) (λi σ H'=>∃(rs:List V) (ts:List (List V)) (fs:List (Int×Int)) (v4:Option V),σ=[some (.ref a),some (.ref ln),some (.ref vd),some (.ref ro),v4,none,none,none,none,none,none,none,none,none,none,none,none]∧ah H2 H'∧H' ro=some (.lst rs)∧H' sl=some (.lst (ms.map V.int))∧au H' rs ts∧cj vals ts fs∧fs.length=i∧kn (200+i) fs∧(∀t∈ts,Rowy t∧0≤cv t∧cv t < 9)∧ts.map cv=fs.map (·.1))
  ⟨[],[],[],none,rfl,(ae hro _).trans (ae hsl _),ae hsl _ _ _ aa,aa,au.nil _,cj.nil _,rfl,kn.nil _,(λ_ h=>nomatch h),rfl⟩ (λi σ H' _ h=>?_) ?_ ?_⟩
 ·obtain ⟨_,_,_,_,_,_,_,h,_⟩:=h;exact SqL.of h
 ·rintro i x σ H' hx ⟨rs,ts,fs,v4,rfl,s3,hr3,hs3,hI,hR,hfl,hB,hrw,hbf⟩;rw[aag] at hx;obtain ⟨c,hc,rfl⟩:=Option.map_eq_some_iff.mp hx;push_cast [i0,ic];have hi:i < 63:=by
   have:=(List.getElem?_eq_some_iff.mp hc).1;omega
  have lts:ts.length=i:=hR.1.trans hfl;refine ⟨zu hr3,rs,SqL.of hr3,ts,hI,λt ht=>(hrw t ht).1,by omega,λl4 H4 ms4 hp4 ho4 s4 hn4 h4=>⟨ms4,h4,?_,zs,SqL.of (s4 _ _ (s3 _ _ hln2)),h13,λt H5 tt hsrc s5 hnt ht5=>?_⟩⟩
  ·rw[hp4.length_eq];have:=PySem.Sti.Cf (ts.map cv);rw[aa2] at this;omega
  obtain ⟨b,n,hrow,hn,hry,hbo,hb0,hb9⟩:=Cc hsrc (λx=>by rw[hp4.mem_iff,PySem.Sti.q4,hbf]) vok hi hB;have s45:ah H' H5:=s4.trans s5;have hr5:=s45 _ _ hr3;have ntr:t≠ro:=ne_of ht5 hr5 (by intro e;cases e);refine ⟨ro,rs,.ref t,rfl,rfl,hr5,by rw[hI.1];omega,(s3.trans s45).upd hro0 _,rs++[.ref t],aa,by rw[ag nsr];exact s45 _ _ hs3,ts++[tt],((hI.same s45).put hr5 (λt e=>by cases e) _).snoc (by rw[ag ntr];exact ht5),fs++[(b,n)],hR.snoc hrow,by rw[aa8,hfl];rfl,(hB.le (by omega)).snoc hn,λu hu=>?_,by rw[aat,aat,hbf,ac2,ac2,hbo]⟩;rcases List.mem_append.mp hu with h | h
  ·exact hrw u h
  ·rw[List.mem_singleton.mp h,hbo];exact ⟨hry,hb0,hb9⟩
 ·rintro σ H3 ⟨rs,ts,fs,v4,rfl,s3,hr3,hs3,hI,hR,hfl,hB,hrw,hbf⟩;rw[aa2] at hfl hB;have lts:ts.length=fs.length:=hR.1;have lrs:rs.length=ts.length:=hI.1;push_cast [fu];refine ⟨rs,.inl (SqL.of hr3),λsp hsp=>⟨rs,.inl (SqL.of (ae hsp _ _ _ hr3)),ab0 _,λdu hdu=>?_⟩⟩;have t1:=ae hsp (.lst rs);have t2:=ae hdu (.tup []);have S3:=s3.trans (t1.trans t2);have hr4:=(t1.trans t2) _ _ hr3;have hI4:=hI.same (t1.trans t2);generalize upd (upd H3 sp (.lst rs)) du (.tup [])=H4 at t2 S3 hr4 hI4 ⊢;have hL4:=(sV.trans S3).seq hL;refine ⟨⟨1,rfl⟩,ns,hL4,hl0,λc2=>⟨by omega,by omega,?_⟩⟩;have hv4:=S3 _ _ hv2;have hln4:=S3 _ _ hln2;have hsp4:H4 sp=some (.lst rs):=t2 _ _ aa;have pos3:0≤c2 % 3∧c2 % 3 < 3:=⟨aao _ (by decide),aaz _ (by decide)⟩;obtain ⟨m3,em3⟩:∃m3:Nat,(1+c2 % 3).toNat=m3+1:=⟨(c2 % 3).toNat,by omega⟩;rw[em3];refine uy (λi σ H'=>ah H4 H'∧∃(v4 v8 v9 v10:Option V) (sq bd:Addr) (F:Int),σ=[some (.ref a),some (.ref ln),some (.ref vd),some (.ref ro),v4,some (.ref sq),some (.int F),some (.ref bd),v8,v9,v10,none,none,none,none,none,none]∧((i=0∧F=(rs.length:Int)+1)∨
   ∃(at':Nat) (r:List V),F=(at':Int)∧at'≤ts.length∧kh ((ts.take at').map cv) zs r∧H' bd=some (.tup r)∧H' sq=some (.lst (rs.take at'++[.ref bd]++rs.drop at')))) ⟨ah.refl _,v4,none,none,none,sp,du,_,rfl,.inl ⟨rfl,rfl⟩⟩ ?_ ?_
  ·rintro i σ H' hi ⟨s5,v4,v8,v9,v10,sq,bd,F,rfl,hF⟩;push_cast [fu,d8];have hL5:=s5.seq hL4;have hr5:=s5 _ _ hr4;have hln5:=s5 _ _ hln4;refine ⟨⟨1,rfl⟩,ns,hL5,hl0,λc3=>⟨⟨2,rfl⟩,ns,hL5,hl0,λc4=>?_⟩⟩;have hi3:i < 3:=by omega
   refine ⟨.inl ⟨by decide,by decide⟩,by omega,by omega,.inl ⟨by omega,by omega⟩,rs,.inl (SqL.of hr5),by omega,rs,.inl (SqL.of hr5),by omega,by omega,?_⟩;generalize c3 / 3+c4 / (1+5*(0+(i:Int)))+(0+(i:Int))*(0+(i:Int))=C;obtain ⟨A,eA⟩:∃A:Nat,C % ((rs.length:Int)+1)=(A:Int):=⟨(C % ((rs.length:Int)+1)).toNat,by have:=aao C (show (rs.length:Int)+1≠0 by omega);omega⟩;have hA:A≤rs.length:=by
    have:=aaz C (show 0 < (rs.length:Int)+1 by omega);omega
   rw[eA];refine ⟨ln,rs,ts,A,rfl,rfl,hr5,hI4.same s5,hrw,by omega,by omega,zs,SqL.of hln5,h13,λt H6 r hfs s6 hnt ht6=>iy (λhlt=>?_) λhge=>?_⟩
   ·have hr6:=s6 _ _ hr5;refine ⟨rs,SqL.of hr6,λp1 hp1=>⟨by show (1:Nat)≤sizeLine;decide,λp2 hp2=>?_⟩⟩;rw[kz] at hp2 ⊢;have u1:=ae hp1 (.lst (rs.take A));have u2:=ae hp2 (.lst [V.ref t]);have g1:=u2 _ _ (aa (H:=H6) (a:=p1) (o:=.lst (rs.take A)));have g2:upd (upd H6 p1 (.lst (rs.take A))) p2 (.lst [V.ref t]) p2=some (.lst [V.ref t]):=aa;have U:=u1.trans u2;generalize upd (upd H6 p1 (.lst (rs.take A))) p2 (.lst [V.ref t])=H7 at U g1 g2 ⊢;refine gc g1 g2 (by rw[aaf,aay];omega) λp3 hp3=>?_;have u3:=ae hp3 (.lst (rs.take A++[V.ref t]));have g3:upd H7 p3 (.lst (rs.take A++[V.ref t])) p3=some (.lst (rs.take A++[V.ref t])):=aa;generalize upd H7 p3 (.lst (rs.take A++[V.ref t]))=H8 at u3 g3 ⊢;have hr8:=u3 _ _ (U _ _ hr6);refine ⟨rs,SqL.of hr8,λp4 hp4=>?_⟩;rw[mj] at ⊢;have u4:=ae hp4 (.lst (rs.drop A));have g4:upd H8 p4 (.lst (rs.drop A)) p4=some (.lst (rs.drop A)):=aa;generalize upd H8 p4 (.lst (rs.drop A))=H9 at u4 g4 ⊢;refine gc (u4 _ _ g3) g4 (by rw[aa8,aaf,aax,aay];omega) λp5 hp5=>?_;have u5:=ae hp5 (.lst (rs.take A++[V.ref t]++rs.drop A));have V9:=((U.trans u3).trans u4).trans u5;exact ⟨(s5.trans s6).trans V9,_,_,_,p5,rfl,rfl,rfl,rfl,A,rfl,by omega,r,hfs,V9 _ _ ht6,aa⟩
   ·rcases hF with ⟨_,hF⟩ | ⟨at',r',hF,h1,h2,h3,h4⟩
    ·omega
    ·exact ⟨s5.trans s6,at',hF,h1,r',h2,s6 _ _ h3,s6 _ _ h4⟩
  ·rintro σ H5 ⟨s5,v4,v8,v9,v10,sq,bd,F,rfl,hF⟩;obtain ⟨at',r,rfl,hat,hfs,hbd,hsq⟩:=hF.resolve_left λh=>absurd h.1 (by omega);push_cast [fu];refine ⟨⟨2,rfl⟩,ns,s5.seq hL4,hl0,λc5=>?_⟩;have hIq:au H5 (rs.take at'++[.ref bd]++rs.drop at') (ts.take at'++[r]++ts.drop at'):=jb (jb ((jn hI4 at').same s5) (uh hbd)) ((jt hI4 at').same s5);have lq:(rs.take at'++[V.ref bd]++rs.drop at').length=rs.length+1:=by
    rw[aa8,aa8,aaf,aax,aay];omega
   have tk1:(ts.take at'++[r]++ts.drop at').take at'=ts.take at':=by
    rw[abi,adm (by rw[aaf];omega)]
   have ix1:(ts.take at'++[r]++ts.drop at')[at']?=some r:=by
    rw[abi,aaj (by rw[aaf];omega),aaf,aby hat,abo];rfl
   have hRq:cj vals (ts.take at') (fs.take at'):=cj.take hR at';have lfa:(fs.take at').length=at':=by rw[aaf];omega
   obtain ⟨f,hbad⟩:=bad_of (fs:=fs.take at') hfs (by rw[ad5,ad5,hbf]) vok λx hx=>by
    obtain ⟨t,ht,rfl⟩:=List.mem_map.mp hx;exact (hrw t (ace ht)).2
   generalize ts.take at'++[r]++ts.drop at'=tq at hIq tk1 ix1;generalize rs.take at'++[V.ref bd]++rs.drop at'=rq at hIq lq hsq;have hln5:=s5 _ _ hln4;refine ⟨rq,.inl (SqL.of hsq),by omega,by show (8:Nat)≤sizeLine;decide,λp1 hp1=>⟨⟨_,SqL.of aa⟩,λl1 hl1=>?_⟩⟩;have w1:=ae hp1 (.lst [V.int 0,V.int 2,V.int 4,V.int 6,V.int 8,V.int 10,V.int 11,V.int 12]);have k1:upd H5 p1 (.lst [V.int 0,V.int 2,V.int 4,V.int 6,V.int 8,V.int 10,V.int 11,V.int 12]) p1=some (.lst [V.int 0,V.int 2,V.int 4,V.int 6,V.int 8,V.int 10,V.int 11,V.int 12]):=aa;generalize upd H5 p1 (.lst [V.int 0,V.int 2,V.int 4,V.int 6,V.int 8,V.int 10,V.int 11,V.int 12])=H6 at w1 k1 hl1 ⊢;refine kd (λi ys=>∃us:List Str,ys=us.map V.str∧us.length=i) (SqL.of k1) (by show (8:Nat) < sizeLine;omega) hl1 ⟨[],rfl,rfl⟩ (λi x ys H7 G' K' hx hP hl2 hS hG hK=>?_) λys H7 hP hl2 hS7 hD7=>?_
   ·push_cast [and_true];obtain ⟨us,rfl,hus⟩:=hP;obtain ⟨kk,rfl,hkk⟩:∃kk:Nat,x=.int (kk:Int)∧kk < 13:=by
     have hx:=abf hx;simp only[aav,aam,or_false] at hx;rcases hx with rfl | rfl | rfl | rfl | rfl | rfl | rfl | rfl
     ·exact ⟨0,rfl,by decide⟩
     ·exact ⟨2,rfl,by decide⟩
     ·exact ⟨4,rfl,by decide⟩
     ·exact ⟨6,rfl,by decide⟩
     ·exact ⟨8,rfl,by decide⟩
     ·exact ⟨10,rfl,by decide⟩
     ·exact ⟨11,rfl,by decide⟩
     ·exact ⟨12,rfl,by decide⟩
    obtain ⟨z,_,gz⟩:=zat kk hkk;exact ar (hS _ _ (w1 _ _ hln5)) gz (hK _ _ (ah.refl _) ⟨us++[z],by rw[aat];rfl,by rw[aa8,hus];rfl⟩)
   ·obtain ⟨us,rfl,hus⟩:=hP;have hus:us.length=8:=hus;obtain ⟨za,ga,_⟩:=xf hus (k:=c5 / 7 / 3 % 8) (aao _ (by decide)) (by show c5 / 7 / 3 % 8 < 8;omega);obtain ⟨zb,gb,_⟩:=xf hus (k:=c5 / 7 / 24 % 8) (aao _ (by decide)) (by show c5 / 7 / 24 % 8 < 8;omega);refine ar hD7 ga ⟨by show (3:Nat)≤sizeLine;decide,λpa hpa=>ar (ae hpa _ _ _ hD7) gb ⟨by show (3:Nat)≤sizeLine;decide,λpb hpb=>⟨by show (3:Nat)≤sizeLine;decide,λpc hpc=>⟨by show (3:Nat)≤sizeLine;decide,λpd hpd=>?_⟩⟩⟩⟩;have x1:=ae hpa (.tup [V.str (Str.ofString "load"),V.int 3,V.str za]);have x2:=ae hpb (.tup [V.str (Str.ofString "load"),V.int 5,V.str zb]);have x3:=ae hpc (.tup [V.str (Str.ofString "neg"),V.int 4,V.int 77]);have x4:=ae hpd (.lst [V.ref pa,V.ref pb,V.ref pc]);have y1:=x4 _ _ (x3 _ _ (x2 _ _ (aa (H:=H7) (a:=pa) (o:=.tup [V.str (Str.ofString "load"),V.int 3,V.str za]))));have y2:=x4 _ _ (x3 _ _ (aa (H:=upd H7 pa (.tup [V.str (Str.ofString "load"),V.int 3,V.str za])) (a:=pb) (o:=.tup [V.str (Str.ofString "load"),V.int 5,V.str zb])));have y3:=x4 _ _ (aa (H:=upd (upd H7 pa (.tup [V.str (Str.ofString "load"),V.int 3,V.str za])) pb (.tup [V.str (Str.ofString "load"),V.int 5,V.str zb])) (a:=pc) (o:=.tup [V.str (Str.ofString "neg"),V.int 4,V.int 77]));have y4:upd (upd (upd (upd H7 pa (.tup [V.str (Str.ofString "load"),V.int 3,V.str za])) pb (.tup [V.str (Str.ofString "load"),V.int 5,V.str zb])) pc (.tup [V.str (Str.ofString "neg"),V.int 4,V.int 77])) pd (.lst [V.ref pa,V.ref pb,V.ref pc]) pd=some (.lst [V.ref pa,V.ref pb,V.ref pc]):=aa;have S58:=(w1.trans hS7).trans (((x1.trans x2).trans x3).trans x4);generalize upd (upd (upd (upd H7 pa (.tup [V.str (Str.ofString "load"),V.int 3,V.str za])) pb (.tup [V.str (Str.ofString "load"),V.int 5,V.str zb])) pc (.tup [V.str (Str.ofString "neg"),V.int 4,V.int 77])) pd (.lst [V.ref pa,V.ref pb,V.ref pc])=H8 at y1 y2 y3 y4 S58 ⊢;have hIl:au H8 [V.ref pa,V.ref pb,V.ref pc] [[V.str (Str.ofString "load"),V.int 3,V.str za],[V.str (Str.ofString "load"),V.int 5,V.str zb],[V.str (Str.ofString "neg"),V.int 4,V.int 77]]:=((uh y1).snoc y2).snoc y3;generalize [[V.str (Str.ofString "load"),V.int 3,V.str za],[V.str (Str.ofString "load"),V.int 5,V.str zb],[V.str (Str.ofString "neg"),V.int 4,V.int 77]]=tl at hIl;have hsq8:=S58 _ _ hsq;obtain ⟨B,eB,hB1⟩:∃B:Nat,(at':Int)+1+c5 / 7 % ((rq.length:Int) - (at':Int))=(B:Int)∧at'+1≤B:=by
     have:=aao (c5 / 7) (show (rq.length:Int) - (at':Int)≠0 by omega);exact ⟨((at':Int)+1+c5 / 7 % ((rq.length:Int) - (at':Int))).toNat,by omega,by omega⟩
    obtain ⟨D3,eD⟩:∃D3:Nat,c5 / 7 % 3=(D3:Int):=⟨(c5 / 7 % 3).toNat,by omega⟩;rw[eB,eD];refine ⟨rq,SqL.of hsq8,λpe hpe=>?_⟩;rw[kz] at ⊢;have x5:=ae hpe (.lst (rq.take B));have y5:upd H8 pe (.lst (rq.take B)) pe=some (.lst (rq.take B)):=aa;generalize upd H8 pe (.lst (rq.take B))=H9 at x5 y5 ⊢;refine ⟨_,SqL.of (x5 _ _ y4),λpf hpf=>?_⟩;rw[mj] at ⊢;have x6:=ae hpf (.lst ([V.ref pa,V.ref pb,V.ref pc].drop D3));have y6:upd H9 pf (.lst ([V.ref pa,V.ref pb,V.ref pc].drop D3)) pf=some (.lst ([V.ref pa,V.ref pb,V.ref pc].drop D3)):=aa;generalize upd H9 pf (.lst ([V.ref pa,V.ref pb,V.ref pc].drop D3))=H10 at x6 y6 ⊢;have l3:([V.ref pa,V.ref pb,V.ref pc].drop D3).length≤3:=by rw[aax];show 3 - D3≤3;omega
    refine gc (x6 _ _ y5) y6 (by rw[aaf];omega) λpg hpg=>?_;have x7:=ae hpg (.lst (rq.take B++[V.ref pa,V.ref pb,V.ref pc].drop D3));have y7:upd H10 pg (.lst (rq.take B++[V.ref pa,V.ref pb,V.ref pc].drop D3)) pg=some (.lst (rq.take B++[V.ref pa,V.ref pb,V.ref pc].drop D3)):=aa;generalize upd H10 pg (.lst (rq.take B++[V.ref pa,V.ref pb,V.ref pc].drop D3))=H11 at x7 y7 ⊢;have X7:=(x5.trans x6).trans x7;refine ⟨rq,SqL.of (X7 _ _ hsq8),λph hph=>?_⟩;rw[mj] at ⊢;have x8:=ae hph (.lst (rq.drop B));have y8:upd H11 ph (.lst (rq.drop B)) ph=some (.lst (rq.drop B)):=aa;generalize upd H11 ph (.lst (rq.drop B))=H12 at x8 y8 ⊢;refine gc (x8 _ _ y7) y8 (by simp only[aa8,aaf,aax,aai,abg];omega) λso hso=>?_;have x9:=ae hso (.lst (rq.take B++[V.ref pa,V.ref pb,V.ref pc].drop D3++rq.drop B));have y9:upd H12 so (.lst (rq.take B++[V.ref pa,V.ref pb,V.ref pc].drop D3++rq.drop B)) so=some (.lst (rq.take B++[V.ref pa,V.ref pb,V.ref pc].drop D3++rq.drop B)):=aa;generalize upd H12 so (.lst (rq.take B++[V.ref pa,V.ref pb,V.ref pc].drop D3++rq.drop B))=H13 at x9 y9 ⊢;have X9:=(X7.trans x8).trans x9;have Z:ah H5 H13:=S58.trans X9;have hIs:au H13 (rq.take B++[V.ref pa,V.ref pb,V.ref pc].drop D3++rq.drop B) (tq.take B++tl.drop D3++tq.drop B):=jb (jb ((jn hIq B).same Z) ((jt hIl D3).same X9)) ((jt hIq B).same Z);have lt13:(rq.take B++[V.ref pa,V.ref pb,V.ref pc].drop D3++rq.drop B).length≤1000:=by simp only[aa8,aaf,aax,aai,abg];omega
    generalize rq.take B++[V.ref pa,V.ref pb,V.ref pc].drop D3++rq.drop B=so' at hIs y9 lt13;have ltq:tq.length=rs.length+1:=by rw[←hIq.1,lq]
    have lB:at' < (tq.take B).length:=by rw[aaf];omega
    have tk2:(tq.take B++tl.drop D3++tq.drop B).take at'=ts.take at':=by
     rw[abi,acf (by omega),List.take_take,aby (by omega),tk1]
    have ix2:(tq.take B++tl.drop D3++tq.drop B)[at']?=some r:=by
     rw[abi,aal lB,ab4 (by omega),ix1]
    generalize tq.take B++tl.drop D3++tq.drop B=tso at hIs tk2 ix2;have hv13:=Z _ _ (s5 _ _ hv4);have hbd13:=Z _ _ hbd;refine ⟨sq,vd,bd,rq,tq,fs.take at',vals,r,f,rfl,Z _ _ hsq,by omega,hIq.same Z,hv13,vok.nd,vok.int,by rw[lfa,tk1];exact hRq,by rw[lfa];exact ix1,hbad,hbd13,λH14 s14=>⟨true,rfl,iteF ?_⟩⟩;refine ⟨so,vd,bd,so',tso,fs.take at',vals,r,f,rfl,s14 _ _ y9,lt13,hIs.same s14,s14 _ _ hv13,vok.nd,vok.int,by rw[lfa,tk2];exact hRq,by rw[lfa];exact ix2,hbad,s14 _ _ hbd13,λH15 s15=>⟨true,rfl,iteF ?_⟩⟩;have Y:ah H4 H15:=(s5.trans Z).trans (s14.trans s15);refine ⟨ro,vd,rs,ts,fs,vals,rfl,SqL.of (Y _ _ hr4),by omega,hI4.same Y,Y _ _ hv4,by rw[←lts,abd];exact hR,.inl ⟨by omega,λfd H16 s16 hfd hfd16=>?_⟩⟩;obtain ⟨ks,hk,hkl⟩:=uu fs;have lb:=n6 fs;refine ⟨_,.dK hfd16,true,rfl,iteT ⟨fd,rfl,bf fs,.inl hfd16,ks,hk,by omega,λl17 ms17 hp17 ho17 hn17=>?_⟩⟩;have s17:=ae hn17 (.lst (ms17.map V.int));have Y17:=(Y.trans s16).trans s17;refine ⟨ro,rs,ts,rfl,SqL.of (Y17 _ _ hr4),hI4.same Y17,λt ht=>(hrw t ht).1,by omega,λl18 H18 ms18 hp18 ho18 s18 hn18 h18=>?_⟩;have hnk:ks.Nodup:=by
     have:=tj fs;rw[hk] at this;exact List.Pairwise.of_map _ (λx y h e=>h (by rw[e])) this
    have eqm:ms17=ms18:=kr (strict ho17 (hp17.nodup_iff.mpr hnk)) (strict ho18 (hp18.nodup_iff.mpr (PySem.Sti.nd_fm _))) λx=>by
     rw[hp17.mem_iff,hp18.mem_iff,PySem.Sti.q4,hbf];constructor
     ·intro hx;obtain ⟨m,h1,_⟩:=yu hk hx;by_cases h:x∈fs.map (·.1)
      ·exact h
      ·rw[(d4 fs x).2 h] at h1;cases h1
     ·intro hx;obtain ⟨m,h1⟩:=(d4 fs x).1 hx;have:(Sum.inl x:Key)∈(bf fs).map (·.1):=List.mem_map.mpr ⟨_,mw h1,rfl⟩;rw[hk] at this;obtain ⟨y,hy,e⟩:=List.mem_map.mp this;rw[←Sum.inl.inj e];exact hy
    subst eqm;have kf:(ms17.map V.int)=(ms17.map (Sum.inl:Int→Key)).map kV:=by rw[abn];rfl
    have h17:H18 l17=some (.lst (ms17.map V.int)):=s18 _ _ aa;refine ⟨l17,l18,ms17.map Sum.inl,ms17.map Sum.inl,rfl,rfl,.inr ⟨SqL.of (by rw[h17,kf]),SqL.of (by rw[h18,kf])⟩,true,?_,?_⟩
    ·rw[if_neg aaa,decide_eq_true rfl]
    ·exact iteT ⟨rfl,λH19 _=>q H19⟩
end
end K22
namespace K22
open PySem PySem.Spec L2 PyProof.Rows Pc
theorem all_mk {l:PySem.W.OpenLaw} {w:World} {K:PySem.W.Frag} {h:Heap} {mg:Str→Option Value} {fa:Addr} (X:K.In h) (G:h.Ns mainGlobals mg) (hfa:mg "law"=some (.ref fa))
  {f0 f1 f2 f3 f4 f5 f6 f7 f8 f9 f10 f11 f12 fi0 fi1 fi2 fi3 fi4 fi5 fi6:Addr} {od0 an0 od1 an1 od2 an2 od3 an3 od4 an4 od5 an5 od6 an6 od7 an7 od8 an8 od9 an9 od10 an10 od11 an11 od12 an12 odi0 ani0 odi1 ani1 odi2 ani2 odi3 ani3 odi4 ani4 odi5 ani5 odi6 ani6:Option Addr} {sl0 sl1 sl2 sl3 sl4 sl5 sl6 sl7 sl8 sl9 sl10 sl11 sl12 sli0 sli1 sli2 sli3 sli4 sli5 sli6:Array (Option Value)} {oc0 kV0 dc0 pm0 cd0 ct0 oc1 kV1 dc1 pm1 cd1 ct1 oc2 kV2 dc2 pm2 cd2 ct2 oc3 kV3 dc3 pm3 cd3 ct3 oc4 kV4 dc4 pm4 cd4 ct4 oc5 kV5 dc5 pm5 cd5 ct5 oc6 kV6 dc6 pm6 cd6 ct6 oc7 kV7 dc7 pm7 cd7 ct7 oc8 kV8 dc8 pm8 cd8 ct8 oc9 kV9 dc9 pm9 cd9 ct9 oc10 kV10 dc10 pm10 cd10 ct10 oc11 kV11 dc11 pm11 cd11 ct11 oc12 kV12 dc12 pm12 cd12 ct12 oci0 kVi0 dci0 pmi0 cdi0 cti0 oci1 kVi1 dci1 pmi1 cdi1 cti1 oci2 kVi2 dci2 pmi2 cdi2 cti2 oci3 kVi3 dci3 pmi3 cdi3 cti3 oci4 kVi4 dci4 pmi4 cdi4 cti4 oci5 kVi5 dci5 pmi5 cdi5 cti5 oci6 kVi6 dci6 pmi6 cdi6 cti6:Value} {e0 e1 e2 e3 e4 e5 e6 e7 e8 e9 e10 e11 eN0 eN1 eN2 eN3 eN4 eN5 eN6 eN7 eN8 eN9 eN10 eN11:Addr} {enm0 enm1 enm2 enm3 enm4 enm5 enm6 enm7 enm8 enm9 enm10 enm11 eqn0 eqn1 eqn2 eqn3 eqn4 eqn5 eqn6 eqn7 eqn8 eqn9 eqn10 eqn11:Str} {ebs0 ebs1 ebs2 ebs3 ebs4 ebs5 ebs6 ebs7 ebs8 ebs9 ebs10 ebs11 esu0 esu1 esu2 esu3 esu4 esu5 esu6 esu7 esu8 esu9 esu10 esu11:List Value} {esn0 esn1 esn2 esn3 esn4 esn5 esn6 esn7 esn8 esn9 esn10 esn11:List Str} {eab0 eab1 eab2 eab3 eab4 eab5 eab6 eab7 eab8 eab9 eab10 eab11:Bool} {eco0 eco1 eco2 eco3 eco4 eco5 eco6 eco7 eco8 eco9 eco10 eco11:Option Bool} {edd0 edd1 edd2 edd3 edd4 edd5 edd6 edd7 edd8 edd9 edd10 edd11:Option Addr} {eka0 eka1 eka2 eka3 eka4 eka5 eka6 eka7 eka8 eka9 eka10 eka11 ekb0 ekb1 ekb2 ekb3 ekb4 ekb5 ekb6 ekb7 ekb8 ekb9 ekb10 ekb11 ekc0 ekc1 ekc2 ekc3 ekc4 ekc5 ekc6 ekc7 ekc8 ekc9 ekc10 ekc11 ekd0 ekd1 ekd2 ekd3 ekd4 ekd5 ekd6 ekd7 ekd8 ekd9 ekd10 ekd11 eke0 eke1 eke2 eke3 eke4 eke5 eke6 eke7 eke8 eke9 eke10 eke11:Option Value}
  (a0:PySem.W.nsIn K mainGlobals "joined_numbers"=some (some (.ref f0)))
  (l0:K.lookup f0=some ⟨oc0,od0,.func (PySem.W.fnOf "joined_numbers" "joined_numbers" (aq il) (ak il) (af il) .none kV0 dc0 pm0 an0 cd0 ct0),sl0⟩)
  (c0:PySem.W.codeIn K cd0 "joined_numbers"=true)
  (k0:PySem.W.keepIn K (.ref f0)=true)
  (a1:PySem.W.nsIn K mainGlobals "value_of"=some (some (.ref f1)))
  (l1:K.lookup f1=some ⟨oc1,od1,.func (PySem.W.fnOf "value_of" "value_of" (aq iz) (ak iz) (af iz) .none kV1 dc1 pm1 an1 cd1 ct1),sl1⟩)
  (c1:PySem.W.codeIn K cd1 "value_of"=true)
  (k1:PySem.W.keepIn K (.ref f1)=true)
  (a2:PySem.W.nsIn K mainGlobals "held_in"=some (some (.ref f2)))
  (l2:K.lookup f2=some ⟨oc2,od2,.func (PySem.W.fnOf "held_in" "held_in" (aq ml) (ak ml) (af ml) .none kV2 dc2 pm2 an2 cd2 ct2),sl2⟩)
  (c2:PySem.W.codeIn K cd2 "held_in"=true)
  (k2:PySem.W.keepIn K (.ref f2)=true)
  (a3:PySem.W.nsIn K mainGlobals "row_number"=some (some (.ref f3)))
  (l3:K.lookup f3=some ⟨oc3,od3,.func (PySem.W.fnOf "row_number" "row_number" (aq me) (ak me) (af me) .none kV3 dc3 pm3 an3 cd3 ct3),sl3⟩)
  (c3:PySem.W.codeIn K cd3 "row_number"=true)
  (k3:PySem.W.keepIn K (.ref f3)=true)
  (a4:PySem.W.nsIn K mainGlobals "run"=some (some (.ref f4)))
  (l4:K.lookup f4=some ⟨oc4,od4,.func (PySem.W.fnOf "run" "run" (aq vk) (ak vk) (af vk) .none kV4 dc4 pm4 an4 cd4 ct4),sl4⟩)
  (c4:PySem.W.codeIn K cd4 "run"=true)
  (k4:PySem.W.keepIn K (.ref f4)=true)
  (a5:PySem.W.nsIn K mainGlobals "_law_cell_at"=some (some (.ref f5)))
  (l5:K.lookup f5=some ⟨oc5,od5,.func (PySem.W.fnOf "_law_cell_at" "_law_cell_at" (aq ly) (ak ly) (af ly) .none kV5 dc5 pm5 an5 cd5 ct5),sl5⟩)
  (c5:PySem.W.codeIn K cd5 "_law_cell_at"=true)
  (k5:PySem.W.keepIn K (.ref f5)=true)
  (a6:PySem.W.nsIn K mainGlobals "_law_names"=some (some (.ref f6)))
  (l6:K.lookup f6=some ⟨oc6,od6,.func (PySem.W.fnOf "_law_names" "_law_names" (aq iu) (ak iu) (af iu) .none kV6 dc6 pm6 an6 cd6 ct6),sl6⟩)
  (c6:PySem.W.codeIn K cd6 "_law_names"=true)
  (k6:PySem.W.keepIn K (.ref f6)=true)
  (a7:PySem.W.nsIn K mainGlobals "_law_row"=some (some (.ref f7)))
  (l7:K.lookup f7=some ⟨oc7,od7,.func (PySem.W.fnOf "_law_row" "_law_row" (aq vr) (ak vr) (af vr) .none kV7 dc7 pm7 an7 cd7 ct7),sl7⟩)
  (c7:PySem.W.codeIn K cd7 "_law_row"=true)
  (k7:PySem.W.keepIn K (.ref f7)=true)
  (a8:PySem.W.nsIn K mainGlobals "_law_full"=some (some (.ref f8)))
  (l8:K.lookup f8=some ⟨oc8,od8,.func (PySem.W.fnOf "_law_full" "_law_full" (aq mr) (ak mr) (af mr) .none kV8 dc8 pm8 an8 cd8 ct8),sl8⟩)
  (c8:PySem.W.codeIn K cd8 "_law_full"=true)
  (k8:PySem.W.keepIn K (.ref f8)=true)
  (a9:PySem.W.nsIn K mainGlobals "_law_failing"=some (some (.ref f9)))
  (l9:K.lookup f9=some ⟨oc9,od9,.func (PySem.W.fnOf "_law_failing" "_law_failing" (aq dc) (ak dc) (af dc) .none kV9 dc9 pm9 an9 cd9 ct9),sl9⟩)
  (c9:PySem.W.codeIn K cd9 "_law_failing"=true)
  (k9:PySem.W.keepIn K (.ref f9)=true)
  (a10:PySem.W.nsIn K mainGlobals "_law_made"=some (some (.ref f10)))
  (l10:K.lookup f10=some ⟨oc10,od10,.func (PySem.W.fnOf "_law_made" "_law_made" (aq ku) (ak ku) (af ku) .none kV10 dc10 pm10 an10 cd10 ct10),sl10⟩)
  (c10:PySem.W.codeIn K cd10 "_law_made"=true)
  (k10:PySem.W.keepIn K (.ref f10)=true)
  (a11:PySem.W.nsIn K mainGlobals "_law_refused"=some (some (.ref f11)))
  (l11:K.lookup f11=some ⟨oc11,od11,.func (PySem.W.fnOf "_law_refused" "_law_refused" (aq de) (ak de) (af de) .none kV11 dc11 pm11 an11 cd11 ct11),sl11⟩)
  (c11:PySem.W.codeIn K cd11 "_law_refused"=true)
  (k11:PySem.W.keepIn K (.ref f11)=true)
  (a12:PySem.W.nsIn K mainGlobals "law"=some (some (.ref f12)))
  (l12:K.lookup f12=some ⟨oc12,od12,.func (PySem.W.fnOf "law" "law" (aq qj) (ak qj) (af qj) .none kV12 dc12 pm12 an12 cd12 ct12),sl12⟩)
  (c12:PySem.W.codeIn K cd12 "law"=true)
  (k12:PySem.W.keepIn K (.ref f12)=true)
  (z0:PySem.W.nsIn K mainGlobals "ValueError"=some none)
  (z1:PySem.W.nsIn K mainGlobals "dict"=some none)
  (z2:PySem.W.nsIn K mainGlobals "int"=some none)
  (z3:PySem.W.nsIn K mainGlobals "isinstance"=some none)
  (z4:PySem.W.nsIn K mainGlobals "len"=some none)
  (z5:PySem.W.nsIn K mainGlobals "list"=some none)
  (z6:PySem.W.nsIn K mainGlobals "range"=some none)
  (z7:PySem.W.nsIn K mainGlobals "set"=some none)
  (z8:PySem.W.nsIn K mainGlobals "sorted"=some none)
  (z9:PySem.W.nsIn K mainGlobals "str"=some none)
  (cn0:PySem.W.nsIn K mainGlobals "CoverError"=some (some (.ref e0)))
  (cl0:K.lookup e0=some (excClassObj enm0 eqn0 e0 eN0 ebs0 vbm true esn0 esu0 eab0 eco0 edd0 eka0 ekb0 ekc0 ekd0 eke0 "ValueError.__new__"))
  (ck0:PySem.W.keepIn K (.ref e0)=true)
  (cs0:PySem.W.findIn K (.ref e0) "__setattr__"=some (some (.builtin "object.__setattr__")))
  (cg0:PySem.W.findIn K (.ref e0) "__getattribute__"=some (some (.builtin "BaseException.__getattribute__")))
  (ch0:PySem.W.findIn K (.ref e0) "__getattr__"=some (none))
  (cc0:PySem.W.findIn K (.ref e0) "__class__"=some (some (.builtin "object.__class__")))
  (cn1:PySem.W.nsIn K mainGlobals "NoTerm"=some (some (.ref e1)))
  (cl1:K.lookup e1=some (excClassObj enm1 eqn1 e1 eN1 ebs1 (.ref e0::vbm) true esn1 esu1 eab1 eco1 edd1 eka1 ekb1 ekc1 ekd1 eke1 "ValueError.__new__"))
  (ck1:PySem.W.keepIn K (.ref e1)=true)
  (cs1:PySem.W.findIn K (.ref e1) "__setattr__"=some (some (.builtin "object.__setattr__")))
  (cg1:PySem.W.findIn K (.ref e1) "__getattribute__"=some (some (.builtin "BaseException.__getattribute__")))
  (ch1:PySem.W.findIn K (.ref e1) "__getattr__"=some (none))
  (cc1:PySem.W.findIn K (.ref e1) "__class__"=some (some (.builtin "object.__class__")))
  (cn2:PySem.W.nsIn K mainGlobals "NoBox"=some (some (.ref e2)))
  (cl2:K.lookup e2=some (excClassObj enm2 eqn2 e2 eN2 ebs2 (.ref e0::vbm) true esn2 esu2 eab2 eco2 edd2 eka2 ekb2 ekc2 ekd2 eke2 "ValueError.__new__"))
  (ck2:PySem.W.keepIn K (.ref e2)=true)
  (cs2:PySem.W.findIn K (.ref e2) "__setattr__"=some (some (.builtin "object.__setattr__")))
  (cg2:PySem.W.findIn K (.ref e2) "__getattribute__"=some (some (.builtin "BaseException.__getattribute__")))
  (ch2:PySem.W.findIn K (.ref e2) "__getattr__"=some (none))
  (cc2:PySem.W.findIn K (.ref e2) "__class__"=some (some (.builtin "object.__class__")))
  (cn3:PySem.W.nsIn K mainGlobals "BadCover"=some (some (.ref e3)))
  (cl3:K.lookup e3=some (excClassObj enm3 eqn3 e3 eN3 ebs3 (.ref e0::vbm) true esn3 esu3 eab3 eco3 edd3 eka3 ekb3 ekc3 ekd3 eke3 "ValueError.__new__"))
  (ck3:PySem.W.keepIn K (.ref e3)=true)
  (cs3:PySem.W.findIn K (.ref e3) "__setattr__"=some (some (.builtin "object.__setattr__")))
  (cg3:PySem.W.findIn K (.ref e3) "__getattribute__"=some (some (.builtin "BaseException.__getattribute__")))
  (ch3:PySem.W.findIn K (.ref e3) "__getattr__"=some (none))
  (cc3:PySem.W.findIn K (.ref e3) "__class__"=some (some (.builtin "object.__class__")))
  (cn4:PySem.W.nsIn K mainGlobals "NoCover"=some (some (.ref e4)))
  (cl4:K.lookup e4=some (excClassObj enm4 eqn4 e4 eN4 ebs4 (.ref e0::vbm) true esn4 esu4 eab4 eco4 edd4 eka4 ekb4 ekc4 ekd4 eke4 "ValueError.__new__"))
  (ck4:PySem.W.keepIn K (.ref e4)=true)
  (cs4:PySem.W.findIn K (.ref e4) "__setattr__"=some (some (.builtin "object.__setattr__")))
  (cg4:PySem.W.findIn K (.ref e4) "__getattribute__"=some (some (.builtin "BaseException.__getattribute__")))
  (ch4:PySem.W.findIn K (.ref e4) "__getattr__"=some (none))
  (cc4:PySem.W.findIn K (.ref e4) "__class__"=some (some (.builtin "object.__class__")))
  (cn5:PySem.W.nsIn K mainGlobals "BadRow"=some (some (.ref e5)))
  (cl5:K.lookup e5=some (excClassObj enm5 eqn5 e5 eN5 ebs5 (.ref e0::vbm) true esn5 esu5 eab5 eco5 edd5 eka5 ekb5 ekc5 ekd5 eke5 "ValueError.__new__"))
  (ck5:PySem.W.keepIn K (.ref e5)=true)
  (cs5:PySem.W.findIn K (.ref e5) "__setattr__"=some (some (.builtin "object.__setattr__")))
  (cg5:PySem.W.findIn K (.ref e5) "__getattribute__"=some (some (.builtin "BaseException.__getattribute__")))
  (ch5:PySem.W.findIn K (.ref e5) "__getattr__"=some (none))
  (cc5:PySem.W.findIn K (.ref e5) "__class__"=some (some (.builtin "object.__class__")))
  (cn6:PySem.W.nsIn K mainGlobals "NoValue"=some (some (.ref e6)))
  (cl6:K.lookup e6=some (excClassObj enm6 eqn6 e6 eN6 ebs6 (.ref e0::vbm) true esn6 esu6 eab6 eco6 edd6 eka6 ekb6 ekc6 ekd6 eke6 "ValueError.__new__"))
  (ck6:PySem.W.keepIn K (.ref e6)=true)
  (cs6:PySem.W.findIn K (.ref e6) "__setattr__"=some (some (.builtin "object.__setattr__")))
  (cg6:PySem.W.findIn K (.ref e6) "__getattribute__"=some (some (.builtin "BaseException.__getattribute__")))
  (ch6:PySem.W.findIn K (.ref e6) "__getattr__"=some (none))
  (cc6:PySem.W.findIn K (.ref e6) "__class__"=some (some (.builtin "object.__class__")))
  (cn7:PySem.W.nsIn K mainGlobals "Twice"=some (some (.ref e7)))
  (cl7:K.lookup e7=some (excClassObj enm7 eqn7 e7 eN7 ebs7 (.ref e0::vbm) true esn7 esu7 eab7 eco7 edd7 eka7 ekb7 ekc7 ekd7 eke7 "ValueError.__new__"))
  (ck7:PySem.W.keepIn K (.ref e7)=true)
  (cs7:PySem.W.findIn K (.ref e7) "__setattr__"=some (some (.builtin "object.__setattr__")))
  (cg7:PySem.W.findIn K (.ref e7) "__getattribute__"=some (some (.builtin "BaseException.__getattribute__")))
  (ch7:PySem.W.findIn K (.ref e7) "__getattr__"=some (none))
  (cc7:PySem.W.findIn K (.ref e7) "__class__"=some (some (.builtin "object.__class__")))
  (cn8:PySem.W.nsIn K mainGlobals "NoName"=some (some (.ref e8)))
  (cl8:K.lookup e8=some (excClassObj enm8 eqn8 e8 eN8 ebs8 (.ref e0::vbm) true esn8 esu8 eab8 eco8 edd8 eka8 ekb8 ekc8 ekd8 eke8 "ValueError.__new__"))
  (ck8:PySem.W.keepIn K (.ref e8)=true)
  (cs8:PySem.W.findIn K (.ref e8) "__setattr__"=some (some (.builtin "object.__setattr__")))
  (cg8:PySem.W.findIn K (.ref e8) "__getattribute__"=some (some (.builtin "BaseException.__getattribute__")))
  (ch8:PySem.W.findIn K (.ref e8) "__getattr__"=some (none))
  (cc8:PySem.W.findIn K (.ref e8) "__class__"=some (some (.builtin "object.__class__")))
  (cn9:PySem.W.nsIn K mainGlobals "BadShape"=some (some (.ref e9)))
  (cl9:K.lookup e9=some (excClassObj enm9 eqn9 e9 eN9 ebs9 (.ref e0::vbm) true esn9 esu9 eab9 eco9 edd9 eka9 ekb9 ekc9 ekd9 eke9 "ValueError.__new__"))
  (ck9:PySem.W.keepIn K (.ref e9)=true)
  (cs9:PySem.W.findIn K (.ref e9) "__setattr__"=some (some (.builtin "object.__setattr__")))
  (cg9:PySem.W.findIn K (.ref e9) "__getattribute__"=some (some (.builtin "BaseException.__getattribute__")))
  (ch9:PySem.W.findIn K (.ref e9) "__getattr__"=some (none))
  (cc9:PySem.W.findIn K (.ref e9) "__class__"=some (some (.builtin "object.__class__")))
  (cn10:PySem.W.nsIn K mainGlobals "BadDeed"=some (some (.ref e10)))
  (cl10:K.lookup e10=some (excClassObj enm10 eqn10 e10 eN10 ebs10 (.ref e0::vbm) true esn10 esu10 eab10 eco10 edd10 eka10 ekb10 ekc10 ekd10 eke10 "ValueError.__new__"))
  (ck10:PySem.W.keepIn K (.ref e10)=true)
  (cs10:PySem.W.findIn K (.ref e10) "__setattr__"=some (some (.builtin "object.__setattr__")))
  (cg10:PySem.W.findIn K (.ref e10) "__getattribute__"=some (some (.builtin "BaseException.__getattribute__")))
  (ch10:PySem.W.findIn K (.ref e10) "__getattr__"=some (none))
  (cc10:PySem.W.findIn K (.ref e10) "__class__"=some (some (.builtin "object.__class__")))
  (cn11:PySem.W.nsIn K mainGlobals "Unsound"=some (some (.ref e11)))
  (cl11:K.lookup e11=some (excClassObj enm11 eqn11 e11 eN11 ebs11 (.ref e0::vbm) true esn11 esu11 eab11 eco11 edd11 eka11 ekb11 ekc11 ekd11 eke11 "ValueError.__new__"))
  (ck11:PySem.W.keepIn K (.ref e11)=true)
  (cs11:PySem.W.findIn K (.ref e11) "__setattr__"=some (some (.builtin "object.__setattr__")))
  (cg11:PySem.W.findIn K (.ref e11) "__getattribute__"=some (some (.builtin "BaseException.__getattribute__")))
  (ch11:PySem.W.findIn K (.ref e11) "__getattr__"=some (none))
  (cc11:PySem.W.findIn K (.ref e11) "__class__"=some (some (.builtin "object.__class__")))
  (crd:PySem.W.readsIn K e0 (.type "type")=true)
  (cty:PySem.W.typeIn K (.ref e0)=some (.type "type"))
  (cfi:PySem.W.findCls K (.ref e0) (.type "type") "__init__"=some (.val (.builtin "ValueError.__init__")))
  (ndup:([e0,e1,e2,e3,e4,e5,e6,e7,e8,e9,e10,e11]:List Addr).Nodup)
  (ia0:PySem.W.findIn K (.ref e5) "__init__"=some (some (.ref fi0)))
  (il0:K.lookup fi0=some ⟨oci0,odi0,.func (PySem.W.fnOf "__init__" "BadRow.__init__" (aq cc) (ak cc) (af cc) .none kVi0 dci0 pmi0 ani0 cdi0 cti0),sli0⟩)
  (ic0:PySem.W.codeIn K cdi0 "BadRow.__init__"=true)
  (ik0:PySem.W.keepIn K (.ref fi0)=true)
  (it0:PySem.W.typeIn K (.ref fi0)=some (.type "function"))
  (iw0:PySem.W.findIn K (.ref e5) "row"=some none)
  (ia1:PySem.W.findIn K (.ref e6) "__init__"=some (some (.ref fi1)))
  (il1:K.lookup fi1=some ⟨oci1,odi1,.func (PySem.W.fnOf "__init__" "NoValue.__init__" (aq bz) (ak bz) (af bz) .none kVi1 dci1 pmi1 ani1 cdi1 cti1),sli1⟩)
  (ic1:PySem.W.codeIn K cdi1 "NoValue.__init__"=true)
  (ik1:PySem.W.keepIn K (.ref fi1)=true)
  (it1:PySem.W.typeIn K (.ref fi1)=some (.type "function"))
  (iw1:PySem.W.findIn K (.ref e6) "word"=some none)
  (ia2:PySem.W.findIn K (.ref e7) "__init__"=some (some (.ref fi2)))
  (il2:K.lookup fi2=some ⟨oci2,odi2,.func (PySem.W.fnOf "__init__" "Twice.__init__" (aq cq) (ak cq) (af cq) .none kVi2 dci2 pmi2 ani2 cdi2 cti2),sli2⟩)
  (ic2:PySem.W.codeIn K cdi2 "Twice.__init__"=true)
  (ik2:PySem.W.keepIn K (.ref fi2)=true)
  (it2:PySem.W.typeIn K (.ref fi2)=some (.type "function"))
  (iw2:PySem.W.findIn K (.ref e7) "word"=some none)
  (ia3:PySem.W.findIn K (.ref e8) "__init__"=some (some (.ref fi3)))
  (il3:K.lookup fi3=some ⟨oci3,odi3,.func (PySem.W.fnOf "__init__" "NoName.__init__" (aq cb) (ak cb) (af cb) .none kVi3 dci3 pmi3 ani3 cdi3 cti3),sli3⟩)
  (ic3:PySem.W.codeIn K cdi3 "NoName.__init__"=true)
  (ik3:PySem.W.keepIn K (.ref fi3)=true)
  (it3:PySem.W.typeIn K (.ref fi3)=some (.type "function"))
  (iw3:PySem.W.findIn K (.ref e8) "word"=some none)
  (ia4:PySem.W.findIn K (.ref e9) "__init__"=some (some (.ref fi4)))
  (il4:K.lookup fi4=some ⟨oci4,odi4,.func (PySem.W.fnOf "__init__" "BadShape.__init__" (aq bp) (ak bp) (af bp) .none kVi4 dci4 pmi4 ani4 cdi4 cti4),sli4⟩)
  (ic4:PySem.W.codeIn K cdi4 "BadShape.__init__"=true)
  (ik4:PySem.W.keepIn K (.ref fi4)=true)
  (it4:PySem.W.typeIn K (.ref fi4)=some (.type "function"))
  (iw4:PySem.W.findIn K (.ref e9) "word"=some none)
  (ia5:PySem.W.findIn K (.ref e10) "__init__"=some (some (.ref fi5)))
  (il5:K.lookup fi5=some ⟨oci5,odi5,.func (PySem.W.fnOf "__init__" "BadDeed.__init__" (aq bu) (ak bu) (af bu) .none kVi5 dci5 pmi5 ani5 cdi5 cti5),sli5⟩)
  (ic5:PySem.W.codeIn K cdi5 "BadDeed.__init__"=true)
  (ik5:PySem.W.keepIn K (.ref fi5)=true)
  (it5:PySem.W.typeIn K (.ref fi5)=some (.type "function"))
  (iw5:PySem.W.findIn K (.ref e10) "word"=some none)
  (ia6:PySem.W.findIn K (.ref e11) "__init__"=some (some (.ref fi6)))
  (il6:K.lookup fi6=some ⟨oci6,odi6,.func (PySem.W.fnOf "__init__" "Unsound.__init__" (aq bt) (ak bt) (af bt) .none kVi6 dci6 pmi6 ani6 cdi6 cti6),sli6⟩)
  (ic6:PySem.W.codeIn K cdi6 "Unsound.__init__"=true)
  (ik6:PySem.W.keepIn K (.ref fi6)=true)
  (it6:PySem.W.typeIn K (.ref fi6)=some (.type "function"))
  (iw6:PySem.W.findIn K (.ref e11) "word"=some none)
  (iv6:PySem.W.findIn K (.ref e11) "worths"=some none)
  (ip1:PySem.W.findIn K (.ref e1) "__init__"=some (some (.builtin "ValueError.__init__")))
  (ip2:PySem.W.findIn K (.ref e2) "__init__"=some (some (.builtin "ValueError.__init__")))
  (ip3:PySem.W.findIn K (.ref e3) "__init__"=some (some (.builtin "ValueError.__init__")))
  (ip4:PySem.W.findIn K (.ref e4) "__init__"=some (some (.builtin "ValueError.__init__"))):
  ∃fd:FuncData,(∀(s:Shared) (v:Value),BindsTo s fd ⟨[v],[]⟩ [("script",v)])∧∀base:Heap,K.In base→base.Ns mainGlobals mg→cx l.prog w K mg base CX0 7 fa fd ["script"] (wt K):=by
 have e:=hfa.symm.trans (PySem.W.mg_of X G a12);cases e
 have G0:Gs w K mg ⟨e0,e1,e2,e3,e4,e5,e6,e7,e8,e9,e10,e11⟩:=⟨⟨ndup,PySem.W.mg_of X G cn0,PySem.W.mg_of X G cn1,PySem.W.mg_of X G cn2,PySem.W.mg_of X G cn3,PySem.W.mg_of X G cn4,PySem.W.mg_of X G cn5,PySem.W.mg_of X G cn6,PySem.W.mg_of X G cn7,PySem.W.mg_of X G cn8,PySem.W.mg_of X G cn9,PySem.W.mg_of X G cn10,PySem.W.mg_of X G cn11,Xc.mk' cl0 ck0 cs0 cg0 ch0 cc0 (.inl rfl),Xc.mk' cl1 ck1 cs1 cg1 ch1 cc1 (.inr ⟨_,rfl⟩),Xc.mk' cl2 ck2 cs2 cg2 ch2 cc2 (.inr ⟨_,rfl⟩),Xc.mk' cl3 ck3 cs3 cg3 ch3 cc3 (.inr ⟨_,rfl⟩),Xc.mk' cl4 ck4 cs4 cg4 ch4 cc4 (.inr ⟨_,rfl⟩),Xc.mk' cl5 ck5 cs5 cg5 ch5 cc5 (.inr ⟨_,rfl⟩),Xc.mk' cl6 ck6 cs6 cg6 ch6 cc6 (.inr ⟨_,rfl⟩),Xc.mk' cl7 ck7 cs7 cg7 ch7 cc7 (.inr ⟨_,rfl⟩),Xc.mk' cl8 ck8 cs8 cg8 ch8 cc8 (.inr ⟨_,rfl⟩),Xc.mk' cl9 ck9 cs9 cg9 ch9 cc9 (.inr ⟨_,rfl⟩),Xc.mk' cl10 ck10 cs10 cg10 ch10 cc10 (.inr ⟨_,rfl⟩),Xc.mk' cl11 ck11 cs11 cg11 ch11 cc11 (.inr ⟨_,rfl⟩),crd,cty,cfi⟩,iw0,iw1,iw2,iw3,iw4,iw5,iw6,iv6,ip1,ip2,ip3,ip4,PySem.W.mg_none_of X G z0,PySem.W.mg_none_of X G z1,PySem.W.mg_none_of X G z2,PySem.W.mg_none_of X G z3,PySem.W.mg_none_of X G z4,PySem.W.mg_none_of X G z5,PySem.W.mg_none_of X G z6,PySem.W.mg_none_of X G z7,PySem.W.mg_none_of X G z8,PySem.W.mg_none_of X G z9⟩;have F0:=bh (st:=il) l0 c0 k0;have D0:Def K mg "joined_numbers" il ["word","parts"]:=⟨f0,_,F0,F0.binds (ps:=["word","parts"]) (λ_ _ _ _ _ _ us hl=>match us,hl with | [_,_],_=>rfl),PySem.W.mg_of X G a0⟩;have F1:=bh (st:=iz) l1 c1 k1;have D1:Def K mg "value_of" iz ["name","values"]:=⟨f1,_,F1,F1.binds (ps:=["name","values"]) (λ_ _ _ _ _ _ us hl=>match us,hl with | [_,_],_=>rfl),PySem.W.mg_of X G a1⟩;have F2:=bh (st:=ml) l2 c2 k2;have D2:Def K mg "held_in" ml ["box","boxes"]:=⟨f2,_,F2,F2.binds (ps:=["box","boxes"]) (λ_ _ _ _ _ _ us hl=>match us,hl with | [_,_],_=>rfl),PySem.W.mg_of X G a2⟩;have F3:=bh (st:=me) l3 c3 k3;have D3:Def K mg "row_number" me ["row","boxes","values"]:=⟨f3,_,F3,F3.binds (ps:=["row","boxes","values"]) (λ_ _ _ _ _ _ us hl=>match us,hl with | [_,_,_],_=>rfl),PySem.W.mg_of X G a3⟩;have F4:=bh (st:=vk) l4 c4 k4;have D4:Def K mg "run" vk ["rows","values"]:=⟨f4,_,F4,F4.binds (ps:=["rows","values"]) (λ_ _ _ _ _ _ us hl=>match us,hl with | [_,_],_=>rfl),PySem.W.mg_of X G a4⟩;have F5:=bh (st:=ly) l5 c5 k5;have D5:Def K mg "_law_cell_at" ly ["script","k"]:=⟨f5,_,F5,F5.binds (ps:=["script","k"]) (λ_ _ _ _ _ _ us hl=>match us,hl with | [_,_],_=>rfl),PySem.W.mg_of X G a5⟩;have F6:=bh (st:=iu) l6 c6 k6;have D6:Def K mg "_law_names" iu ["cell"]:=⟨f6,_,F6,F6.binds (ps:=["cell"]) (λ_ _ _ _ _ _ us hl=>match us,hl with | [_],_=>rfl),PySem.W.mg_of X G a6⟩;have F7:=bh (st:=vr) l7 c7 k7;have D7:Def K mg "_law_row" vr ["cell","full","names"]:=⟨f7,_,F7,F7.binds (ps:=["cell","full","names"]) (λ_ _ _ _ _ _ us hl=>match us,hl with | [_,_,_],_=>rfl),PySem.W.mg_of X G a7⟩;have F8:=bh (st:=mr) l8 c8 k8;have D8:Def K mg "_law_full" mr ["rows"]:=⟨f8,_,F8,F8.binds (ps:=["rows"]) (λ_ _ _ _ _ _ us hl=>match us,hl with | [_],_=>rfl),PySem.W.mg_of X G a8⟩;have F9:=bh (st:=dc) l9 c9 k9;have D9:Def K mg "_law_failing" dc ["rows","at","cell","names"]:=⟨f9,_,F9,F9.binds (ps:=["rows","at","cell","names"]) (λ_ _ _ _ _ _ us hl=>match us,hl with | [_,_,_,_],_=>rfl),PySem.W.mg_of X G a9⟩;have F10:=bh (st:=ku) l10 c10 k10;have D10:Def K mg "_law_made" ku []:=⟨f10,_,F10,F10.binds (ps:=[]) (λ_ _ _ _ _ _ us hl=>match us,hl with | [],_=>rfl),PySem.W.mg_of X G a10⟩;have F11:=bh (st:=de) l11 c11 k11;have D11:Def K mg "_law_refused" de ["rows","values","due"]:=⟨f11,_,F11,F11.binds (ps:=["rows","values","due"]) (λ_ _ _ _ _ _ us hl=>match us,hl with | [_,_,_],_=>rfl),PySem.W.mg_of X G a11⟩;have F12:=bh (st:=qj) l12 c12 k12;refine ⟨PySem.W.fnOf "law" "law" (aq qj) (ak qj) (af qj) .none kV12 dc12 pm12 an12 cd12 ct12,λs v=>.of_eq rfl,λbase _ _=>?_⟩;have FI0:=bh (st:=cc) il0 ic0 ik0;have HI_BadRow:fi l.prog w K mg base 1 e5 ["self","row"] (ax e5 "row"):=⟨fi0,_,ia0,it0,nq (k:=0) (κ:=⟨e0,e1,e2,e3,e4,e5,e6,e7,e8,e9,e10,e11⟩) G0 iw0 FI0,FI0.binds (ps:=["self","row"]) (λ_ _ _ _ _ _ us hl=>match us,hl with | [_,_],_=>rfl)⟩;have FI1:=bh (st:=bz) il1 ic1 ik1;have HI_NoValue:fi l.prog w K mg base 1 e6 ["self","word"] (ax e6 "word"):=⟨fi1,_,ia1,it1,mz (k:=0) (κ:=⟨e0,e1,e2,e3,e4,e5,e6,e7,e8,e9,e10,e11⟩) G0 iw1 FI1,FI1.binds (ps:=["self","word"]) (λ_ _ _ _ _ _ us hl=>match us,hl with | [_,_],_=>rfl)⟩;have FI2:=bh (st:=cq) il2 ic2 ik2;have HI_Twice:fi l.prog w K mg base 1 e7 ["self","word"] (ax e7 "word"):=⟨fi2,_,ia2,it2,qz (k:=0) (κ:=⟨e0,e1,e2,e3,e4,e5,e6,e7,e8,e9,e10,e11⟩) G0 iw2 FI2,FI2.binds (ps:=["self","word"]) (λ_ _ _ _ _ _ us hl=>match us,hl with | [_,_],_=>rfl)⟩;have FI3:=bh (st:=cb) il3 ic3 ik3;have HI_NoName:fi l.prog w K mg base 1 e8 ["self","word"] (ax e8 "word"):=⟨fi3,_,ia3,it3,nj (k:=0) (κ:=⟨e0,e1,e2,e3,e4,e5,e6,e7,e8,e9,e10,e11⟩) G0 iw3 FI3,FI3.binds (ps:=["self","word"]) (λ_ _ _ _ _ _ us hl=>match us,hl with | [_,_],_=>rfl)⟩;have FI4:=bh (st:=bp) il4 ic4 ik4;have HI_BadShape:fi l.prog w K mg base 1 e9 ["self","word"] (ax e9 "word"):=⟨fi4,_,ia4,it4,j8 (k:=0) (κ:=⟨e0,e1,e2,e3,e4,e5,e6,e7,e8,e9,e10,e11⟩) G0 iw4 FI4,FI4.binds (ps:=["self","word"]) (λ_ _ _ _ _ _ us hl=>match us,hl with | [_,_],_=>rfl)⟩;have FI5:=bh (st:=bu) il5 ic5 ik5;have HI_BadDeed:fi l.prog w K mg base 1 e10 ["self","word"] (ax e10 "word"):=⟨fi5,_,ia5,it5,mf (k:=0) (κ:=⟨e0,e1,e2,e3,e4,e5,e6,e7,e8,e9,e10,e11⟩) G0 iw5 FI5,FI5.binds (ps:=["self","word"]) (λ_ _ _ _ _ _ us hl=>match us,hl with | [_,_],_=>rfl)⟩;have FI6:=bh (st:=bt) il6 ic6 ik6;have HI_Unsound:fi l.prog w K mg base 1 e11 ["self","word","worths"] (ke e11):=⟨fi6,_,ia6,it6,mh (k:=0) (κ:=⟨e0,e1,e2,e3,e4,e5,e6,e7,e8,e9,e10,e11⟩) G0 iw6 iv6 FI6,FI6.binds (ps:=["self","word","worths"]) (λ_ _ _ _ _ _ us hl=>match us,hl with | [_,_,_],_=>rfl)⟩;have H0:Has l.prog w K mg base 1 "joined_numbers" ["word","parts"] km:=Aq (k:=0) G0   D0;have H1:dz l.prog w K mg base 3 "value_of" ["name","values"] (rm (Cl.mk e0 e1 e2 e3 e4 e5 e6 e7 e8 e9 e10 e11)):=Bi (k:=2) G0   HI_NoValue (by decide) D1;have H2:dz l.prog w K mg base 1 "held_in" ["box","boxes"] (jm (Cl.mk e0 e1 e2 e3 e4 e5 e6 e7 e8 e9 e10 e11)):=Cy (k:=0) G0   D2;have H3:dz l.prog w K mg base 4 "row_number" ["row","boxes","values"] (kq (Cl.mk e0 e1 e2 e3 e4 e5 e6 e7 e8 e9 e10 e11)):=Dx (k:=3) G0 (H2.up (by decide)) (H0.up (by decide)) (H1.up (by decide))  D3;have H4:dz l.prog w K mg base 5 "run" ["rows","values"] (ig K (Cl.mk e0 e1 e2 e3 e4 e5 e6 e7 e8 e9 e10 e11)):=hasRun (k:=4) G0 (H3.up (by decide))  D4;have H5:Has l.prog w K mg base 1 "_law_cell_at" ["script","k"] (fu K):=Ee (k:=0) G0   D5;have H6:Has l.prog w K mg base 1 "_law_names" ["cell"] gf:=Cj (k:=0) G0   D6;have H7:Has l.prog w K mg base 1 "_law_row" ["cell","full","names"] (i0 K):=hasRow (k:=0) G0   D7;have H8:Has l.prog w K mg base 1 "_law_full" ["rows"] (ic K):=El (k:=0) G0   D8;have H9:Has l.prog w K mg base 2 "_law_failing" ["rows","at","cell","names"] (d8 K):=wa (k:=1) G0 (H8.up (by decide))  D9;have H10:Has l.prog w K mg base 3 "_law_made" [] jg:=C1 (k:=2) G0   HI_BadRow (by decide) HI_NoValue (by decide) HI_Twice (by decide) HI_NoName (by decide) HI_BadShape (by decide) HI_BadDeed (by decide) HI_Unsound (by decide) D10;have H11:Has l.prog w K mg base 6 "_law_refused" ["rows","values","due"] (dm K):=vw (k:=5) G0 (H4.up (by decide))  D11;exact hasLaw (k:=6) G0 (H5.up (by decide)) (H9.up (by decide)) (H8.up (by decide)) (H10.up (by decide)) (H6.up (by decide)) (H11.up (by decide)) (H7.up (by decide)) (H4.up (by decide))  F12
theorem walk {l:PySem.W.OpenLaw} {q:Program} {loose:List Str} {XP:(Str→Option Value)→Heap→Prop} {YP:World→Heap→Prop} {d:DefRec} {K:Params→PySem.W.Frag} (hn:l.most=some 63) (hdf:d.params.defaults=[])
  (hY:∀(w:World) (h:Heap),YP w h→(K w.params).In h)
  (F:∀(w:World) (mg:Str→Option Value) (fa:Addr) (h:Heap),(K w.params).In h→h.Ns mainGlobals mg→mg d.name=some (.ref fa)→
   ∃fd:FuncData,(∀(s:Shared) (u:Value),BindsTo s fd ⟨[u],[]⟩ [("script",u)])∧∀base:Heap,(K w.params).In base→base.Ns mainGlobals mg→cx l.prog w (K w.params) mg base CX0 7 fa fd ["script"] (wt (K w.params))):
  PySem.W.WalkO q loose XP YP l.row.toRowW d [] (λf vs=>PySem.call f vs):=
 L2.Dw (n:=63) (k:=7) (x:="script") (CX:=λ_=>CX0) (sp:=λw=>wt (K w.params)) hn (by decide) hdf ⟨rfl,by decide,by decide⟩ hY F (λ_ _ a ns hl _ hS=>⟨a,ns,rfl,hS,hl,λ_=>rfl⟩) λ_ _ _ _ _ z=>z
end K22
namespace PySem.W.Fast
def tw8616027144165624346:=()
def tw2568618444763227003:=()
def tw3523359671095702091:=()
def tw4099692963263749779:=()
def tw833883491415232726:=()
def tw9248008210724549284:=()
def tw11254526035483356897:=()
def tw12100932896188011975:=()
def tw16984424594161707178:=()
def tw1070779992888029284:=()
def tw15594113267681006784:=()
def tw13919956567366597961:=()
def tw7489004716544733559:=()
def tw17420348317522235398:=()
def tw15609529513553598776:=()
def tw13174281628997785208:=()
def tw2081722726238369446:=()
def tw10385792417059912930:=()
def tw10346787981491767870:=()
def tw1523247830855217196:=()
def tw2694955899447404399:=()
def tw13918573403107567855:=()
def tw5858358479915517179:=()
def tw1486233858812344693:=()
def tw13034421709294207012:=()
def tw4499957421950166327:=()
def tw14241315583097503651:=()
def tw5613149092032383314:=()
def tw10999786897230694693:=()
def tw3038010340971354776:=()
def tw9829779175699756504:=()
def tw6397128248594314677:=()
def tw17691056312431454650:=()
def tw6163010609909222994:=()
def tw7611027052752559804:=()
def tw577096560992977260:=()
def tw9765909781953397818:=()
def tw7278499512792022387:=()
def tw11616308081809295758:=()
def tw3366810948034002532:=()
def tw997101199567019090:=()
def tw11107535995688373182:=()
def tw18230175967720830993:=()
def tw11935819733446870648:=()
def tw14781493073870375479:=()
def tw9339909216332977912:=()
def tw16224246449495791431:=()
def tw17239553343929088273:=()
def tw1935521572704042740:=()
def tw17699224353484258551:=()
def tw11398752044520948176:=()
def tw13008426497146058450:=()
def tw12271579243690994224:=()
def tw242286163079714301:=()
def tw12369141359622936550:=()
def tw8542701436415794980:=()
def tw10614913228879856158:=()
def tw10799936029610195093:=()
def tw8485074209298089541:=()
def tw10246804411205633544:=()
def tw2404584195376499474:=()
def tw1231070835735434607:=()
def tw9197103609373183098:=()
def tw2092799912486221564:=()
def tw1003984856097050069:=()
def tw12048606507153214637:=()
def tw3685248704789749453:=()
def tw7155560035504073041:=()
def tw15149043230792827375:=()
def tw6447308127559377234:=()
def tw6159934259715624475:=()
def tw8727312336918920217:=()
def tw12506820696935322132:=()
def tw4511951330344891110:=()
def tw7039856626708432115:=()
def tw16395065765194239417:=()
def tw2220380064958682560:=()
def tw12507056943043990077:=()
def tw17060486128363465307:=()
def tw11110470624839745350:=()
def tw13507090016355161302:=()
def tw10385647852489124358:=()
def tw18106018134947012880:=()
def tw17125915591135010092:=()
def tw8583603608785990587:=()
def tw2148041141572333694:=()
def tw14977231760226309543:=()
def tw11833086440156833579:=()
def tw9466917103457252768:=()
def tw13981640001355970327:=()
def tw14284553593973384868:=()
def tw2466070251487773715:=()
def tw11297991768856587941:=()
def tw7147111314813574379:=()
def tw4621028556303947153:=()
def tw10498766097314895315:=()
def tw6167059157790668074:=()
def tw3784496348616434277:=()
def tw13203728636074550937:=()
def tw16081203317447986150:=()
def tw15067687513461480445:=()
def tw13355050018797407423:=()
def tw14670813083442109439:=()
def tw4274387482560537976:=()
def tw12275236025271800376:=()
def tw409471229409842120:=()
def tw6567254835770206269:=()
def tw12732594314817957273:=()
def tw14375196264506086351:=()
def tw13879575356314286200:=()
def tw18211463767361172509:=()
def tw6883614996188475498:=()
def tw8542006490263049035:=()
def tw10325808113918622202:=()
def tw9393097361160350813:=()
def tw5119647769147787841:=()
def tw8645166841174475574:=()
def tw4504040179827751327:=()
def tw10217694199851095686:=()
def tw3566963071309073132:=()
def tw9849992336419907554:=()
def tw10430230334008254525:=()
def tw12978992419202663976:=()
def tw13384259454760117751:=()
def tw6404433161523664210:=()
def tw14023450071075590847:=()
def tw11354524454932865016:=()
def tw5682677879406066834:=()
def tw15400882191118255948:=()
def tw7769056532778357001:=()
def tw14956193745267673535:=()
def tw1952876522705984641:=()
def tw17935057935639327325:=()
def tw3667260156820673435:=()
def tw7087883307553308034:=()
def tw5097980358687664312:=()
def tw2432700141396255508:=()
def tw6323962981515566701:=()
def tw11841958041756756893:=()
def tw15548545842522378713:=()
def tw14084752646678507062:=()
def tw14273466557469700267:=()
def tw16336220690842390167:=()
def tw13513846939767911122:=()
def tw7425670634144484491:=()
def tw17618072887263286098:=()
def tw2284180556448401697:=()
def tw7085193838341922252:=()
def tw2226114037685984132:=()
def tw18090161993157056671:=()
def tw5489960559169707317:=()
def tw7026456983224811262:=()
def tw13341890821998038820:=()
def tw886120113065062276:=()
def tw4447203075409377889:=()
def tw16349311474948871115:=()
def tw2629141873091822324:=()
def tw13255711361356537764:=()
def tw10304919966515855461:=()
def tw6161693376320248169:=()
def tw17405093942681318830:=()
def tw9539297122953638160:=()
def tw9772149933063573154:=()
def tw17807040624488126136:=()
def tw14407694230338865379:=()
def tw9871991704113339258:=()
def tw1977489013210592256:=()
def tw10698455002271697067:=()
def tw5540902716521482574:=()
def tw766477449244947602:=()
def tw4294202046179252019:=()
def tw11245939447319037076:=()
def tw9138881482436030158:=()
def tw3367544233875027691:=()
def tw4673856181517057217:=()
def tw13312588840510155901:=()
def tw9911651838690223888:=()
def tw9487304574058543977:=()
def tw6180357345182132070:=()
def tw2213571959476700070:=()
def tw14476792820196966547:=()
def tw161244156509950207:=()
def tw9265470833508851797:=()
def tw13669847535492366855:=()
def tw8744380537651771341:=()
def tw13938601651645730265:=()
def tw2477069485659655263:=()
def tw5555050359417279327:=()
def tw1522114801579080818:=()
def tw5874224087314719931:=()
def tw2747576869555311674:=()
def tw454311007002484294:=()
def tw10695144490302768454:=()
def tw3350201673283551611:=()
def tw15955736812265124502:=()
def tw1447659917429280561:=()
def tw7547640035294755469:=()
def tw10163018557084706589:=()
def tw14345186713207649675:=()
def tw12898549280830027247:=()
def tw17564028040415096431:=()
def tw3970770415118195468:=()
def tw13947216144496602869:=()
def tw18242221880397704518:=()
def tw2813939879680679569:=()
def tw15750161693576658203:=()
def tw4899196743582380553:=()
def tw5973424308929292470:=()
def tw13574400243931845478:=()
def tw3267773438124733741:=()
def tw7687162903157695879:=()
def tw6309475403350523581:=()
def tw13731633607317411541:=()
def tw6354197087156943655:=()
def tw3609104647484712533:=()
def tw3011996717251420395:=()
def tw16815232063159651712:=()
def tw11603553479026491361:=()
def tw13518280145979845638:=()
def tw11316202974733438088:=()
def tw1660296294839164039:=()
def tw5234900843304202779:=()
def tw18228326101717969228:=()
def tw373629922527875974:=()
def tw10408652180821504763:=()
def tw8568597507518477958:=()
def tw16337594232054616264:=()
def tw9537939112307368819:=()
def tw3186863278332594944:=()
def tw7805999194589594979:=()
def tw7197360064144376960:=()
def tw6910985178293780734:=()
def tw3252058801085764322:=()
def tw5474953035080901895:=()
def tw7658499220535711625:=()
def tw2530882015571925838:=()
def tw16443153247906261512:=()
def tw5149159056238168552:=()
def tw2883248310177118585:=()
def tw5641487896710668333:=()
def tw1366221255950648004:=()
def tw2399350975311037299:=()
def tw11156926385757896991:=()
def tw7896043090548879006:=()
def tw14346750218122150510:=()
def tw12102922030270008285:=()
def tw2738560729580917495:=()
def tw9514252911538080751:=()
def tw2617825379602977033:=()
def tw16013078714193825302:=()
def tw14729929967463213172:=()
def tw6741444642097872459:=()
def tw3478231052427936024:=()
def tw5852915314382153950:=()
def tw18356189533177555133:=()
def tw4941364089409716526:=()
def tw3327715390682820806:=()
def tw14817716245264739128:=()
def tw3228091434217111816:=()
def tw13973569932966668795:=()
def tw14003064177105580270:=()
def tw8143808986295075438:=()
def tw3420600874653830428:=()
def tw6312198454012237588:=()
def tw15415807325236737443:=()
def tw3331307468398473586:=()
def tw5708177556414516337:=()
def tw13381936221525075902:=()
def tw6370420588752023787:=()
def tw7769060134918395866:=()
def tw11671187107449862476:=()
def tw14047516113127598396:=()
def tw13647231027816813816:=()
def tw12458047132857562389:=()
def tw16262648335818264342:=()
def tw13250417467637722895:=()
def tw17789953235600571545:=()
def tw8954247087372086599:=()
def tw6909543271276408903:=()
def tw6501136455438710133:=()
def tw7518005271626967324:=()
def tw965267986643505968:=()
def tw856206000688203927:=()
def tw10872798371153387222:=()
def tw10498842724418013728:=()
def tw12133495696349001540:=()
def tw17147079464754954030:=()
def tw18410629102873449648:=()
def tw18113037935381886937:=()
def tw7343137451545961702:=()
def tw12261239265797298471:=()
def tw11673139476599513970:=()
def tw8410246818406016277:=()
def tw12690024142951027344:=()
def tw8078337679418881103:=()
def tw419140558815954693:=()
def tw7446280806758567807:=()
def tw15605074366201604963:=()
def tw18140540785158550672:=()
def tw828110824772960732:=()
def tw13050190933132074679:=()
def tw17641762182596684514:=()
def tw8534301862908653342:=()
def tw10331533046526622361:=()
end PySem.W.Fast
open PySem PySem.W PyProof.Rows
set_option maxRecDepth 100000 in
set_option maxHeartbeats 0 in
theorem PySem.Challenge.cw_pricecover_k22_no_box_no_value_holds : PySem.Challenge.rw_pricecover_k22_no_box_no_value.Holds := by
 w_on;o_law;k_head;(case hw=>w_witness2)
 k_fill
 refine K22.walk (l:=PySem.Challenge.rw_pricecover_k22_no_box_no_value) rfl rfl (fun w h Y=>PySem.W.kIn_of Y) ?F
 case F=>
  intro w mg fa h KX G hmg
  refine' K22.all_mk KX G hmg ?a0 ?l0 ?c0 ?k0 ?a1 ?l1 ?c1 ?k1 ?a2 ?l2 ?c2 ?k2 ?a3 ?l3 ?c3 ?k3 ?a4 ?l4 ?c4 ?k4 ?a5 ?l5 ?c5 ?k5 ?a6 ?l6 ?c6 ?k6 ?a7 ?l7 ?c7 ?k7 ?a8 ?l8 ?c8 ?k8 ?a9 ?l9 ?c9 ?k9 ?a10 ?l10 ?c10 ?k10 ?a11 ?l11 ?c11 ?k11 ?a12 ?l12 ?c12 ?k12 ?z0 ?z1 ?z2 ?z3 ?z4 ?z5 ?z6 ?z7 ?z8 ?z9 ?cn0 ?cl0 ?ck0 ?cs0 ?cg0 ?ch0 ?cc0 ?cn1 ?cl1 ?ck1 ?cs1 ?cg1 ?ch1 ?cc1 ?cn2 ?cl2 ?ck2 ?cs2 ?cg2 ?ch2 ?cc2 ?cn3 ?cl3 ?ck3 ?cs3 ?cg3 ?ch3 ?cc3 ?cn4 ?cl4 ?ck4 ?cs4 ?cg4 ?ch4 ?cc4 ?cn5 ?cl5 ?ck5 ?cs5 ?cg5 ?ch5 ?cc5 ?cn6 ?cl6 ?ck6 ?cs6 ?cg6 ?ch6 ?cc6 ?cn7 ?cl7 ?ck7 ?cs7 ?cg7 ?ch7 ?cc7 ?cn8 ?cl8 ?ck8 ?cs8 ?cg8 ?ch8 ?cc8 ?cn9 ?cl9 ?ck9 ?cs9 ?cg9 ?ch9 ?cc9 ?cn10 ?cl10 ?ck10 ?cs10 ?cg10 ?ch10 ?cc10 ?cn11 ?cl11 ?ck11 ?cs11 ?cg11 ?ch11 ?cc11 ?crd ?cty ?cfi ?ndup ?ia0 ?il0 ?ic0 ?ik0 ?it0 ?iw0 ?ia1 ?il1 ?ic1 ?ik1 ?it1 ?iw1 ?ia2 ?il2 ?ic2 ?ik2 ?it2 ?iw2 ?ia3 ?il3 ?ic3 ?ik3 ?it3 ?iw3 ?ia4 ?il4 ?ic4 ?ik4 ?it4 ?iw4 ?ia5 ?il5 ?ic5 ?ik5 ?it5 ?iw5 ?ia6 ?il6 ?ic6 ?ik6 ?it6 ?iw6 ?iv6 ?ip1 ?ip2 ?ip3 ?ip4
  (case a0=>k_is)
  (case l0=>k_is)
  (case c0=>k_is)
  (case k0=>k_is)
  (case a1=>k_is)
  (case l1=>k_is)
  (case c1=>k_is)
  (case k1=>k_is)
  (case a2=>k_is)
  (case l2=>k_is)
  (case c2=>k_is)
  (case k2=>k_is)
  (case a3=>k_is)
  (case l3=>k_is)
  (case c3=>k_is)
  (case k3=>k_is)
  (case a4=>k_is)
  (case l4=>k_is)
  (case c4=>k_is)
  (case k4=>k_is)
  (case a5=>k_is)
  (case l5=>k_is)
  (case c5=>k_is)
  (case k5=>k_is)
  (case a6=>k_is)
  (case l6=>k_is)
  (case c6=>k_is)
  (case k6=>k_is)
  (case a7=>k_is)
  (case l7=>k_is)
  (case c7=>k_is)
  (case k7=>k_is)
  (case a8=>k_is)
  (case l8=>k_is)
  (case c8=>k_is)
  (case k8=>k_is)
  (case a9=>k_is)
  (case l9=>k_is)
  (case c9=>k_is)
  (case k9=>k_is)
  (case a10=>k_is)
  (case l10=>k_is)
  (case c10=>k_is)
  (case k10=>k_is)
  (case a11=>k_is)
  (case l11=>k_is)
  (case c11=>k_is)
  (case k11=>k_is)
  (case a12=>k_is)
  (case l12=>k_is)
  (case c12=>k_is)
  (case k12=>k_is)
  (case z0=>k_is)
  (case z1=>k_is)
  (case z2=>k_is)
  (case z3=>k_is)
  (case z4=>k_is)
  (case z5=>k_is)
  (case z6=>k_is)
  (case z7=>k_is)
  (case z8=>k_is)
  (case z9=>k_is)
  (case cn0=>k_is)
  (case cl0=>k_is)
  (case ck0=>k_is)
  (case cs0=>k_is)
  (case cg0=>k_is)
  (case ch0=>k_is)
  (case cc0=>k_is)
  (case cn1=>k_is)
  (case cl1=>k_is)
  (case ck1=>k_is)
  (case cs1=>k_is)
  (case cg1=>k_is)
  (case ch1=>k_is)
  (case cc1=>k_is)
  (case cn2=>k_is)
  (case cl2=>k_is)
  (case ck2=>k_is)
  (case cs2=>k_is)
  (case cg2=>k_is)
  (case ch2=>k_is)
  (case cc2=>k_is)
  (case cn3=>k_is)
  (case cl3=>k_is)
  (case ck3=>k_is)
  (case cs3=>k_is)
  (case cg3=>k_is)
  (case ch3=>k_is)
  (case cc3=>k_is)
  (case cn4=>k_is)
  (case cl4=>k_is)
  (case ck4=>k_is)
  (case cs4=>k_is)
  (case cg4=>k_is)
  (case ch4=>k_is)
  (case cc4=>k_is)
  (case cn5=>k_is)
  (case cl5=>k_is)
  (case ck5=>k_is)
  (case cs5=>k_is)
  (case cg5=>k_is)
  (case ch5=>k_is)
  (case cc5=>k_is)
  (case cn6=>k_is)
  (case cl6=>k_is)
  (case ck6=>k_is)
  (case cs6=>k_is)
  (case cg6=>k_is)
  (case ch6=>k_is)
  (case cc6=>k_is)
  (case cn7=>k_is)
  (case cl7=>k_is)
  (case ck7=>k_is)
  (case cs7=>k_is)
  (case cg7=>k_is)
  (case ch7=>k_is)
  (case cc7=>k_is)
  (case cn8=>k_is)
  (case cl8=>k_is)
  (case ck8=>k_is)
  (case cs8=>k_is)
  (case cg8=>k_is)
  (case ch8=>k_is)
  (case cc8=>k_is)
  (case cn9=>k_is)
  (case cl9=>k_is)
  (case ck9=>k_is)
  (case cs9=>k_is)
  (case cg9=>k_is)
  (case ch9=>k_is)
  (case cc9=>k_is)
  (case cn10=>k_is)
  (case cl10=>k_is)
  (case ck10=>k_is)
  (case cs10=>k_is)
  (case cg10=>k_is)
  (case ch10=>k_is)
  (case cc10=>k_is)
  (case cn11=>k_is)
  (case cl11=>k_is)
  (case ck11=>k_is)
  (case cs11=>k_is)
  (case cg11=>k_is)
  (case ch11=>k_is)
  (case cc11=>k_is)
  (case crd=>k_is)
  (case cty=>k_is)
  (case cfi=>k_is)
  (case ndup=>decide)
  (case ia0=>k_is)
  (case il0=>k_is)
  (case ic0=>k_is)
  (case ik0=>k_is)
  (case it0=>k_is)
  (case iw0=>k_is)
  (case ia1=>k_is)
  (case il1=>k_is)
  (case ic1=>k_is)
  (case ik1=>k_is)
  (case it1=>k_is)
  (case iw1=>k_is)
  (case ia2=>k_is)
  (case il2=>k_is)
  (case ic2=>k_is)
  (case ik2=>k_is)
  (case it2=>k_is)
  (case iw2=>k_is)
  (case ia3=>k_is)
  (case il3=>k_is)
  (case ic3=>k_is)
  (case ik3=>k_is)
  (case it3=>k_is)
  (case iw3=>k_is)
  (case ia4=>k_is)
  (case il4=>k_is)
  (case ic4=>k_is)
  (case ik4=>k_is)
  (case it4=>k_is)
  (case iw4=>k_is)
  (case ia5=>k_is)
  (case il5=>k_is)
  (case ic5=>k_is)
  (case ik5=>k_is)
  (case it5=>k_is)
  (case iw5=>k_is)
  (case ia6=>k_is)
  (case il6=>k_is)
  (case ic6=>k_is)
  (case ik6=>k_is)
  (case it6=>k_is)
  (case iw6=>k_is)
  (case iv6=>k_is)
  (case ip1=>k_is)
  (case ip2=>k_is)
  (case ip3=>k_is)
  (case ip4=>k_is)
#print axioms PySem.Challenge.cw_pricecover_k22_no_box_no_value_holds
