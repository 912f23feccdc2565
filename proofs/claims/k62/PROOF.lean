import PyProof.Rows.All
import Wide.All
import OpenK.AllK
import Wide.FinOn
import Lean
import PyProof.EqAt
import PyProof.EqKinds
import PyProof.TupleCall
import KE.KSortTup
import PyProof.EnumMake
import PyProof.EnumStmt
import PyProof.ListRange
import PyProof.Rows.SortPure
import PyProof.Rows.SortRuns
import KE.KDictList
import KE.KRevIter
import PyProof.DictItems
import PyProof.ZipIter
import PyProof.DictUpdate
import PyProof.TupleIter
import PyProof.ListNew
import PyProof.Rows.ZipGen
import PyProof.AttrMiss
import PyProof.FactsAll.dict_1
import PyProof.AttrMissHeap
import KE.KDictOf
import PyProof.Rows.SetFrom
import PyProof.Rows.Range3
import PyProof.DictIter
import PyProof.Rows.TupDisplay
import PyProof.ExcClass3
import PyProof.RulesAs
import PyProof.RaisesMany
import PyProof.InstStore
import PyProof.InstStoreFacts
import PyProof.ExcBaseAll.ValueError
import PyProof.ExcArgs
import PyProof.InstLoad
import PyProof.ExcAttrAll.ValueError
import KE.KIsAll
import PyProof.Toks
import PyProof.FString4
import PyProof.StrLawsRepr
import PyProof.FitsReplace
import PyProof.Draws
import PyProof.Rows.CallKwBuiltin
import PyProof.MeetsSeq
import PyProof.Rows.SeqCalls
import PySem.Challenge.RW_pricecover_k62_whole_rows_come_to_worth
set_option Elab.async false
set_option bootstrap.genMatcherCode false
set_option linter.all false
set_option maxRecDepth 100000
set_option maxHeartbeats 4000000
open List renaming length_map → aa0,length_append → aa1,getElem?_eq_getElem → aa2,length_singleton → aa4,getElem?_map → aa5,mem_cons_self → aa6,getD_eq_getElem?_getD → aa7,length_cons → aa8,mem_cons_of_mem → aa9,map_append → aab,not_mem_nil → aac,getElem?_append_right → aad,size_toArray → aae,getElem?_append_left → aag,getElem_mem → aaj,mem_of_getElem? → aak,foldl_cons → aal,mem_cons → aan,foldl_nil → aap,mem_append_right → aar,map_cons → aas,length_reverse → aat,length_drop → aau,take_add_one → aav,drop_eq_getElem_cons → aaw,zip → aay,take_of_length_le → ab0,length_take → ab1,append_nil → ab3,getElem?_of_mem → ab7,filter_cons → ab9,length_replicate → aba,replicate → abc,map_map → abd,reverse_cons → abf,map_nil → abg,range → abh,Nodup → abj,getElem?_eq_none → abk,length_zip → abm,mem_append_left → abp,forIn_nil → abq,drop_of_length_le → abr,forIn_cons → abt,length_range → abw,flatMap_cons → abx,mem_map_of_mem → aby,length → ac2,of_mem_zip → ac3,mem_of_mem_drop → ac5,map_drop → ac6,filterMap_cons → ac7,filter_append → acb,length_nil → ace,getElem?_toArray → acf,getElem?_reverse → ach,exists_cons_of_ne_nil → aci,mem_of_find?_eq_some → ack,range' → acm,drop_zero → acn,lookup_cons → aco,getElem?_cons_succ → acq,find?_cons → acr,append_assoc → acw,nodup_nil → acx,drop_drop → acz,cons_append → ad1,take_length → ad2,replicate_succ → ad3,reverse_append → ad5,flatMap_append → ad6,getElem?_take_of_lt → ad8,length_filterMap_le → ada,any_cons → adg,map_take → adh,zipIdx_cons → adi,drop_length → adj,take_append_drop → adk,eraseIdxIfInBounds_toArray → adl,zipIdx_nil → adq,find?_some → ads,sum_append → adt,map_congr_left → adu,zip_cons_cons → adx,sum_cons → adz,getElem?_zip_eq_some → ae0,getElem_inj → ae1,map_fst_zip → ae7,getElem?_replicate → ae9,nil_append → aea,getElem?_set_self → aeb,drop_eq_nil_of_le → aee,length_pos_of_mem → aeg,length_filter_le → aei,getElem?_set_ne → aej,length_dropLast → aek,map → ael,getD_cons_zero → aen,getElem?_range → aeo,flatten_cons → aeu,ext_getElem? → aev,getElem_map → aez,map_reverse → af0,range'_succ → af1
open Nat renaming le_refl → aa3,lt_of_succ_lt → aaf,zero_le → aai,ne_of_lt → aam,lt_of_lt_of_le → aao,le_add_right → aaz,ne_of_gt → ab2,le_trans → ab4,le_succ → abe,lt_irrefl → abi,zero_add → abu,sub_self → abz,pow_le_pow_right → ac4,le_of_lt → ac8,lt_of_le_of_lt → ac9,lt_succ_of_lt → acj,le_mul_of_pos_right → acp,lt_or_ge → ad0,add_lt_add_left → ad4,min_eq_left → ad7,one_le_two_pow → ad9,eq_zero_or_pos → adb,mul_le_mul → ade,le_succ_of_le → adf,le_max_left → ado,add_sub_cancel → adw,succ_ne_self → ae3,add_comm → ae4,pow_succ → ae5,log2_le_self → ae8,le_mul_of_pos_left → aec,mul_add → aed,lt_of_succ_lt_succ → aef,le_of_eq → aep,lt_trans → aer,sub_zero → aes,le_of_not_lt → aew,lt_succ_self → aex,succ_lt_succ → aey,not_lt_zero → af2
open Option.some renaming inj → aaa
open And renaming intro → aah
open Bool renaming false_ne_true → aaq,false_eq_true → abn,and_eq_true → ac1,or_eq_true → acs,eq_iff_iff → adm,or_false → ady,and_false → aeh
open Array renaming getElem?_eq_getElem → aax,length_toList → abb,getElem?_eq_none → ac0,forIn_toList → aca,getElem?_toList → acd,toArray_toList → aem
open Or renaming inr → ab5,inl → ab6
open Int renaming emod_nonneg → ab8,emod_lt_of_pos → abo,toNat_natCast → acu,natAbs_neg → adv,toNat → af3
open List.cons renaming inj → abl,injEq → acg
open Iff renaming rfl → abv
open Option renaming isSome_map → acv,map_some → adn,getD_none → ae2,isSome_some → aeq
open Nat.succ renaming inj → acy
open List.Pairwise renaming imp_of_mem → ae6
open Exists renaming intro → aet
local macro_rules | `(tactic| omega)=>`(tactic| first | lia | omega +splitNatSub)
open Option renaming some → aA
open PySem.Str renaming ofString → aB,empty → iB
open PySem renaming wpAny_bind → aC,Value → aD,Shared → aF,wpAny_pure → aH,wpAny → aI,mainGlobals → aN,model → aP,sizeLine_eq → aV,Program → aX,World → aZ,starEach → bB,wpAny_field → bF,bindArgs → bH,wpAny_holding → bI,Around → bJ,wpAny_callSpecial?_slot → bK,wpAny_mono → bM,wpAny_call_entry → bN,bootBuiltins → bO,wpAny_seqItems → bP,wpAny_setField_rec → bR,wpAny_Call_Name_kw → bU,IsPair → bV,binaryOp → bY,sysModules → cE,compareOp → cG,wpAny_newObj_type → cI,backTo → cJ,builtinLookup_eq_fast → cM,rawInt → cP,Builtin → cR,pyNext → cS,behindInMarks → cU,FuncData → cV,ZipApart → cX,relabel → cY,wpAny_typeOf → dC,codeAny_builtin → dF,wpAny_truthy_bool → dH,wpAny_pyIter_list → dI,wpAny_passesOwn → dN,codeAny → dO,typeLookup_type → dQ,wpAny_attempt → dU,wpAny_pyIter_enum → dW,typeLookup → dY,wpAny_rule → dZ,wpAny_isInstance → eF,mem_of_lookup → eJ,field → eL,plainId_quiet → eO,letOwnedTupleGo → eQ,wpAny_pyIter_tuple → eR,tupleKind_room_in1 → eT,keywordEach → eU,wpAny_nextOf_list_item → eV,codeAny_mono → eZ,getItem → fB,wpAny_nextOf_list_end → fC,assignEach → fF,wpAny_updateSeq_pair → fG,codeAny_call_builtin → fH,wpAny_letOwnedTupleGo_enum → fJ,wpAny_onRaise → fM,sliceBounds → fN,wpAny_letGo → fO,wpAny_specialOf → fQ,wpAny_updateSeq → fR,wpAny_ite_split → fS,wpAny_comprehension_free → fV,getattributeRaised → fW,wpAny_newTuple → fZ,isSubtype_stop → gA,foldedSetIterable → gE,wpAny_pyIter_slot → gG,backToKw → gM,wpAny_execs_nil → gQ,IsPart → gS,call_meets → gT,newFunctionEnv → gY,callType_codes → hJ,tupleKind → hZ,assign → iA,Result → iC,wpAny_standAt → iH,attributeBase → iJ,wpAny_FormattedValue_plain → iL,strLen_append → iM,wpAny_sequenceKey → iO,atKey → iR,wpAny_dictSetHashed_pairs → iT,holding → iU,Keyword → iV,callerA → iW,valueAt → iX,wpAny_execs_cons → iY,pyIter → iZ,noFill_tuple_add → jA,merged → jB,wpAny_pyNext_enum_itemD → jJ,CmpOp → jM,cellsFrom → jN,updateSeq → jQ,wpAny_pyNext_list_item → jS,IsRangeIter → jT,wpAny_pyNext_range_end → jU,wpAny_pyIter_rangeiter → jV,subscripted → jY,codeAny_compStart_list → kB,meets_dict_get_default → kH,loadIfAlive → kJ,hashStr → kN,spliced → kP,wpAny_isTrue_Compare1 → kQ,wpAny_pyNext_list_end → kR,BindsTo → kT,notedBy → kU,wpAny_notOrdered_dict → kX,weight_type_call_type → kZ,bindL → lE,bindC → lJ,units_type_call_type → lR,seq_tuple_add → lT,evalPart_none → lW,isTrue → mK,wpAny_Constant_int → mL,swapsWith → mM,wpAny_pyIter_range → mN,concat_meets → mO,seqIndex? → mQ,seqIndex_neg → mR,call_meetsIn → mS,sub_AttributeError → mW,wpAny_assign_Name → nD,seqIndex_of → nI,wpAny_of_eq → nJ,NameKind → nK,compEnvC → nL,getAttr? → nM,builtinsNs → nO,wpAny_Name → nP,wpAny_call → nQ,PlainAttrs → nR,call → nS
open PySem.Heap renaming get?_push_of_some → aE,get?_push_size → aJ,lt_size → aK,size_push → bD,SameBut → bE,get?_update_other → cF,get?_update_self → cL,get?_push_ne → gF,size_update → gO,IsTuple → mU
open PySem.W renaming Frag → aG,nsIn → aO,keepIn → aQ,codeIn → aR,fnOf → aU,mg_of → aW,mg_none_of → bQ,kia_one → bZ,methodObj → iN,instObj → jL,OpenLaw → jO,cellsFrom_some → jX,lookIn → kS,kitx_list → nE,kitx_dict → nF
open PySem.F renaming plainAttrs_list → aL,slot_list_append → aS,type_list_append → aT,slot_zip_next → bW,slot_list_pop → cN,type_list_pop → cO,plain_extend_loop → cZ,slot_zip_iter → dE,slot_dict_get → dP,slot_tuple_iterator_next → dS,args_zip_next_1 → dX,entry_zip_next → eC,slot_enumerate_next → fD,args_tuple_add_2 → fT,slot_list_extend → fX,type_list_extend → fY,entry_tuple_add → gC,args_dict_get_3 → gD,args_zip_iter_1 → gH,slot_tuple_add → gI,entry_dict_get → gK,entry_zip_iter → gN,args_tuple_iterator_next_1 → gZ,entry_tuple_iterator_next → iE,entry_extend_loop → iS,args_list_init_2 → jC,plainAttrs_dict → jF,typeCall_list_1 → jG,entry_list_init → jH,args_enumerate_next_1 → jK,entry_enumerate_next → kL,type_dict_get → kW,entry_enumerate_new → lB,args_object_init_3 → lP,kt_typeCall_dict_1 → lQ,called_list → lY,entry_object_init → mD,args_dict_init_2 → mY,called_enumerate → mZ,entry_dict_init → nG,entry_type_call → nH
open Sum renaming inr → aM,inl → bA
open PySem.Builtin.SmallTypes renaming nextOf → aY,ownedTupleIsFree → bC,ownedTupleHandOut → cQ
open PySem.Value renaming ref → bG,type → dA,none → dJ,int → hX,str → mE,bool → nN
open PyProof.Rows renaming callWith_type1 → bL,slot_tuple_getitem → bT,AllBare → gP,envOfC → gR,entry_tuple_getitem → gV,slicePart_none → gX,args_tuple_getitem → iD,subscriptTail → iI,IsTup → iP,subscriptTail_builtinR → jZ,Subscript_ → lL,Constant_none → lS,tupleItemsOf_ → lU,zipApart_new → mV,IntsAre → nC
open PySem.Builtin.List renaming listExtendWith → bS,listSameRef → eG,listItems → eW,listLengthHint → fE,listTooLong → fU,listUpdate → jI
open PySem.Builtin.Slice renaming slicePlaces → bX,sliceApplied → dR,sliceAdjust → fP,sliceFields → iQ
open PySem.Builtin.Range renaming rangeFitsLong → cD,rangeSize → gB,small → lZ
open PySem.Obj renaming mapSeq → cK,data_mapFields → mT
open Ne renaming symm → cT
open PySem.Builtin.Tuple renaming tupleExact → dD,tupleItemsOf → fI
open PySem.Around renaming under_plainId → dG,under_plain → nB
open PySem.Calls renaming spliced_cons → dM,spliced_nil → eX,callWith_builtin → gJ,Name_function_global → iG,evalArgs_plain → lM
open Sum.inr renaming inj → eB
open PySem.Builtin.Dict renaming updateFrom → eN,addKeywords → jD,selfAndRest → jE,pairItems → kK
open PySem.Heap.SameBut renaming refl → eY,update → gW
open PySem.Shared renaming heap → gL,TypeIs → iK
open ForInStep renaming yield → gU
open PySem.Paired renaming length → iF
open PySem.Heap.DictOf renaming new → jP
open Sum.inl renaming inj → jR
open PyProof renaming noPylong_small → jW
open PySem.Builtin.Int renaming intBits → lX
open PySem.SeqAt.EqAt renaming int_str → mH,str_int → mJ
open PySem.Heap.IsSliceOf renaming new → mP
open PySem.Code renaming quiet_builtin → nA
set_option hygiene false
local macro_rules|`($x:name)=>do
 let t←`([by decide,
by decide+kernel,
by simp,
aP X.prog X.w,
.lst (as.map V.ref),
aP prog w,
upd H2 s2.heap.objs.size (.lst []),
aB "add",
kinds.map V.str,
.ref s.heap.objs.size,
.tup [V.ref sa,V.ref da],
aah (aah rfl (aah rfl rfl)) trivial,
A4 (AI 0) (A4 (AT 0) (A0 0) (A2 0)) (A2 0),
aB "out",
List V,
.ref a,
ay kinds v,
.ListComp elt [⟨tg,iter,ifs,0⟩] scope pos,
.ref z,
AG (AH (AN 0) (A4 (AI 0) (A0 0) (A2 0)) (A2 0) (AF 0)) (A5 (BS (A4 (AM 0) (A6 (AL 0) (A0 2) (A2 0)) (A2 0)) (C0 (A0 2) (A2 0) (@set_list _))) (A7 (AE (A8 (A1 (AB 0) (A1 (A8 (A1 (A8 (A1 (AB 0) (A1 (A0 3) (A1 (A4 (@jb _) (AB 0) (B0 (@me _) m_str Hj (A1 (A6 (AL 0) (A0 2) (A2 0)) (A3 0)))) (A3 0))))) (A3 0))) (A1 (A0 3) (A3 0)))))))) (AK 0),
aB "mul",
AD h_law_draw hr (A1 (A0 0) (A1 (A2 0) (A3 0))),
aB "neg",
A6 (AA 0) (A0 5) (A2 0),
aay _ us,
aB "t1",
ak kinds r.1.shape,
.ref l,
arE es,
aB "sub",
cxC X scope cl (own++fr) fp s H,
A6 (AA 0) (A0 0) (A2 0),
ns.map V.int,
(ws.drop p).map arV,
.ref t,
.str z,
chS 104,
.tup [V.ref rl,V.ref t2,V.ref t3],
.tup [V.ref d1,V.ref d2,V.ref d3],
AC (AC (AC (AX 0))),
.tup [V.str (wd ns (3+rs.length)),V.str kinds[u],V.int y,V.ref sa,V.ref da],
.tup [V.ref d1],
m.next (l.next c0),
aB "put",
cxK X scope cl bn ([bn]++fr) fp s H,
AH (AN 0) (A0 0) (AB 0) (AF 0),
.lst (as.map V.ref++[V.ref t]),
.tup [.int ((i+1:Nat):Int),x],
.inl rfl,
.ref d,
aah rfl trivial,
.int (p:Int),
ar.drop p,
.lst xs,
cR.«zip.__next__» ⟨[.ref z],[]⟩,
A6 (AA 0) (A0 6) (A2 0),
.tup [V.str (wd ns (3+j)),V.str kd,V.int x,V.ref sa,V.ref da],
(ws.drop (if ay kinds v=lH then endAt ws q else q+1)).map arV,
EP X pins σ Q,
ha pins s σ H _ I h,
.lst [],
.lst [V.str `h,V.str `D,V.str `u],
.tup [V.str `R,V.str `n,V.int 0],
.tup [V.str `h,V.str (aB "t2"),V.str (aB "h3"),V.str (aB "h4")],
cxK X scope cl bn ([bn]++fr) fp s3 `g,
.tup [V.int (0+(j:Int)+1),V.int (0+(j:Int))],
.tup [V.int (0+(j:Int)),V.int (0+(j:Int)+1)],
cf I q `c,
.ref s2.heap.objs.size,
.tup [V.str `h,V.str `z,V.str (aB "h1"),V.str (aB "h2")],
.tup [V.str `h,V.str `z,V.str (aB "h1"),V.str (aB "h1")],
.lst [V.str `h,V.str `D,V.str `u,V.str `w],
I.hok.fresh (aa3 _),
.tup [V.str w,V.str `n,V.str (aB "h1"),V.str (aB "h2")],
ha pos pins s σ H _ I h,
cxC X scope cl (own++fr) fp s3 `g,
l.next c0,
ag.refl _,
.tup xs,
.tup [V.str `h,V.str `n,V.str `z,V.str (aB "t2")],
.tup [V.str `h,V.str `n,V.str (aB "h1"),V.str `z],
.tup [V.str (aB "load"),V.str `n,V.str (aB "v1")],
ws.getD p .non,
.ref (s.heap.push (iy l)).objs.size,
.ref (s.heap.push (iu l)).objs.size,
I.ok.hd hc,
A1 (A0 3) (A3 0),
.ref b,
AH (AN 0) (A4 (AI 0) (A4 (AT 0) (AJ 2) (A2 0)) (A2 0)) (A2 0) (AF 0),
I1.hok.fresh (aa3 _),
A6 (AL 0) (A0 1) (A2 0),
nbE es,
.tup [V.str w,l.word,V.str o,m'.word,r.word],
.tup [V.str w,V.str o,l.word,m'.word,r.word],
.tup [V.str `h,V.str `D,V.str `u],
iw s.heap.objs.size,
.lst ys,
.lst (rs.map V.ref),
.dK kvs,
.dK (b7 (((b9 e.1.2).map (aM:Str→Key)).zip (bs.map V.int)) []),
.ref p,
.lst (os.map plV++[plV p]),
.tup [V.str `D,V.str `n,V.str `n,V.str `z],
.tup [V.ref d1,V.ref d2,V.ref d3,V.ref d4],
A1 (AB 0) (A3 0),
A1 (A0 6) (A3 0),
A1 (A0 0) (A3 0),
.tup ws,
.ref (s.heap.objs.size+4),
.lst (kc.vs.set 0 (V.int ((kc.h:Int)+1))),
aB "var",
show s.heap.IsTuple a its.toArray from p,
dw (fs.take i),
.tup [V.str `w,V.str `n,V.str (aB "h1")],
.tup [V.str `R,V.str `n,V.str (aB "n1")],
aU x qual (au st) (aq st) (ae st) .none kV doc pm an cdv ct,
.tup [V.str `R,V.str (aB "t3"),V.int 1],
.ref wt,
.lst (bs'.map V.ref),
.lst (S'.reverse.map V.int++[V.int m1]),
r.next (m.next (l.next c0)),
AR (A3 0),
A8 (AW (AC (AC (B9 (AX 0))))),
.tup [V.str `u,V.int 2,V.str kinds[j]],
.tup [V.str `u,V.int 0,V.str kinds[0]],
aar _ (aar _ (gy hb e)),
[x1,x2,x3,x4].map V.str,
A6 (AA 0) (A0 7) (A2 0),
.dK [(aM lH,V.ref l1),(aM lN,V.ref l2),(aM lV,V.ref l3)],
.Name x pos,
aH ⟨_,rfl,aH h⟩,
.tup [V.str kinds[i1],V.str kinds[0]],
ak kinds r.shape,
.lst (S'.reverse.map V.int),
xg CX P w K mg base N qual scope f cdv A outer s H E,
.ref it,
bxN c (b9 r.2).length,
(eP0 _ _ _ _ _).mp hh,
by with_unfolding_all rfl,
.tup [V.str `w,V.str `z,V.str `z],
.tup [V.str `w,V.str `n,V.str `z],
.tup [V.str `u,V.str `a6,V.int 0],
.tup [V.str (aB "any"),V.str `a6],
.ref i1,
hi pins s σ H _ I h,
he pins s σ H _ I h,
.tup [V.str `R,V.str `z,V.int x],
.tup [V.str `R,V.str `z,V.int 9],
.Call (.Name x p) (e::es) [] pos,
.lst [V.ref q1,V.ref q2],
bu kinds ws sh p ⟨[],[],[]⟩,
aaz _ _,
.type "zip",
.lst (bs.map V.ref),
ra.map V.ref,
is.map V.int,
cK (λ_=>(#[]:Array aD)),
A4 (AI 0) (A0 0) (A2 0),
.Compare a [op] [b] pos,
s5.extBut _ _ n4 (s4.extBut _ _ n2 (s3.extBut _ _ n3 (s2.extBut _ _ n1 (k1 _ _ n1 e)))),
.dK [],
chS 110,
.tup ws.reverse,
.tup [V.str w,l.word,m'.word],
.str kd,
.ref sl,
A4 (AI 0) (A4 (AT 0) (A0 5) (A2 0)) (A2 0),
A4 (AI 0) (A4 (AT 0) (A0 1) (A2 0)) (A2 0),
(us.map (aM:Str→Key)).zip (bs.map V.int),
tOp (Ba λi j=>V.bl (decide (j < i))) (tCB (Ci K) (G7 (uc i) tNil)) (tC (V.int 0)),
Lv.hd _ _ _,
.lst (w'.map plV),
.lst (os.map plV),
.builtin id,
wAt ρ ws (e.2.hs.getD j 0),
.tup [V.int 21,V.int 22,V.int 0,V.int 4],
.dT kvs,
cR.«enumerate.__new__» ⟨[.type "enumerate",.ref l],[("start",.int 1 t)]⟩,
.type "dict",
.bool b1,
A1 (A2 0) (A3 0),
A1 (A0 5) (A3 0),
.tup [V.ref sa2,V.ref da2],
.tup [V.ref sa1,V.ref da1],
.nil _,
.int i,
aam (aao (aK e) (I.ok.cab x c hfn hc)),
revObj l ((its.toArray.size:Int) - 1),
chS 118,
ar.drop (p+1),
.tup [.str ⟨#[ch]⟩,y],
.bool true,
.Tuple elts x1 tpos,
kP ((false,eval _ X.env)::cJ pos []),
bB es X.env,
aa9 _ hx,
.tup [V.str `h,V.str `h],
.tup [V.ref q6,V.ref da],
.tup [V.ref d1,V.ref d2],
.tup [V.ref a',V.ref l2],
.lst [V.ref m1,V.ref m2],
.Slice none none (aA (.UnaryOp .USub (.Constant (.int 1) j p3) p4)) p2,
gR qual scope s.heap.objs.size f cd,
fg kinds ws p kd g,
bxN c (b9 e.1.2).length,
.type "list",
.tup [V.str (aB "any")],
.tup [V.int 0,V.str kd],
.ref st,
.ref kl,
.ref i2,
.int (i:Int),
(ws.drop p).map (jz ρ),
ltr (drw ns 0),
Cy _ _ _ _ rfl,
.builtin "len",
.Name "zip" p2,
os.take j,
.type "enumerate",
.lst (as.map V.ref++bs.map V.ref),
.call (.ref fa) ⟨[.ref a],[]⟩,
AO (AV 0) m_len dg `a2,
AO (AV 0) m_len dg `a1,
AO (@ig _) m_isinstance gm (A1 (A0 2) (A1 (BY m_str Hj) (A3 0))),
.tup [V.str `w,l.word],
.tup [.ref kt,.ref rt],
.dK vals,
(ab ht1 _).trans ((ab ht2 _).trans ((ab ht3 _).trans (ab ht _))),
.tup (cs.map λr=>V.str r.1.name),
cR.«object.__getattribute__» ⟨[.ref a,.str "keys" u],[]⟩,
putK acc p.1 p.2,
gY scope X.env.globals cl [] X.env.qual none .none (aA X.env),
cm P w,
bb (j:=0) rfl,
aao (aK e) I.ok.above,
A1 (A0 2) (A3 0),
.tup [V.str kinds[v]],
.tup [.int (i:Nat),x],
.ref rl,
.ref f,
(ik `C k pos).flatMap (post `C),
aah (aah rfl (aah rfl rfl)) `l,
.tup [V.int ((j+1:Nat):Int),y],
.lst [V.int 0,V.int 0,V.int 0],
.compStart `r 0 `bv acc { cenv with scope:=cY scope X.env },
iw s1.heap.objs.size,
ho pins s σ H _ I h,
I2.hok.fresh (aa3 _),
A8 (A1 (A8 `a0) (A1 (A8 (A1 (A8 (AW `N)) (A3 0))) (A3 0))),
.dK (g6 [] (Dv m n)),
.tup [V.int (p:Int),V.str kd],
.tup [V.int (i:Int),V.str kd],
.tup (k.map kV),
s3.extBut _ _ n3 (s2.extBut _ _ n2 (s1.extBut _ _ n1 e)),
.int x,
.builtin "list.extend.loop" ⟨[.ref S,.ref z,res],[]⟩,
wd ns i,
hg fp s3 _ _ s7 _ H7 x u _ I7' r7 (step τ x H7 hτ y7),
.type T,
.tup (ns.map V.str),
.ref h₆.objs.size,
.lst (bs.map V.int),
.bool b,
(ws.drop q).map arV,
s3.extBut _ _ D.i2z.symm (s2.extBut _ _ D.i1z.symm z1),
A1 (BI (@jt _) (A2 0)) (A1 (BI (@jt _) (A2 0)) (A3 0)),
.lst ((cs.map λr=>V.str r.1.name)++[V.str f.1.1.name]),
aU name qual params body scope dV kV doc pm an cdv ct,
.builtin "object.__class__",
u.vs.getD k.v .non,
u.ns.getD k.n .non,
.lst ((abh (j - i).toNat).map λk=>V.int (i+(k:Nat))),
upd (upd (upd (upd H u0 `bU) l1 `ai) l2 `ai) l3 `ai,
rs.getD p 0,
jk xs lo hi,
call `bM [.ref l1,.ref l2],
h₆.push { cls:=.type "tuple",data:=.seq #[x,y] },
fpl b hb,
cW kinds,
.error e,
opN z a b,
ha pos2 pins s σ H _ I h,
cP h₆.objs.size,
AH (AN 0) (A4 (AI 0) (A0 5) (A2 0)) (A2 0) (AF 0),
A1 (A0 2) (A1 (A0 3) `a0),
.type "tuple",
.type "method_descriptor",
.tup ys,
.tup deed,
.ListComp elt [⟨target,iter,ifs,0⟩] scope pos,
(s_da.trans s_t) _ _ e_d1,
(ePv _ _ _).mp hh,
(eP1 _ _ _).mp hh,
ho pins s1 σ H1 _ I1 q1,
baseOf `aN (post `C 0) 0,
start N vs,
sh.map arV,
my (b9 e.1.2) bs,
ir e is bs,
aam (aK e),
I1.hok.fresh `bL,
A1 (AJ 1) (A3 0),
A1 (A0 1) (A3 0),
.tup [V.str `a6],
.str b,
.int n,
.Call (.Attribute o name apos) (e::es) [] cpos,
u.hs.map plV,
s5.extBut _ _ D.l1i2 (s4.extBut _ _ D.l1TO e),
f (.int i t) (.int j u),
eval o X.env,
bz `cm (j+1),
bz `bV (j+1),
S6.trans (s79.trans (sA.trans (sB.trans sC))),
List.mem_singleton.mp z,
A7 (@oo _ _),
A6 (AL 0) (A0 2) (A2 0),
A6 (AA 0) (A0 2) (A2 0),
A6 (AA 0) (A0 1) (A2 0),
(sh.drop (i+1)).map arV,
kZ "enumerate" [.ref l] [("start",.int 1 t)],
h.push { cls:=.type "dict",data:=.dict #[] },
jz ρ v,
b7 ps [],
I.base.free b o e n hx,
H0.up `a,
A8 (AW (AC `N)),
A1 `ad (A1 `bn (A3 0)),
.tup [V.str `w],
.tup [V.str `h],
.tup [V.ref d2],
.tup [.ref sa,.ref da],
.tup [.ref ra,.ref ut],
.ref kt,
.lst `i,
.lst [V.ref t0],
.lst [V.ref p2],
.int (sd ρ ws),
s3 _ _ n3 (s2.extBut _ _ n1 (k1 _ _ n1 g)),
.tup [V.str `h,V.str `D,V.str `u,V.str `w],
vo I.hok eb,
tOp r ta tb,
s5 _ _ g1,
r.map arV,
oj es os ar,
kV (aM y),
iA (.Name x px) X.env,
gL ⟨hp,g,d,tk,os⟩,
ar.getD p 0,
aar _ aa6,
aam (aao (old e) `bL),
aa9 _ aa6,
aP P w,
SqT.of aa,
Option aD,
HT.sIx xs.length 0 lo,
A1 `x (A1 `ad (A3 0)),
.ref e,
.builtin "isinstance",
hw _ (aaj hpl)])
 let p:=λc:Char=>("abcdefghijklmnopqrstuvwxyzABCDEFGHIJKLMNOPQRSTUVWXYZ0123456789".toList.takeWhile (·≠c)).length
 let f:=λi:Nat=>match t.raw[1].getSepArgs[i]? with|some z=>return z|none=>Lean.Macro.throwUnsupported
 match x.getName.toString.toList with
 |[c]=>f (p c)
 |[c,d]=>f (52+62*p c+p d)
 |_=>Lean.Macro.throwUnsupported
set_option hygiene true
namespace L2
open PySem PySem.Spec PyProof.Rows
abbrev Key:=Sum Int Str
noncomputable def Cv:Key→aD→Bool
 | .inl k,v=>Value.isInt k v
 | .inr x,v=>Value.isStrOf x v
noncomputable def keyH (w:aZ):Key→Int
 | .inl k=>hashInt k
 | .inr x=>kN w x
theorem dh:∀{k:Key} {v:aD},Cv k v=true→(∃i t,k=bA i∧v=hX i t)∨(∃x t,k=aM x∧v=mE x t)
 | .inl i,v,h=>by
  obtain ⟨t,e⟩:=Value.isInt_shape (k:=i) (v:=v) h;exact .inl ⟨i,t,rfl,e⟩
 | .inr x,v,h=>by
  obtain ⟨t,e⟩:=Value.isStrOf_shape (x:=x) (v:=v) h;exact .inr ⟨x,t,rfl,e⟩
theorem Nx (i:Int) (t:Tok):Cv (.inl i) (.int i t)=true:=by simp[Cv,Value.isInt]
theorem M8 (x:Str) (t:Tok):Cv (.inr x) (.str x t)=true:=by simp[Cv,Value.isStrOf]
theorem key_ll (a b:Int):decide ((bA a:Key)=bA b)=(a==b):=by
 by_cases e:a=b
 ·subst e;simp
 ·have h:¬(bA a:Key)=bA b:=λq=>e (jR q);rw[decide_eq_false h];exact (beq_eq_false_iff_ne.mpr e).symm
theorem key_rr (a b:Str):decide ((aM a:Key)=aM b)=decide (a=b):=by
 by_cases e:a=b
 ·subst e;simp
 ·have h:¬(aM a:Key)=aM b:=λq=>e (eB q);rw[decide_eq_false h,decide_eq_false e]
theorem key_lr (a:Int) (b:Str):decide ((bA a:Key)=aM b)=false:=decide_eq_false (λq=>nomatch q)
theorem key_rl (a:Str) (b:Int):decide ((aM a:Key)=bA b)=false:=decide_eq_false (λq=>nomatch q)
noncomputable def cm (prog:aX) (w:aZ):PySem.KeyKind prog w Key where
 is:=Cv
 hash:=keyH w
 inj:=λv a b ha hb=>by
  rcases dh ha with ⟨i,t,rfl,rfl⟩ | ⟨x,t,rfl,rfl⟩
  ·rcases dh hb with ⟨j,u,rfl,e⟩ | ⟨y,u,rfl,e⟩
   ·injection e with e1 _;rw[e1]
   ·exact nomatch e
  ·rcases dh hb with ⟨j,u,rfl,e⟩ | ⟨y,u,rfl,e⟩
   ·exact nomatch e
   ·injection e with e1 _;rw[e1]
 byValue:=λk v h=>by
  rcases dh h with ⟨i,t,rfl,rfl⟩ | ⟨x,t,rfl,rfl⟩ <;> rfl
 pyHash:=λhv h=>by
  rcases dh hv with ⟨i,t,rfl,rfl⟩ | ⟨x,t,rfl,rfl⟩
  ·exact wpAny_pyHash_int h
  ·exact wpAny_pyHash_str h
 eqBool:=λhu hv h=>by
  rcases dh hu with ⟨i,t,rfl,rfl⟩ | ⟨x,t,rfl,rfl⟩
  ·rcases dh hv with ⟨j,u,rfl,rfl⟩ | ⟨y,u,rfl,rfl⟩
   ·rw[key_ll] at h;exact wpAny_eqBool_int h
   ·rw[key_lr] at h;exact mH i t y u _ _ _ _ h
  ·rcases dh hv with ⟨j,u,rfl,rfl⟩ | ⟨y,u,rfl,rfl⟩
   ·rw[key_rl] at h;exact mJ x t j u _ _ _ _ h
   ·rw[key_rr] at h;exact wpAny_eqBool_str h
 «strs»:=λk x t v h=>by
  rcases dh h with ⟨i,u,rfl,e⟩ | ⟨y,u,rfl,e⟩
  ·exact nomatch e
  ·injection e with e1 _
   subst e1;cases v <;> rfl
theorem Ga (prog:aX) (w:aZ) (i:Int) (t:Tok):(cm prog w).is (.inl i) (.int i t)=true:=Nx i t
theorem nj (prog:aX) (w:aZ) (x:Str) (t:Tok):(cm prog w).is (.inr x) (.str x t)=true:=M8 x t
inductive V where
 | non | bl (b:Bool) | int (i:Int) | str (x:Str) | byt (b:Array UInt8) | flt (b:UInt64) | ref (a:Addr) | ty (n:String)
 deriving DecidableEq
def RelV:V→aD→Prop
 | .non,u=>u=dJ
 | .bl b,u=>u=nN b
 | .int i,u=>∃t,u=hX i t
 | .str x,u=>∃t,u=mE x t
 | .byt b,u=>∃t,u=Value.bytes b t
 | .flt b,u=>∃t,u=Value.float b t
 | .ref a,u=>u=bG a
 | .ty n,u=>u=dA n
abbrev Vals:List V→List aD→Prop:=Paired RelV
theorem Vals.length {xs:List V} {us:List aD} (r:Vals xs us):xs.length=us.length:=iF r
theorem Vals.get:∀{xs:List V} {us:List aD} {i:Nat} {x:V},Vals xs us→xs[i]?=aA x→∃u,us[i]?=aA u∧RelV x u
 | _,_,_,_,.nil,e=>by simp at e
 | _,_,0,_,.cons r _,e=>by simp at e;subst e;exact ⟨_,rfl,r⟩
 | _,_,i+1,x,.cons _ t,e=>by
  obtain ⟨u,h1,h2⟩:=Vals.get (i:=i) (x:=x) t (by simpa using e);exact ⟨u,by simpa using h1,h2⟩
theorem Vals.set {x:V} {u:aD} (r:RelV x u):∀{xs:List V} {us:List aD} (i:Nat),Vals xs us→Vals (xs.set i x) (us.set i u)
 | _,_,_,.nil=>.nil
 | _,_,0,.cons _ t=>.cons r t
 | _,_,i+1,.cons q t=>.cons q (Vals.set r i t)
theorem Vals.append:∀{xs ys:List V} {us ws:List aD},Vals xs us→Vals ys ws→Vals (xs++ys) (us++ws)
 | _,_,_,_,.nil,s=>s
 | _,_,_,_,.cons r t,s=>.cons r (Vals.append t s)
theorem Vals.take:∀{xs:List V} {us:List aD} (n:Nat),Vals xs us→Vals (xs.take n) (us.take n)
 | _,_,0,_=>.nil
 | _,_,_+1,.nil=>.nil
 | _,_,n+1,.cons r t=>.cons r (Vals.take n t)
theorem Vals.drop:∀{xs:List V} {us:List aD} (n:Nat),Vals xs us→Vals (xs.drop n) (us.drop n)
 | _,_,0,r=>r
 | _,_,_+1,.nil=>.nil
 | _,_,n+1,.cons _ t=>Vals.drop n t
def rg:Option V→Option aD→Prop
 | some v,aA u=>RelV v u
 | none,none=>True
 | _,_=>False
def KV {κ:Type}:List (κ×V)→List (κ×aD)→Prop:=Paired λ(p:κ×V) (q:κ×aD)=>p.1=q.1∧RelV p.2 q.2
noncomputable def kV:Key→V
 | .inl i=>.int i
 | .inr x=>.str x
inductive HO where
  | lst (xs:List V)
  | tup (xs:List V)
  | dK (kvs:List (Key×V)) | dT (kvs:List (List Key×V))
  | set (S:Int→Bool) (n:Nat)
  | ins (C dx:Addr) (fs:List (Str×V))
  | own (x:Addr)
  | xd (fs:List (Str×V))
  | met (f x:Addr)
  | rng (lo hi:Int)
  | frz (o:Obj) (u:HO)
  | tbl (ps:Array aD)
  | ext (φ:Heap→Prop)
abbrev Hp:=Addr→Option HO
noncomputable def upd (H:Hp) (a:Addr) (o:HO):Hp:=λb=>if b=a then aA o else H b
theorem aa {H:Hp} {a:Addr} {o:HO}:upd H a o a=aA o:=by unfold upd;rw[if_pos rfl]
theorem ah {H:Hp} {a b:Addr} {o:HO} (h:b≠a):upd H a o b=H b:=by unfold upd;rw[if_neg h]
theorem mx {H:Hp} {a b:Addr} {o u:HO} (h:H a=aA o) (h':H b=aA u) (d:o≠u):a≠b:=by
 intro e;subst e;rw[h] at h';exact d (aaa h')
theorem ao {H:Hp} {a b:Addr} {o:HO} (h:H a=aA o) (h':H b=none):a≠b:=by
 intro e;subst e;rw[h] at h';cases h'
section
variable (P:aX) (w:aZ)
def Iu (h:Heap) (a:Addr) (its:Array aD):Prop:=∃o,h.get? a=aA o∧o.cls=.type "tuple"∧∃n,o.data=.seq its n∧o.dict=none
theorem Iu.tup {h:Heap} {a:Addr} {its:Array aD} (x:Iu h a its):iP h a its:=let ⟨o,h1,h2,n,h3,_⟩:=x;⟨o,h1,h2,n,h3⟩
def cj (H:Hp) (h:Heap) (a:Addr):HO→Prop
 | .lst xs=>xs.length≤sizeLine∧∃(its:List aD) (n:Nat),Vals xs its∧h.get? a=aA { cls:=.type "list",data:=.seq its.toArray n }
 | .tup xs=>xs.length≤sizeLine∧∃its:List aD,Vals xs its∧Iu h a its.toArray
 | .dK kvs=>kvs.length≤sizeLine∧(a==cE)=false∧∃vs,KV kvs vs∧h.DictOf `c4 a vs
 | .dT kvs=>kvs.length≤sizeLine∧(a==cE)=false∧∃xs:List (List Key×Addr×aD),
   Paired (λ(p:List Key×V) (q:List Key×Addr×aD)=>p.1=q.1∧H q.2.1=aA (.tup (p.1.map kV))∧RelV p.2 q.2.2) kvs xs∧
   ∃o es ep,h.get? a=aA o∧o.ExactDict∧o.data=.dict es ep∧es.toList=xs.map (entryOfKey (hZ `c4))∧(xs.map (·.1)).Nodup
 | .set S n=>h.SetOf (intKind P w) a S n
 | .ins C dx fs=>H dx=aA (.own a)∧fs.length≤1000∧dx≠a∧h.get? a=aA (jL C dx)∧
   ∃mA,h.Ns1 dx mA∧(∀f,rg (fs.lookup f) (mA f))∧PySem.Within mA (fs.map (·.1))
 | .own _=>∃o,h.get? a=aA o
 | .xd fs=>∃mA,h.Ns1 a mA∧∀f,rg (fs.lookup f) (mA f)
 | .rng lo hi=>∃t u v,h.get? a=aA { cls:=.type "range",data:=.fields #[.int lo t,.int hi u,.int 1 v] }
 | .frz o u=>h.get? a=aA o∧cj H h a u
 | .tbl ps=>h.get? a=aA { cls:=.none,data:=.fields ps }
 | .met f x=>h.get? a=aA (iN `db (.ref x))
 | .ext φ=>φ h∧(∃o,h.get? a=aA o)∧∀h1 h2:Heap,φ h1→(∀o,h1.get? a=aA o→h2.get? a=aA o)→φ h2
def HOk (H:Hp) (h:Heap):Prop:=∀a o,H a=aA o→cj P w H h a o
end
section
variable {P:aX} {w:aZ} {H H':Hp} {h h':Heap} {a:Addr} {o:HO}
theorem cj.lt (x:cj P w H h a o):a < h.objs.size:=by
 cases o with
 | lst xs=>obtain ⟨_,_,_,_,e⟩:=x;exact aK e
 | tup xs=>obtain ⟨_,_,_,p⟩:=x;exact p.tup.lt
 | dK kvs=>obtain ⟨_,_,_,_,o,_,_,e,_⟩:=x;exact aK e
 | dT kvs=>obtain ⟨_,_,_,_,o,_,_,e,_⟩:=x;exact aK e
 | set S n=>obtain ⟨o,_,_,_,e,_⟩:=x;exact aK e
 | ins C dx fs=>obtain ⟨_,_,_,e,_⟩:=x;exact aK e
 | own y=>obtain ⟨_,e⟩:=x;exact aK e
 | xd fs=>obtain ⟨_,⟨_,_,_,e,_⟩,_⟩:=x;exact aK e
 | rng lo hi=>obtain ⟨_,_,_,e⟩:=x;exact aK e
 | frz ob u=>obtain ⟨e,_⟩:=x;exact aK e
 | tbl ps=>exact aK (show h.get? a=aA _ from x)
 | met f y=>exact aK (show h.get? a=aA _ from x)
 | ext φ=>obtain ⟨_,⟨_,e⟩,_⟩:=x;exact aK e
theorem Paired.mapP {α β:Type} {F G:α→β→Prop}:∀{l₁:List α} {l₂:List β},Paired F l₁ l₂→(∀a b,F a b→G a b)→Paired G l₁ l₂
 | _,_,.nil,_=>.nil
 | _,_,.cons r t,f=>.cons (f _ _ r) (Paired.mapP t f)
theorem cj.Hy (x:cj P w H h a o) (k:∀b u,(b=a∨H b=aA (.own a))→h.get? b=aA u→h'.get? b=aA u)
  (ho:∀b,H b=aA (.own a)→H' b=aA (.own a)) (ht:∀b xs,H b=aA `aA→H' b=aA `aA):cj P w H' h' a o:=by
 induction o with
 | lst xs=>obtain ⟨z,its,n,r,e⟩:=x;exact ⟨z,its,n,r,k _ _ `W e⟩
 | tup xs=>obtain ⟨z,its,r,ob,e,c⟩:=x;exact ⟨z,its,r,ob,k _ _ `W e,c⟩
 | dK kvs=>obtain ⟨z,y,vs,r,ob,es,ep,e,c⟩:=x;exact ⟨z,y,vs,r,ob,es,ep,k _ _ `W e,c⟩
 | dT kvs=>
  obtain ⟨z,y,xs,r,ob,es,ep,e,c⟩:=x;exact ⟨z,y,xs,Paired.mapP r λp q z=>⟨z.1,ht _ _ z.2.1,z.2.2⟩,ob,es,ep,k _ _ `W e,c⟩
 | set S n=>obtain ⟨ob,es,ep,t,e,c⟩:=x;exact ⟨ob,es,ep,t,k _ _ `W e,c⟩
 | ins C dx fs=>
  obtain ⟨d,z,ne,e,mA,⟨od,es,ep,e2,c⟩,r⟩:=x;exact ⟨ho _ d,z,ne,k _ _ `W e,mA,⟨od,es,ep,k _ _ (.inr d) e2,c⟩,r⟩
 | own y=>obtain ⟨ob,e⟩:=x;exact ⟨ob,k _ _ `W e⟩
 | xd fs=>obtain ⟨mA,⟨od,es,ep,e,c⟩,r⟩:=x;exact ⟨mA,⟨od,es,ep,k _ _ `W e,c⟩,r⟩
 | rng lo hi=>obtain ⟨t,u,v,e⟩:=x;exact ⟨t,u,v,k _ _ `W e⟩
 | frz ob u ih=>obtain ⟨e,q⟩:=x;exact ⟨k _ _ `W e,ih q⟩
 | tbl ps=>
  have e:h.get? a=aA { cls:=.none,data:=.fields ps }:=x;show h'.get? a=aA { cls:=.none,data:=.fields ps }
  exact k a _ `W e
 | met f y=>
  have e:h.get? a=aA (iN `db (.ref y)):=x;show h'.get? a=aA (iN `db (.ref y))
  exact k a _ `W e
 | ext φ=>obtain ⟨p,⟨o,e⟩,st⟩:=x;exact ⟨st _ _ p λo q=>k _ _ `W q,⟨o,k _ _ `W e⟩,st⟩
theorem HOk.lt (x:HOk P w H h) (e:H a=aA o):a < h.objs.size:=(x a o e).lt
theorem tup_rd {xs:List V} (x:HOk P w H h) (e:H a=aA `aA):xs.length≤sizeLine∧∃its:List aD,Vals xs its∧iP h a its.toArray:=
 let ⟨z,its,r,p⟩:=x a _ e
 ⟨z,its,r,p.tup⟩
theorem HOk.fresh (x:HOk P w H h) (e:h.objs.size≤a):H a=none:=by
 cases q:H a with
 | none=>rfl
 | some u=>exact absurd (aao (x.lt q) e) (abi _)
theorem HOk.kept (x:HOk P w H h) (k:∀b u,h.get? b=aA u→h'.get? b=aA u):HOk P w H h':=λa o e=>
 (x a o e).Hy (λb u _ q=>k b u q) (λ_ q=>q) λ_ _ q=>q
theorem HOk.laid (x:HOk P w H h) (k:∀b u,h.get? b=aA u→h'.get? b=aA u) (hp:h.objs.size≤a) (new:cj P w (upd H a o) h' a o):HOk P w (upd H a o) h':=λb u e=>by
 have hn:=x.fresh hp;by_cases hb:b=a
 ·subst hb;rw[aa] at e;cases e;exact new
 ·rw[ah hb] at e;exact (x b u e).Hy (λc v _ q=>k c v q) (λc q=>by rw[ah (ao q hn)];exact q) λc xs q=>by rw[ah (ao q hn)];exact q
end
def Rd (H:Hp) (a:Addr) (u:HO):Prop:=H a=aA u∨∃o,H a=aA (.frz o u)
theorem Rd.ok {P:aX} {w:aZ} {H:Hp} {h:Heap} {a:Addr} {u:HO} (r:Rd H a u) (x:HOk P w H h):cj P w H h a u:=by
 rcases r with r | ⟨o,r⟩
 ·exact x a u r
 ·obtain ⟨_,q⟩:=x a _ r;exact q
def Mut:Option HO→Prop
 | some (.lst _)=>True
 | some (.dK _)=>True
 | some (.dT _)=>True
 | some (.set _ _)=>True
 | some (.ins _ _ _)=>True
 | some (.ext _)=>True
 | _=>False
section
variable {P:aX} {w:aZ} {H:Hp} {h h':Heap} {x e:Addr} {o':HO}
theorem HOk.write (ok:HOk P w H h) (mu:Mut (H x)) (he:e=x∨H e=aA (.own x)) (k:∀b u,b≠e→h.get? b=aA u→h'.get? b=aA u) (heo:∃u,h'.get? e=aA u)
  (new:cj P w (upd H x o') h' x o'):HOk P w (upd H x o') h':=λb u q=>by
 have nown:∀c y,H c=aA (.own y)→c≠x:=λc y r z=>by subst z;rw[r] at mu;exact mu
 have ntup:∀c xs,H c=aA `aA→c≠x:=λc xs r z=>by subst z;rw[r] at mu;exact mu
 by_cases hb:b=x
 ·subst hb;rw[aa] at q;cases q;exact new
 ·rw[ah hb] at q;by_cases hbe:b=e
  ·have q':H b=aA (.own x):=by
    rcases he with z | z
    ·exact absurd (hbe.trans z) hb
    ·rw[hbe];exact z
   rw[q] at q';cases q';obtain ⟨v,hv⟩:=heo;exact ⟨v,by rw[hbe];exact hv⟩
  ·refine (ok b u q).Hy (λc v hc r=>k c v ?_ r) (λc r=>by rw[ah (nown c b r)];exact r) λc xs r=>by rw[ah (ntup c xs r)];exact r
   rcases hc with rfl | hc
   ·exact hbe
   ·rintro rfl;rcases he with z | z
    ·exact nown c b hc z
    ·rw[hc] at z;cases z;exact hb rfl
end
structure Un (fs ex:List Addr) (H H':Hp) (h h':Heap):Prop where
 keep:∀b o,h.get? b=aA o→H b=none→b∉fs→b∉ex→h'.get? b=aA o
 slot:∀b o,h.get? b=aA o→H b=none→b∈fs→b∉ex→∃sl,h'.get? b=aA { o with slots:=sl }
 free:∀b o,h.get? b=aA o→H b=none→b∉ex→H' b=none
 there:∀b o,h.get? b=aA o→b∉ex→∃o',h'.get? b=aA o'
 tups:∀b xs,H b=aA `aA→H' b=aA `aA
 frzs:∀b o u,H b=aA (.frz o u)→H' b=aA (.frz o u)
 tbls:∀b ps,H b=aA (.tbl ps)→∃more,H' b=aA (.tbl (ps++more))
section
variable {fs fs' ex ex':List Addr} {H H1 H2:Hp} {h h1 h2 h':Heap} {a x e:Addr} {o:HO}
theorem Un.any (u:Un fs ex H H1 h h1) {b:Addr} {ob:Obj} (q:h.get? b=aA ob) (n:H b=none) (hx:b∉ex):∃sl,h1.get? b=aA { ob with slots:=sl }:=by
 by_cases hb:b∈fs
 ·exact u.slot b ob q n hb hx
 ·exact ⟨ob.slots,u.keep b ob q n hb hx⟩
theorem Un.kept (k:∀b u,h.get? b=aA u→h'.get? b=aA u):Un fs ex H H h h':=
 ⟨λb ob q _ _ _=>k b ob q,λb ob q _ _ _=>⟨ob.slots,k b ob q⟩,λ_ _ _ n _=>n,λb ob q _=>⟨ob,k b ob q⟩,λ_ _ q=>q,λ_ _ _ q=>q,λ_ ps q=>⟨#[],by rw[q];simp⟩⟩
theorem Un.refl:Un fs ex H H h h:=Un.kept λ_ _ q=>q
theorem Un.laid (k:∀b u,h.get? b=aA u→h'.get? b=aA u) (hp:h.objs.size≤a) (hn:H a=none):Un fs ex H (upd H a o) h h' where
 keep:=λb u q _ _ _=>k b u q
 slot:=λb u q _ _ _=>⟨u.slots,k b u q⟩
 free:=λb u q n _=>by rw[ah (aam (aao (aK q) hp))];exact n
 there:=λb u q _=>⟨u,k b u q⟩
 tups:=λb xs q=>by rw[ah (ao q hn)];exact q
 frzs:=λb u xs q=>by rw[ah (ao q hn)];exact q
 tbls:=λb ps q=>⟨#[],by rw[ah (ao q hn),q];simp⟩
theorem Un.write (mu:Mut (H x)) (he:e=x∨H e=aA (.own x)) (k:∀b u,b≠e→h.get? b=aA u→h'.get? b=aA u) (heo:∃u,h'.get? e=aA u):Un fs ex H (upd H x o) h h':=by
 have hx:∀b,H b=none→b≠x:=λb n z=>by subst z;rw[n] at mu;exact mu
 have hb:∀b,H b=none→b≠e:=λb n z=>by
  subst z;rcases he with r | r
  ·exact hx b n r
  ·rw[n] at r;cases r
 have hm:∀b u,H b=aA u→¬Mut (aA u)→b≠x:=λb u q nm z=>by subst z;rw[q] at mu;exact nm mu
 refine ⟨λb u q n _ _=>k b u (hb b n) q,λb u q n _ _=>⟨u.slots,k b u (hb b n) q⟩,λb u q n _=>by rw[ah (hx b n)];exact n,λb u q _=>?_,
  λb xs q=>by rw[ah (hm b _ q λz=>z)];exact q,λb u xs q=>by rw[ah (hm b _ q λz=>z)];exact q,λb ps q=>⟨#[],by rw[ah (hm b _ q λz=>z),q];simp⟩⟩
 by_cases hbe:b=e
 ·subst hbe;exact heo
 ·exact ⟨u,k b u hbe q⟩
end
noncomputable def trk (h:Heap) (H:Hp):List Addr:=(abh h.objs.size).filter λa=>(H a).isSome
noncomputable def Ei (h:Heap) (H:Hp):Heap:=PySem.W.hideAll h (trk h H)
theorem Mv (h:Heap) (H:Hp):(Ei h H).objs.size=h.objs.size:=PySem.W.hideAll_size _ _
theorem Rf {h:Heap} {H:Hp} {b:Addr} {o:Obj} (e:h.get? b=aA o) (n:H b=none):(Ei h H).get? b=aA o:=
 PySem.W.hideAll_get _ e λhm=>by
  have q:(H b).isSome=true:=(List.mem_filter.mp hm).2;rw[n] at q;simp at q
theorem Tq {h:Heap} {H:Hp} {b:Addr} {o:Obj} (e:(Ei h H).get? b=aA o):h.get? b=aA o∧H b=none:=by
 have e':h.get? b=aA o:=PySem.W.of_hideAll (trk h H) e;refine ⟨e',?_⟩;cases q:H b with
 | none=>rfl
 | some x=>
  have hm:b∈trk h H:=List.mem_filter.mpr ⟨List.mem_range.mpr (aK e'),by simp[q]⟩;have z:(Ei h H).get? b=none:=PySem.W.hideAll_none (trk h H) hm;rw[z] at e;cases e
structure Mod (K:aG) (mg:Str→Option aD) (base:Heap):Prop where
 kin:K.In base
 glob:base.Ns aN mg
 blt:∃mb,base.Ns nO mb∧∀x:Str,x≠"__name__"→mb x=bO x
 nolimit:base.NoLimit
structure Cx where
 prog:aX
 w:aZ
 K:aG
 mg:Str→Option aD
 base:Heap
 A:bJ
 N:List Str
 s₀:aF
 H₀:Hp
 env:Env
 outer:List Env
 stack:List Env
 ex:List Addr
 fn:Str→Bool
 calm:Bool
 pn:List (Addr×Obj)
 xe:aD→aF→Prop
noncomputable def frs (l:List Env):List Addr:=l.filterMap (·.frame)
noncomputable abbrev Cx.fs (X:Cx):List Addr:=frs X.outer
def Vis (sc:Scope) (x:Str):Prop:=sc.names.lookup x=aA .local∨sc.names.lookup x=aA .cell∨sc.names.lookup x=aA .free
def Loc (sc:Scope) (x:Str):Prop:=sc.names.lookup x=aA .local∨sc.names.lookup x=aA .cell
def Look (env:Env) (h:Heap) (m:Str→Option aD) (x:Str) (u:aD):Prop:=
 (env.kindOf x=aA .local∧m x=aA u)∨((env.kindOf x=aA .cell∨env.kindOf x=aA .free)∧∃c,env.cells.lookup x=aA c∧h.IsCell c (aA u))
structure Cx.Ok (X:Cx):Prop where
 mod:Mod X.K X.mg X.base
 kind:X.env.scope.kind=.function
 glob:X.env.globals=aN
 blt:X.env.builtins=nO
 above:X.s₀.heap.objs.size≤X.env.locals
 inj:∀x y c,X.env.cells.lookup x=aA c→X.env.cells.lookup y=aA c→x=y
 has:∀x,(X.env.kindOf x=aA .cell∨X.env.kindOf x=aA .free)→∃c,X.env.cells.lookup x=aA c
 cab:∀x c,X.fn x=true→X.env.cells.lookup x=aA c→X.s₀.heap.objs.size≤c
 hd:X.calm=true→X.A.handled=none
 frames:X.A.frames=aA X.stack
 stk:X.stack=X.outer∨(X.stack=X.env::X.outer∧X.env.frame=aA X.env.locals)
 exf:∀b∈X.ex,b≠X.env.locals∧∀x c,X.env.cells.lookup x=aA c→c≠b
 bs:∀b o,X.base.get? b=aA o→X.s₀.heap.get? b=aA o∧X.H₀ b=none
 bsz:X.base.objs.size≤X.s₀.heap.objs.size
 noex:∀b o,X.base.get? b=aA o→b∉X.ex
 exfs:∀b∈X.ex,b∉X.fs
 vb:X.s₀.heap.FunFrames X.base X.outer
 frf:∀b∈X.fs,X.H₀ b=none
structure Inv (X:Cx) (pins:List (Addr×Obj)) (σ:List (Option V)) (H:Hp) (s:aF):Prop where
 ok:X.Ok
 os:s.os=X.s₀.os
 bare:gP s.gens
 base:Un X.fs X.ex X.H₀ H X.s₀.heap s.heap
 loc:∃m,s.heap.Ns X.env.locals m∧∀(i:Nat) (x:Str) (v:V),X.N[i]?=aA x→σ[i]?=aA (aA v)→Vis X.env.scope x→∃u,RelV v u∧Look X.env s.heap m x u
 cell:∀x c,X.env.cells.lookup x=aA c→∃v,s.heap.IsCell c v
 free:H X.env.locals=none
 freeC:∀x c,X.env.cells.lookup x=aA c→H c=none
 pin:∀p∈X.pn++pins,s.heap.get? p.1=aA p.2∧H p.1=none∧p.1≠X.env.locals∧p.1∉X.fs∧∀v,p.2.data≠.cell v
 hok:HOk X.prog X.w H s.heap
 len:σ.length=X.N.length
section
variable {X:Cx} {pins:List (Addr×Obj)} {σ:List (Option V)} {H H':Hp} {s:aF} {h':Heap}
theorem Cx.Ok.nofr (ok:X.Ok) {b:Addr} {o:Obj} (e:X.base.get? b=aA o):b∉X.fs:=λhb=>by
 have:=(ok.vb.mem hb).1;rw[e] at this;cases this
theorem Inv.bs (I:Inv X pins σ H s):∀b o,X.base.get? b=aA o→s.heap.get? b=aA o∧H b=none:=λb o e=>
 ⟨I.base.keep b o (I.ok.bs b o e).1 (I.ok.bs b o e).2 (I.ok.nofr e) (I.ok.noex b o e),I.base.free b o (I.ok.bs b o e).1 (I.ok.bs b o e).2 (I.ok.noex b o e)⟩
theorem Inv.bk (I:Inv X pins σ H s):∀b o,X.base.get? b=aA o→s.heap.get? b=aA o:=λb o e=>(I.bs b o e).1
theorem Inv.mod (I:Inv X pins σ H s):Mod X.K X.mg X.base:=I.ok.mod
theorem Inv.kIn (I:Inv X pins σ H s):X.K.In s.heap:=I.ok.mod.kin.keeps I.bk
theorem Inv.lt (I:Inv X pins σ H s):X.env.locals < s.heap.objs.size:=let ⟨_,hn,_⟩:=I.loc;hn.lt
theorem Inv.sz (I:Inv X pins σ H s):X.s₀.heap.objs.size≤s.heap.objs.size:=ab4 I.ok.above (ac8 I.lt)
theorem Inv.nofs (I:Inv X pins σ H s) {a:Addr} (h:s.heap.objs.size≤a):a∉X.fs:=λhb=>by
 obtain ⟨_,o,ho,_⟩:=I.ok.vb.mem hb;exact absurd (aao (aK ho) (ab4 I.sz h)) (abi _)
theorem Inv.cne (I:Inv X pins σ H s):∀x c,X.env.cells.lookup x=aA c→c≠X.env.locals:=λx c e z=>by
 obtain ⟨v,o,ho,hd⟩:=I.cell x c e;obtain ⟨m,⟨o',es,ep,ho',hd',_⟩,_⟩:=I.loc;rw[z,ho'] at ho;cases ho;rw[hd'] at hd;cases hd
theorem Inv.vb (I:Inv X pins σ H s):s.heap.FunFrames X.base X.outer:=by
 have all:∀(l:List Env),(∀b∈frs l,b∈X.fs)→X.s₀.heap.FunFrames X.base l→s.heap.FunFrames X.base l:=by
  intro l;induction l with
  | nil=>intro _ _;trivial
  | cons env r ih=>
   intro hs hl;obtain ⟨hk,⟨L,o,hf,hn,ho,hd⟩,hr⟩:=hl;have hL:L∈X.fs:=hs L (by unfold frs;rw[ac7,hf];exact aa6);obtain ⟨sl,e⟩:=I.base.slot L o ho (I.ok.frf L hL) hL λz=>I.ok.exfs L z hL;exact ⟨hk,⟨L,_,hf,hn,e,hd⟩,ih (λb hb=>hs b (by unfold frs;rw[ac7,hf];exact aa9 _ hb)) hr⟩
 exact all X.outer (λ_ hb=>hb) I.ok.vb
theorem Inv.stack (I:Inv X pins σ H s):s.heap.FunFrames X.base X.stack:=by
 rcases I.ok.stk with e | ⟨e,hf⟩
 ·rw[e];exact I.vb
 ·rw[e];obtain ⟨m,hn,_⟩:=I.loc;refine .cons (by rw[I.ok.kind];decide) hf hn ?_ I.vb;exact Heap.get?_none_of_le (ab4 I.ok.bsz I.ok.above)
theorem Inv.Dj (I:Inv X pins σ H s):∀b∈frs X.stack,b∈X.env.locals::X.fs:=λb hb=>by
 rcases I.ok.stk with e | ⟨e,hf⟩
 ·rw[e] at hb;exact aa9 _ hb
 ·rw[e] at hb;unfold frs at hb;rw[ac7,hf] at hb;exact hb
theorem Inv.Ea (I:Inv X pins σ H s):∀b∈frs X.stack,H b=none:=λb hb=>by
 rcases List.mem_cons.mp (I.Dj b hb) with e | hb
 ·rw[e];exact I.free
 ·obtain ⟨_,o,ho,_⟩:=I.ok.vb.mem hb;exact I.base.free b o ho (I.ok.frf b hb) λz=>I.ok.exfs b z hb
theorem Inv.step {g':Array GenState} {t':Nat} {d':Drawn} {ch:List Addr} (I:Inv X pins σ H s)
  (hch:∀b∈ch,(b∈X.ex∨X.s₀.heap.objs.size≤b)∧b≠X.env.locals∧(∀x c,X.env.cells.lookup x=aA c→c≠b)∧∀p∈X.pn++pins,p.1≠b)
  (keep:∀b o,b≠X.env.locals→b∉X.fs→b∉ch→s.heap.get? b=aA o→H b=none→h'.get? b=aA o)
  (slot:∀b o,b≠X.env.locals→b∈X.fs→b∉ch→s.heap.get? b=aA o→H b=none→∃sl,h'.get? b=aA { o with slots:=sl }) (free:∀b o,b∉ch→s.heap.get? b=aA o→H b=none→H' b=none)
  (there:∀b o,b∉ch→s.heap.get? b=aA o→∃o',h'.get? b=aA o')
  (tups:∀b xs,H b=aA `aA→H' b=aA `aA) (frzs:∀b o u,H b=aA (.frz o u)→H' b=aA (.frz o u)) (tbls:∀b ps,H b=aA (.tbl ps)→∃more,H' b=aA (.tbl (ps++more)))
  (ns:∀m,s.heap.Ns X.env.locals m→h'.Ns X.env.locals m) (hok:HOk X.prog X.w H' h') (hg:gP g'):
  Inv X pins σ H' { s with heap:=h',gens:=g',drawn:=d',toks:=t' }:=by
 have neL:∀b o,X.s₀.heap.get? b=aA o→b≠X.env.locals:=λb o e=>aam `c6;have neC:∀b o,X.s₀.heap.get? b=aA o→b∉X.ex→b∉ch:=λb o e hx hb=>by
  rcases (hch b hb).1 with z | z
  ·exact hx z
  ·exact absurd (aao (aK e) z) (abi _)
 have cellK:∀x c,X.env.cells.lookup x=aA c→∀v,s.heap.IsCell c v→h'.IsCell c v:=λx c e v ⟨o,ho,hd⟩=>by
  have nch:c∉ch:=λz=>(hch c z).2.2.1 x c e rfl;by_cases hc:c∈X.fs
  ·obtain ⟨sl,q⟩:=slot c o (I.cne x c e) hc nch ho (I.freeC x c e);exact ⟨_,q,hd⟩
  ·exact ⟨o,keep c o (I.cne x c e) hc nch ho (I.freeC x c e),hd⟩
 refine ⟨I.ok,I.os,hg,⟨λb o e n hb hx=>?_,λb o e n hb hx=>?_,λb o e n hx=>?_,λb o e hx=>?_,λb xs e=>tups b xs (I.base.tups b xs e),λb o xs e=>frzs b o xs (I.base.frzs b o xs e),λb ps e=>?_⟩,?_,λx c e=>?_,?_,λx c e=>?_,λp hp=>?_,hok,I.len⟩
 ·exact keep b o (neL b o e) hb (neC b o e hx) (I.base.keep b o e n hb hx) `ey
 ·obtain ⟨sl,e1⟩:=I.base.slot b o e n hb hx;obtain ⟨sl',e2⟩:=slot b _ (neL b o e) hb (neC b o e hx) e1 `ey;exact ⟨sl',e2⟩
 ·obtain ⟨o',e1⟩:=I.base.there b o e hx;exact free b o' (neC b o e hx) e1 `ey
 ·obtain ⟨o',e1⟩:=I.base.there b o e hx;exact there b o' (neC b o e hx) e1
 ·obtain ⟨m1,e1⟩:=I.base.tbls b ps e;obtain ⟨m2,e2⟩:=tbls b _ e1;exact ⟨m1++m2,by rw[e2,Array.append_assoc]⟩
 ·obtain ⟨m,hn,hl⟩:=I.loc;refine ⟨m,ns m hn,λi x v e1 e2 e3=>?_⟩;obtain ⟨u,r,l⟩:=hl i x v e1 e2 e3;refine ⟨u,r,?_⟩;rcases l with l | ⟨k,c,e,z⟩
  ·exact .inl l
  ·exact .inr ⟨k,c,e,cellK x c e _ z⟩
 ·obtain ⟨v,z⟩:=I.cell x c e;exact ⟨v,cellK x c e v z⟩
 ·obtain ⟨m,⟨o,_,_,ho,_⟩,_⟩:=I.loc;exact free _ o (λz=>(hch _ z).2.1 rfl) ho I.free
 ·obtain ⟨v,o,ho,hd⟩:=I.cell x c e;exact free c o (λz=>(hch c z).2.2.1 x c e rfl) ho (I.freeC x c e)
 ·obtain ⟨e,n,ne,nf,d⟩:=I.pin p hp;have nch:p.1∉ch:=λz=>(hch p.1 z).2.2.2 p hp rfl;exact ⟨keep p.1 p.2 ne nf nch e n,free p.1 p.2 nch e n,ne,nf,d⟩
theorem Inv.un {t':Nat} (I:Inv X pins σ H s) (u:Un X.fs [] H H' s.heap h') (hok:HOk X.prog X.w H' h'):Inv X pins σ H' { s with heap:=h',toks:=t' }:=by
 obtain ⟨m,⟨o,es,ep,ho,r⟩,_⟩:=id I.loc;obtain ⟨sl,hL⟩:=u.any ho I.free `c;exact I.step (g':=s.gens) (d':=s.drawn) (ch:=[]) (λ_ z=>nomatch z) (λb o _ hb _ e n=>u.keep b o e n hb `c) (λb o _ hb _ e n=>u.slot b o e n hb `c) (λb o _ e n=>u.free b o e n `c) (λb o _ e=>u.there b o e `c) u.tups u.frzs u.tbls (λm' hm=>by
  obtain ⟨o',es',ep',ho',r'⟩:=hm;rw[ho] at ho';cases ho';exact ⟨_,es',ep',hL,r'⟩) hok I.bare
theorem Inv.call {g':Array GenState} {t':Nat} {d':Drawn} {ch:List Addr} (I:Inv X pins σ H s) (u:Un (frs X.stack) ch H H' s.heap h') (hok:HOk X.prog X.w H' h') (hg:gP g')
  (hch:∀b∈ch,(b∈X.ex∨X.s₀.heap.objs.size≤b)∧b≠X.env.locals∧(∀x c,X.env.cells.lookup x=aA c→c≠b)∧∀p∈X.pn++pins,p.1≠b):
  Inv X pins σ H' { s with heap:=h',gens:=g',drawn:=d',toks:=t' }:=by
 obtain ⟨m,⟨o,es,ep,ho,r⟩,_⟩:=id I.loc;obtain ⟨sl,hL⟩:=u.any ho I.free λz=>(hch _ z).2.1 rfl;exact I.step (ch:=ch) hch (λb o hL hb hc e n=>u.keep b o e n (λz=>(List.mem_cons.mp (I.Dj b z)).elim hL hb) hc) (λb o _ _ hc e n=>u.any e n hc) (λb o hc e n=>u.free b o e n hc) (λb o hc e=>u.there b o e hc) u.tups u.frzs u.tbls (λm' hm=>by
  obtain ⟨o',es',ep',ho',r'⟩:=hm;rw[ho] at ho';cases ho';exact ⟨_,es',ep',hL,r'⟩) hok hg
theorem Inv.turned {t':Nat} {it:Addr} (I:Inv X pins σ H s) (k:∀b o,b≠it→s.heap.get? b=aA o→h'.get? b=aA o) (hn:H it=none) (hL:it≠X.env.locals)
  (h1:it∈X.ex∨X.s₀.heap.objs.size≤it) (h2:∀x c,X.env.cells.lookup x=aA c→c≠it) (h3:∀p∈X.pn++pins,p.1≠it):Inv X pins σ H { s with heap:=h',toks:=t' }:=by
 have nit:∀b u,H b=aA u→b≠it:=λb u e z=>by rw[z,hn] at e;cases e
 refine I.step (g':=s.gens) (d':=s.drawn) (ch:=[it]) (λb hb=>?_) (λb o _ _ hc e _=>k b o (λz=>hc (by simp[z])) e) (λb o _ _ hc e _=>⟨o.slots,k b o (λz=>hc (by simp[z])) e⟩) (λ_ _ _ _ n=>n)
  (λb o hc e=>⟨o,k b o (λz=>hc (by simp[z])) e⟩) (λ_ _ e=>e) (λ_ _ _ e=>e) (λb ps e=>⟨#[],by rw[e];simp⟩) (λm hm=>?_) (λb u e=>?_) I.bare
 ·have e:b=it:=by simpa using hb
  subst e;exact ⟨h1,hL,h2,h3⟩
 ·obtain ⟨o,es,ep,ho,r⟩:=hm;exact ⟨o,es,ep,k _ o (cT hL) ho,r⟩
 ·refine (I.hok b u e).Hy (λc v hc q=>k c v ?_ q) (λ_ q=>q) λ_ _ q=>q;rcases hc with z | z
  ·rw[z];exact nit b u e
  ·exact nit c _ z
theorem Inv.tok (I:Inv X pins σ H s) (t:Nat):Inv X pins σ H { s with toks:=t }:=I.un (h':=s.heap) (t':=t) Un.refl I.hok
theorem Inv.kept {t':Nat} (I:Inv X pins σ H s) (k:∀b u,s.heap.get? b=aA u→h'.get? b=aA u):Inv X pins σ H { s with heap:=h',toks:=t' }:=I.un (Un.kept k) (I.hok.kept k)
theorem Inv.laid {a:Addr} {o:HO} {t':Nat} (I:Inv X pins σ H s) (k:∀b u,s.heap.get? b=aA u→h'.get? b=aA u) (hp:s.heap.objs.size≤a) (new:cj X.prog X.w (upd H a o) h' a o):
  Inv X pins σ (upd H a o) { s with heap:=h',toks:=t' }:=I.un (Un.laid k hp (I.hok.fresh hp)) (I.hok.laid k hp new)
theorem Inv.write {x e:Addr} {o:HO} {t':Nat} (I:Inv X pins σ H s) (mu:Mut (H x)) (he:e=x∨H e=aA (.own x)) (k:∀b u,b≠e→s.heap.get? b=aA u→h'.get? b=aA u) (heo:∃u,h'.get? e=aA u)
  (new:cj X.prog X.w (upd H x o) h' x o):Inv X pins σ (upd H x o) { s with heap:=h',toks:=t' }:=I.un (Un.write mu he k heo) (I.hok.write mu he k heo new)
theorem Inv.Kd {pins':List (Addr×Obj)} (I:Inv X pins σ H s) (h:∀p∈pins',s.heap.get? p.1=aA p.2∧H p.1=none∧p.1≠X.env.locals∧p.1∉X.fs∧∀v,p.2.data≠.cell v):Inv X pins' σ H s:=
 ⟨I.ok,I.os,I.bare,I.base,I.loc,I.cell,I.free,I.freeC,λp hp=>(List.mem_append.mp hp).elim (λz=>I.pin p (abp _ z)) (h p),I.hok,I.len⟩
theorem Hc {N:List Str} (hN:N.Nodup) {i j:Nat} {x:Str} (a:N[i]?=aA x) (b:N[j]?=aA x):i=j:=by
 obtain ⟨h1,e1⟩:=List.getElem?_eq_some_iff.mp a;obtain ⟨h2,e2⟩:=List.getElem?_eq_some_iff.mp b;exact (ae1 hN).mp (e1.trans e2.symm)
theorem Br {M:Model} {A:bJ} {E:aD→aF→Prop} {i:Nat} {x:Str} {v:V} {u:aD} {Q:Unit→aF→Prop} (I:Inv X pins σ H s) (hN:X.N.Nodup) (hi:X.N[i]?=aA x) (hx:Loc X.env.scope x) (r:RelV v u)
  (h:∀s',Inv X pins (σ.set i (aA v)) H s'→(∃a,bE a s.heap s'.heap∧(a=X.env.locals∨X.env.cells.lookup x=aA a))→Q () s') (hf:X.fn x=true∨X.env.scope.names.lookup x=aA .local:=by first | exact .inl rfl | exact .inr rfl | assumption):aI M A (storeName X.env x u) Q E s:=by
 obtain ⟨m,hn,hl⟩:=id I.loc;have hcls:(X.env.scope.kind==.class||(X.env.scope.kind==.module&&X.env.locals !=X.env.globals))=false:=by rw[I.ok.kind];rfl
 have hiσ:i < σ.length:=by rw[I.len];exact (List.getElem?_eq_some_iff.mp hi).1
 have cne:=I.cne;have tracked:∀{a:Addr} {h':Heap},(∃o,s.heap.get? a=aA o∧H a=none)→bE a s.heap h'→HOk X.prog X.w H h':=λ{a h'} ha hs b ob e=>by
  obtain ⟨_,_,hfree⟩:=ha;refine (I.hok b ob e).Hy (λc w' hc q=>(hs.2 c ?_).trans q) (λ_ q=>q) λ_ _ q=>q;rintro rfl;rcases hc with rfl | hc
  ·rw[hfree] at e;cases e
  ·rw[hfree] at hc;cases hc
 rcases hx with hk | hk
 ·refine wpAny_storeName_local hk hn (λh' hn' hs=>?_) hcls;obtain ⟨oL,_,_,hoL,_⟩:=id hn;refine h _ ⟨I.ok,I.os,I.bare,⟨λb o e n hb hx=>?_,λb o e n hb hx=>?_,I.base.free,λb o e hx=>?_,I.base.tups,I.base.frzs,I.base.tbls⟩,⟨_,hn',λj y v' e1 e2 e3=>?_⟩,λy c e=>?_,I.free,I.freeC,λp hp=>?_,tracked ⟨oL,hoL,I.free⟩ hs,by simpa using I.len⟩ ⟨_,hs,.inl rfl⟩
  ·exact (hs.2 b (aam `c6)).trans (I.base.keep b o e n hb hx)
  ·obtain ⟨sl,e1⟩:=I.base.slot b o e n hb hx;exact ⟨sl,(hs.2 b (aam `c6)).trans e1⟩
  ·obtain ⟨o',e1⟩:=I.base.there b o e hx;exact ⟨o',(hs.2 b (aam `c6)).trans e1⟩
  ·by_cases hj:j=i
   ·subst hj;rw[hi] at e1;cases e1;rw[aeb hiσ] at e2;cases e2
    exact ⟨u,r,.inl ⟨hk,by simp⟩⟩
   ·rw[aej (cT hj)] at e2;obtain ⟨u',r',q⟩:=hl j y v' e1 e2 e3;refine ⟨u',r',?_⟩;rcases q with ⟨k,e⟩ | ⟨k,c,e,z⟩
    ·refine .inl ⟨k,?_⟩;have:y≠x:=λe=>hj (Hc hN e1 (e ▸ hi));simp[this,e]
    ·exact .inr ⟨k,c,e,z.sameBut hs (cne y c e)⟩
  ·obtain ⟨w',z⟩:=I.cell y c e;exact ⟨w',z.sameBut hs (cne y c e)⟩
  ·obtain ⟨e,n,ne,nf,d⟩:=I.pin p hp;exact ⟨(hs.2 p.1 ne).trans e,n,ne,nf,d⟩
 ·have hfn:X.fn x=true:=by
   rcases hf with z | z
   ·exact z
   ·rw[z] at hk;cases hk
  obtain ⟨c,hc⟩:=I.ok.has x (.inl hk);obtain ⟨w',z⟩:=I.cell x c hc;refine wpAny_storeName_cell I.ok.kind hk hc z (λh' hc' hs=>?_);obtain ⟨oc,hoc,hocd⟩:=id z;refine h { s with heap:=h' } ⟨I.ok,I.os,I.bare,⟨λb o e n hb hx=>?_,λb o e n hb hx=>?_,I.base.free,λb o e hx=>?_,I.base.tups,I.base.frzs,I.base.tbls⟩,⟨m,hn.sameBut hs (cT (cne x c hc)),λj y v' e1 e2 e3=>?_⟩,λy c' e=>?_,I.free,I.freeC,λp hp=>?_,tracked ⟨oc,hoc,I.freeC x c hc⟩ hs,by simpa using I.len⟩ ⟨c,hs,.inr hc⟩
  ·exact (hs.2 b `ck).trans (I.base.keep b o e n hb hx)
  ·obtain ⟨sl,e1⟩:=I.base.slot b o e n hb hx;exact ⟨sl,(hs.2 b `ck).trans e1⟩
  ·obtain ⟨o',e1⟩:=I.base.there b o e hx;exact ⟨o',(hs.2 b `ck).trans e1⟩
  ·by_cases hj:j=i
   ·subst hj;rw[hi] at e1;cases e1;rw[aeb hiσ] at e2;cases e2
    exact ⟨u,r,.inr ⟨.inl hk,c,hc,hc'⟩⟩
   ·rw[aej (cT hj)] at e2;obtain ⟨u',r',q⟩:=hl j y v' e1 e2 e3;refine ⟨u',r',?_⟩;rcases q with q | ⟨k,c',e,z'⟩
    ·exact .inl q
    ·refine .inr ⟨k,c',e,z'.sameBut hs ?_⟩;rintro rfl;exact hj (Hc hN e1 (I.ok.inj _ _ _ e hc ▸ hi))
  ·by_cases hcc:c'=c
   ·subst hcc;exact ⟨_,hc'⟩
   ·obtain ⟨w2,z2⟩:=I.cell y c' e;exact ⟨w2,z2.sameBut hs hcc⟩
  ·obtain ⟨e,n,ne,nf,d⟩:=I.pin p hp;refine ⟨(hs.2 p.1 ?_).trans e,n,ne,nf,d⟩;intro q;rw[q,hoc] at e;have q':oc=p.2:=aaa e;exact d w' (by rw[←q'];exact hocd)
theorem Ex {M:Model} {A:bJ} {E:aD→aF→Prop} {i:Nat} {x:Str} {v:V} {u:aD} {Q:Unit→aF→Prop} (I:Inv X pins σ H s) (hN:X.N.Nodup) (hi:X.N[i]?=aA x) (hx:Loc X.env.scope x) (r:RelV v u)
  (h:∀s',Inv X pins (σ.set i (aA v)) H s'→Q () s') (hf:X.fn x=true∨X.env.scope.names.lookup x=aA .local:=by first | exact .inl rfl | exact .inr rfl | assumption):aI M A (storeName X.env x u) Q E s:=
 Br I hN hi hx r (λs' I' _=>h s' I') hf
theorem Inv.call' {s':aF} {ch:List Addr} (I:Inv X pins σ H s) (ho:s'.os=s.os) (u:Un (frs X.stack) ch H H' s.heap s'.heap) (hok:HOk X.prog X.w H' s'.heap) (hg:gP s'.gens)
  (hch:∀b∈ch,(b∈X.ex∨X.s₀.heap.objs.size≤b)∧b≠X.env.locals∧(∀x c,X.env.cells.lookup x=aA c→c≠b)∧∀p∈X.pn++pins,p.1≠b):Inv X pins σ H' s':=by
 obtain ⟨h',g',d',t',o'⟩:=s';have e:o'=s.os:=ho;subst e;exact I.call (g':=g') (t':=t') (d':=d') u hok hg hch
end
abbrev XK:=aD→Option Addr→Hp→Prop
abbrev St:=List (Option V)
abbrev VK:=V→Hp→Prop
abbrev TE:=St→Hp→VK→Prop
abbrev TT:=St→Hp→(Bool→Hp→Prop)→Prop
abbrev TA:=St→Hp→(List V→Hp→Prop)→Prop
structure Ends where
 nx:St→Hp→Prop
 rt:VK
 bk:St→Hp→Prop:=λ_ _=>False
 ct:St→Hp→Prop:=λ_ _=>False
abbrev TS:=Ends→St→Hp→Prop
def EP (X:Cx) (pins:List (Addr×Obj)) (σ:St) (Q:VK) (u:aD) (s':aF):Prop:=∃v H',Inv X pins σ H' s'∧RelV v u∧Q v H'
def TP (X:Cx) (pins:List (Addr×Obj)) (σ:St) (Q:Bool→Hp→Prop) (b:Bool) (s':aF):Prop:=∃H',Inv X pins σ H' s'∧Q b H'
def AP (X:Cx) (pins:List (Addr×Obj)) (σ:St) (Q:List V→Hp→Prop) (us:List aD) (s':aF):Prop:=∃vs H',Inv X pins σ H' s'∧Vals vs us∧Q vs H'
def SP (X:Cx) (pins:List (Addr×Obj)) (D:Ends) (f:Flow) (s':aF):Prop:=
 match f with
 | .next=>∃σ' H',Inv X pins σ' H' s'∧D.nx σ' H'
 | .brk=>∃σ' H',Inv X pins σ' H' s'∧D.bk σ' H'
 | .cont=>∃σ' H',Inv X pins σ' H' s'∧D.ct σ' H'
 | .ret u=>∃v σ' H',Inv X pins σ' H' s'∧RelV v u∧D.rt v H'
def PE (X:Cx) (e:Expr) (t:TE):Prop:=
 ∀(pins:List (Addr×Obj)) (s:aF) (σ:St) (H:Hp) (Q:VK),Inv X pins σ H s→t σ H Q→aI `d X.A (eval e X.env) `ag X.xe s
def PT (X:Cx) (e:Expr) (t:TT):Prop:=
 ∀(pins:List (Addr×Obj)) (s:aF) (σ:St) (H:Hp) (Q:Bool→Hp→Prop),Inv X pins σ H s→t σ H Q→aI `d X.A (mK e X.env (eval e X.env)) (TP X pins σ Q) X.xe s
def PW (X:Cx) (e:Expr) (t:TT):Prop:=
 ∀(whole:Sem aD) (pins:List (Addr×Obj)) (s:aF) (σ:St) (H:Hp) (Q:Bool→Hp→Prop),Inv X pins σ H s→t σ H Q→aI `d X.A (mK e X.env whole) (TP X pins σ Q) X.xe s
theorem PW.pt {X:Cx} {e:Expr} {t:TT} (h:PW X e t):PT X e t:=h _
def PA (X:Cx) (es:List Expr) (t:TA):Prop:=
 ∀(pos:Pos) (pins:List (Addr×Obj)) (s:aF) (σ:St) (H:Hp) (Q:List V→Hp→Prop),Inv X pins σ H s→t σ H Q→aI `d X.A (kP (cJ pos `cs)) (AP X pins σ Q) X.xe s
def PS (X:Cx) (st:Stmt) (t:TS):Prop:=
 ∀(pins:List (Addr×Obj)) (s:aF) (σ:St) (H:Hp) (D:Ends),Inv X pins σ H s→t D σ H→aI `d X.A (exec st X.env) (SP X pins D) X.xe s
def PSs (X:Cx) (st:List Stmt) (t:TS):Prop:=
 ∀(pins:List (Addr×Obj)) (s:aF) (σ:St) (H:Hp) (D:Ends),Inv X pins σ H s→t D σ H→aI `d X.A (execs st X.env) (SP X pins D) X.xe s
theorem thn {α:Type} {t:Sem α} {Q Q':α→aF→Prop} {M:Model} {A:bJ} {E:aD→aF→Prop} {s:aF} (h:aI M A t Q E s) (hQ:∀a s,Q a s→Q' a s):aI M A t Q' E s:=bM h hQ λ_ _ x=>x
section
variable {X:Cx}
def tVar (i:Nat):TE:=λσ H Q=>∃v,σ[i]?=aA (aA v)∧Q v H
def tC (v:V):TE:=λ_ H Q=>Q v H
theorem pe_var {i:Nat} {x:Str} {pos:Pos} (hN:X.N[i]?=aA x) (hv:Vis X.env.scope x) (hd:(x==("__debug__":Str))=false:=by decide) (hcd:(x==("__classdict__":Str))=false:=by decide):PE X `bp (tVar i):=by
 intro pins s σ H Q I h;obtain ⟨v,e,h⟩:=h;obtain ⟨m,hn,hl⟩:=I.loc;obtain ⟨u,r,l⟩:=hl i x v hN e hv;have fin:EP X pins σ Q u s:=⟨v,H,I,r,h⟩;rcases l with ⟨hk,hm⟩ | ⟨hk,c,hc,hcell⟩
 ·exact nP (wpAny_loadName_local I.ok.kind hk hn hm fin) hd
 ·rcases hk with hk | hk
  ·exact nP (wpAny_loadName_cell I.ok.kind hk hc hcell fin) hd
  ·exact nP (wpAny_loadName_free I.ok.kind hk hc hcell fin hcd) hd
theorem Je {i j pos}:PE X (.Constant `cj j pos) (tC `cj):=λ_ _ _ H _ I h=>mL ⟨.int i,H,I.tok _,⟨_,rfl⟩,h⟩
theorem Lc {b j pos}:PE X (.Constant `dy j pos) (tC (.bl b)):=λ_ _ _ H _ I h=>Constant_bool ⟨.bl b,H,I,rfl,h⟩
theorem Hz {j pos}:PE X (.Constant .none j pos) (tC .non):=λ_ _ _ H _ I h=>lS ⟨.non,H,I,rfl,h⟩
theorem Q7 {x j pos}:PE X (.Constant (.str x) j pos) (tC (.str x)):=λ_ _ _ H _ I h=>Calls.Constant_str ⟨.str x,H,I.tok _,⟨_,rfl⟩,h⟩
def Gl (X:Cx) (x:Str):Prop:=X.env.kindOf x=aA .globalImplicit
theorem Kf {E:aD→aF→Prop} {pins:List (Addr×Obj)} {s:aF} {σ:St} {H:Hp} {x:Str} {u:aD} {pos:Pos} {Q:aD→aF→Prop} (I:Inv X pins σ H s) (hg:Gl X x) (hm:X.mg x=aA u) (h:Q u s)
  (hd:(x==("__debug__":Str))=false:=by decide):aI `d X.A (eval `bp X.env) Q E s:=
 iG I.ok.kind hg (Calls.loadGlobal_global (by rw[I.ok.glob];exact I.mod.glob.keeps I.bk) hm h) hd
theorem gj {E:aD→aF→Prop} {pins:List (Addr×Obj)} {s:aF} {σ:St} {H:Hp} {x:Str} {u:aD} {pos:Pos} {Q:aD→aF→Prop} (I:Inv X pins σ H s) (hg:Gl X x) (hm:X.mg x=none) (hv:bO x=aA u) (h:Q u s)
  (hn:x≠"__name__":=by decide) (hd:(x==("__debug__":Str))=false:=by decide):aI `d X.A (eval `bp X.env) Q E s:=by
 obtain ⟨mb,h1,h2⟩:=I.mod.blt;exact iG I.ok.kind hg (Calls.loadGlobal_builtin (by rw[I.ok.glob];exact I.mod.glob.keeps I.bk) hm (by rw[I.ok.blt];exact h1.keeps I.bk) ((h2 x hn).trans hv) h) hd
theorem Td {x:Str} {v:V} {u:aD} {pos:Pos} (hg:Gl X x) (hm:X.mg x=aA u) (r:RelV v u) (hd:(x==("__debug__":Str))=false:=by decide):PE X `bp (tC v):=
 λ_ _ _ H _ I h=>Kf I hg hm ⟨v,H,I,r,h⟩ hd
theorem V1 {x:Str} {v:V} {u:aD} {pos:Pos} (hg:Gl X x) (hm:X.mg x=none) (hv:bO x=aA u) (r:RelV v u) (hn:x≠"__name__":=by decide) (hd:(x==("__debug__":Str))=false:=by decide):PE X `bp (tC v):=
 λ_ _ _ H _ I h=>gj I hg hm hv ⟨v,H,I,r,h⟩ hn hd
variable {a b:Expr} {ta tb:TE} {pos:Pos}
def PC (X:Cx) (op:jM) (a b:Expr) (t:TE):Prop:=
 ∀(pins:List (Addr×Obj)) (s:aF) (σ:St) (H:Hp) (Q:VK),Inv X pins σ H s→t σ H Q→
  aI `d X.A (eval a X.env) (λv s₁=>aI `d X.A (eval b X.env) (λu s₂=>aI `d X.A (cG op v u) `ag X.xe s₂) X.xe s₁) X.xe s
theorem fu (b:Expr) {op:jM} (h:op≠.In) (h2:op≠.NotIn):cU op b=false:=by
 have e1:(op==CmpOp.In)=false:=by cases op <;> first | rfl | exact absurd rfl h
 have e2:(op==CmpOp.NotIn)=false:=by cases op <;> first | rfl | exact absurd rfl h2
 cases b <;> simp[cU,e1,e2]
def tIsN (ta:TE):TE:=λσ H Q=>ta σ H λx H1=>Q (.bl (decide (x=.non))) H1
def Gy (ta:TE):TE:=λσ H Q=>ta σ H λx H1=>Q (.bl (!decide (x=.non))) H1
theorem RelV.Fl {x:V} {v:aD} (r:RelV x v):(v==dJ)=decide (x=.non):=by
 cases x with
 | non=>cases r;rfl
 | bl _=>cases r;rfl
 | int _=>obtain ⟨t,rfl⟩:=r;rfl
 | str _=>obtain ⟨t,rfl⟩:=r;rfl
 | byt _=>obtain ⟨t,rfl⟩:=r;rfl
 | flt _=>obtain ⟨t,rfl⟩:=r;rfl
 | ref _=>cases r;rfl
 | ty _=>cases r;rfl
theorem pc_isN {j pos'} (ha:PE X a ta):PC X .Is a (.Constant .none j pos') (tIsN ta):=by
 intro pins s σ H Q I h;refine thn `ah λv s1 ⟨x,H1,I1,r1,q1⟩=>?_;exact lS (is_none_gen ⟨.bl _,H1,I1,by rw[r1.Fl];rfl,q1⟩)
theorem Lm {j pos'} (ha:PE X a ta):PC X .IsNot a (.Constant .none j pos') (Gy ta):=by
 intro pins s σ H Q I h;refine thn `ah λv s1 ⟨x,H1,I1,r1,q1⟩=>?_;exact lS (isnot_none_gen ⟨.bl _,H1,I1,by rw[r1.Fl];rfl,q1⟩)
def tB (t:TE):TT:=λσ H Q=>t σ H λx H1=>∃c,x=.bl c∧Q c H1
theorem pe_cmp {op:jM} {t:TE} (h:PC X op a b t) (h1:cU op b=false:=by first | exact fu _ (by decide) (by decide) | rfl):PE X (.Compare a [op] [b] pos) t:=λpins s σ H Q I hw=>wpAny_Compare1 (h pins s σ H Q I hw) h1
theorem pt_cmp {op:jM} {t:TE} (h:PC X op a b t) (h1:cU op b=false:=by first | exact fu _ `a `a | rfl):PT X `bS (tB t):=by
 intro pins s σ H Q I hw;refine kQ (thn (h pins s σ H _ I hw) λv s1 h1=>thn h1 λu s2 h2=>thn h2 λc s3 ⟨x,H1,I1,r1,q1⟩=>?_) h1;obtain ⟨d,rfl,q⟩:=q1;cases r1
 exact dH ⟨H1,I1,q⟩
theorem pt_val {e:Expr} {t:TE} (h:PE X e t) (he:∀whole,mK e X.env whole=(do let v ←whole;standAt e.pos;iU [v] (truthy v)):=by intro _;rfl):PT X e (tB t):=by
 intro pins s σ H Q I hw;refine isTrue_plain (thn (h pins s σ H _ I hw) λv s1 ⟨x,H1,I1,r1,q1⟩=>?_) (he _);obtain ⟨d,rfl,q⟩:=q1;cases r1
 exact dH ⟨H1,I1,q⟩
variable {tA tB':TT} {rest:List Expr}
def tAnd (t u:TT):TT:=λσ H Q=>t σ H λc H1=>if c=true then u σ H1 Q else Q false H1
def tOr (t u:TT):TT:=λσ H Q=>t σ H λc H1=>if c=true then Q true H1 else u σ H1 Q
def tNot (t:TT):TT:=λσ H Q=>t σ H λc H1=>Q (!c) H1
theorem xx (ha:PT X a tA):PW X (.BoolOp .And [a] pos) tA:=by
 intro wh pins s σ H Q I h;refine isTrue_and (thn (ha pins s σ H Q I h) λc s1 e=>?_);cases c with
 | true=>exact isTrue_and_nil e
 | false=>exact e
theorem Js (ha:PT X a tA):PW X (.BoolOp .Or [a] pos) tA:=by
 intro wh pins s σ H Q I h;refine isTrue_or (thn (ha pins s σ H Q I h) λc s1 e=>?_);cases c with
 | false=>exact isTrue_or_nil e
 | true=>exact e
theorem pw_and (ha:PT X a tA) (hb:PW X (.BoolOp .And (b::rest) pos) tB'):PW X (.BoolOp .And (a::b::rest) pos) (tAnd tA tB'):=by
 intro wh pins s σ H Q I h;refine isTrue_and (thn `ah λc s1 ⟨H1,I1,q1⟩=>?_);cases c with
 | true=>exact hb wh pins s1 σ H1 Q I1 q1
 | false=>exact ⟨H1,I1,q1⟩
theorem O0 (ha:PT X a tA) (hb:PW X (.BoolOp .Or (b::rest) pos) tB'):PW X (.BoolOp .Or (a::b::rest) pos) (tOr tA tB'):=by
 intro wh pins s σ H Q I h;refine isTrue_or (thn `ah λc s1 ⟨H1,I1,q1⟩=>?_);cases c with
 | true=>exact ⟨H1,I1,q1⟩
 | false=>exact hb wh pins s1 σ H1 Q I1 q1
theorem Ph (ha:PT X a tA):PT X (.UnaryOp .Not a pos) (tNot tA):=by
 intro pins s σ H Q I h;exact isTrue_not (ha pins s σ H (λc H1=>Q (!c) H1) I h)
def tAndV (ta tb:TE):TE:=λσ H Q=>ta σ H λx H1=>∃c,x=.bl c∧if c=true then tb σ H1 Q else Q (.bl false) H1
def tOrV (ta tb:TE):TE:=λσ H Q=>ta σ H λx H1=>∃c,x=.bl c∧if c=true then Q (.bl true) H1 else tb σ H1 Q
def tNotV (ta:TE):TE:=λσ H Q=>ta σ H λx H1=>∃c,x=.bl c∧Q (.bl (!c)) H1
theorem pe_one {op} {t:TE} (h:PE X a t):PE X (.BoolOp op [a] pos) t:=λpins s σ H Q I hw=>BoolOp_one (h pins s σ H Q I hw)
theorem pe_and (ha:PE X a ta) (hb:PE X (.BoolOp .And (b::rest) pos) tb):PE X (.BoolOp .And (a::b::rest) pos) (tAndV ta tb):=by
 intro pins s σ H Q I h;refine BoolOp_and (thn `ah λv s1 ⟨x,H1,I1,r1,q1⟩=>?_);obtain ⟨c,rfl,q1⟩:=q1;cases r1
 refine dH ?_;cases c with
 | true=>exact hb pins s1 σ H1 Q I1 q1
 | false=>exact ⟨.bl false,H1,I1,rfl,q1⟩
theorem pe_not (ha:PE X a ta):PE X (.UnaryOp .Not a pos) (tNotV ta):=by
 intro pins s σ H Q I h;refine UnaryOp_ (thn `ah λv s1 ⟨x,H1,I1,r1,q1⟩=>?_);obtain ⟨c,rfl,q1⟩:=q1;cases r1
 exact not_of (dH ⟨.bl (!c),H1,I1,rfl,q1⟩)
def tIf (t:TT) (ta tb:TE):TE:=λσ H Q=>t σ H λc H1=>if c=true then ta σ H1 Q else tb σ H1 Q
theorem Sj {c:Expr} (hc:PT X c tA) (ha:PE X a ta) (hb:PE X b tb):PE X (.IfExp c a b pos) (tIf tA ta tb):=by
 intro pins s σ H Q I h;refine wpAny_IfExp (thn (hc pins s σ H _ I h) λd s1 ⟨H1,I1,q1⟩=>?_);cases d with
 | true=>exact ha pins s1 σ H1 Q I1 q1
 | false=>exact hb pins s1 σ H1 Q I1 q1
end
def SqL (K:aG) (H:Hp) (a:Addr) (xs:List V):Prop:=
 Rd H a `ab∨
  ∃(o:Obj) (its:Array aD) (n:Nat),K.lookup a=aA o∧o.cls=.type "list"∧o.dict=none∧o.data=.seq its n∧its.size≤sizeLine∧Vals xs its.toList
def SqT (K:aG) (H:Hp) (a:Addr) (xs:List V):Prop:=
 Rd H a `aA∨
  ∃(o:Obj) (its:Array aD) (n:Nat),K.lookup a=aA o∧o.cls=.type "tuple"∧o.data=.seq its n∧its.size≤sizeLine∧Vals xs its.toList
noncomputable def absV:aD→Option V
 | .none=>aA .non
 | .bool b=>aA (.bl b)
 | .int i _=>aA `cj
 | .str x _=>aA (.str x)
 | .bytes b _=>aA (.byt b)
 | .float b _=>aA (.flt b)
 | .ref a=>aA `p
 | .type n=>aA (.ty n)
 | _=>none
theorem RelV.abs {x:V} {u:aD} (r:RelV x u):absV u=aA x:=by
 cases x with
 | non=>cases r;rfl
 | bl _=>cases r;rfl
 | int _=>obtain ⟨t,rfl⟩:=r;rfl
 | str _=>obtain ⟨t,rfl⟩:=r;rfl
 | byt _=>obtain ⟨t,rfl⟩:=r;rfl
 | flt _=>obtain ⟨t,rfl⟩:=r;rfl
 | ref _=>cases r;rfl
 | ty _=>cases r;rfl
theorem RelV.inj {x y:V} {u:aD} (r:RelV x u) (q:RelV y u):x=y:=aaa (r.abs.symm.trans q.abs)
theorem Vals.inj:∀{xs ys:List V} {us:List aD},Vals xs us→Vals ys us→xs=ys
 | _,_,_,.nil,.nil=>rfl
 | _,_,_,.cons r t,.cons r' t'=>by rw[r.inj r',Vals.inj t t']
section
variable {X:Cx} {pins:List (Addr×Obj)} {σ:St} {H:Hp} {s:aF} {a:Addr} {xs ys:List V}
theorem SqL.of {K:aG} (h:H a=aA `ab):SqL K H a xs:=.inl (.inl h)
theorem SqT.of {K:aG} (h:H a=aA `aA):SqT K H a xs:=.inl (.inl h)
theorem Inv.list (I:Inv X pins σ H s) (h:SqL X.K H a xs):∃its:List aD,Vals xs its∧PlainL s.heap a its.toArray∧xs.length≤sizeLine:=by
 rcases h with h | ⟨o,its,n,hk,hc,hd,hs,hz,r⟩
 ·obtain ⟨z,its,n,r,e⟩:=h.ok I.hok;exact ⟨its,r,⟨_,n,e,rfl,rfl,rfl⟩,z⟩
 ·refine ⟨its.toList,r,⟨o,n,I.kIn a o hk,hc,hd,by simpa using hs⟩,?_⟩;have e:=r.length;simp only[abb] at e;omega
theorem Inv.tuple (I:Inv X pins σ H s) (h:SqT X.K H a xs):∃its:List aD,Vals xs its∧iP s.heap a its.toArray∧xs.length≤sizeLine:=by
 rcases h with h | ⟨o,its,n,hk,hc,hs,hz,r⟩
 ·obtain ⟨z,its,r,p⟩:=h.ok I.hok;exact ⟨its,r,p.tup,z⟩
 ·refine ⟨its.toList,r,⟨o,I.kIn a o hk,hc,n,by simpa using hs⟩,?_⟩;have e:=r.length;simp only[abb] at e;omega
theorem Inv.tj (I:Inv X pins σ H s) (h:SqL X.K H a xs) (h':SqL X.K H a ys):xs=ys:=by
 obtain ⟨its,r,⟨o,n,e,_,_,d⟩,_⟩:=I.list h;obtain ⟨its',r',⟨o',n',e',_,_,d'⟩,_⟩:=I.list h';rw[e] at e';cases e';rw[d] at d';injection d' with d1 _
 have:its=its':=by simpa using congrArg Array.toList d1
 subst this;exact r.inj r'
theorem Inv.vy (I:Inv X pins σ H s) (h:SqT X.K H a xs) (h':SqT X.K H a ys):xs=ys:=by
 obtain ⟨its,r,⟨o,e,_,n,d⟩,_⟩:=I.tuple h;obtain ⟨its',r',⟨o',e',_,n',d'⟩,_⟩:=I.tuple h';rw[e] at e';cases e';rw[d] at d';injection d' with d1 _
 have:its=its':=by simpa using congrArg Array.toList d1
 subst this;exact r.inj r'
end
noncomputable abbrev Cx.Bc (X:Cx) (E:aD→aF→Prop):Cx:={ X with xe:=E }
noncomputable abbrev Cx.nox (X:Cx):Cx:=X.Bc λ_ _=>False
theorem Cx.Ok.Bc {X:Cx} (ok:X.Ok) (E:aD→aF→Prop):(X.Bc E).Ok:=
 ⟨ok.mod,ok.kind,ok.glob,ok.blt,ok.above,ok.inj,ok.has,ok.cab,ok.hd,ok.frames,ok.stk,ok.exf,ok.bs,ok.bsz,ok.noex,ok.exfs,ok.vb,ok.frf⟩
theorem Cx.Ok.om {X:Cx} {E:aD→aF→Prop} (ok:(X.Bc E).Ok):X.Ok:=
 ⟨ok.mod,ok.kind,ok.glob,ok.blt,ok.above,ok.inj,ok.has,ok.cab,ok.hd,ok.frames,ok.stk,ok.exf,ok.bs,ok.bsz,ok.noex,ok.exfs,ok.vb,ok.frf⟩
section
variable {X:Cx} {pins:List (Addr×Obj)} {σ:St} {H:Hp} {s:aF} {E:aD→aF→Prop}
theorem Inv.Bc (I:Inv X pins σ H s) (E:aD→aF→Prop):Inv (X.Bc E) pins σ H s:=⟨I.ok.Bc E,I.os,I.bare,I.base,I.loc,I.cell,I.free,I.freeC,I.pin,I.hok,I.len⟩
theorem Inv.om (I:Inv (X.Bc E) pins σ H s):Inv X pins σ H s:=⟨I.ok.om,I.os,I.bare,I.base,I.loc,I.cell,I.free,I.freeC,I.pin,I.hok,I.len⟩
theorem SP.om {D:Ends} {f:Flow} {s':aF} (h:SP (X.Bc E) pins D f s'):SP X pins D f s':=by
 cases f with
 | next=>obtain ⟨σ',H',I,q⟩:=h;exact ⟨σ',H',I.om,q⟩
 | brk=>obtain ⟨σ',H',I,q⟩:=h;exact ⟨σ',H',I.om,q⟩
 | cont=>obtain ⟨σ',H',I,q⟩:=h;exact ⟨σ',H',I.om,q⟩
 | ret u=>obtain ⟨v,σ',H',I,r,q⟩:=h;exact ⟨v,σ',H',I.om,r,q⟩
theorem PSs.nox {st:List Stmt} {t:TS} (h:PSs X.nox st t):PSs X st t:=λpins s σ H D I hw=>
 bM (h pins s σ H D (I.Bc _) hw) (λ_ _ q=>q.om) λ_ _ z=>False.elim z
end
section
variable {X:Cx} {st:Stmt} {rest:List Stmt} {t u:TS} {e:Expr} {te:TE} {pos:Pos}
def tNext:TS:=λD σ H=>D.nx σ H
def tSeq (t u:TS):TS:=λD σ H=>t { D with nx:=u D } σ H
theorem U0:PSs X [] tNext:=λ_ _ σ H _ I h=>gQ ⟨σ,H,I,h⟩
theorem Rp (h1:PS X st t) (h2:PSs X rest u):PSs X (st::rest) (tSeq t u):=by
 intro pins s σ H D I h;refine iY (thn (h1 pins s σ H { D with nx:=u D } I h) λf s1 q=>?_);cases f with
 | next=>
  obtain ⟨σ',H',I',q⟩:=q;exact h2 pins s1 σ' H' D I' q
 | ret v=>exact q
 | brk=>exact q
 | cont=>exact q
theorem Ve (h1:PS X st t):PSs X [st] t:=by
 intro pins s σ H D I h;refine iY (thn (h1 pins s σ H D I h) λf s1 q=>?_);cases f with
 | next=>exact gQ q
 | ret v=>exact q
 | brk=>exact q
 | cont=>exact q
def tCont:TS:=λD σ H=>D.ct σ H
theorem E8:PS X (.Continue pos) tCont:=λ_ _ σ H _ I h=>wpAny_Continue ⟨σ,H,I,h⟩
theorem Inv.quiet {pins:List (Addr×Obj)} {σ:St} {H:Hp} {s:aF} (I:Inv X pins σ H s):interactive X.env=false:=by simp[interactive,I.ok.kind]
def tDrop (te:TE):TS:=λD σ H=>te σ H λ_ H1=>D.nx σ H1
theorem Uc (he:PE X e te) (hs:mM e none pos.line X.env=pure false:=by rfl):PS X (.Expr e pos) (tDrop te):=by
 intro pins s σ H D I h;exact wpAny_Expr_any (thn `bF λv s1 ⟨x,H1,I1,r1,q1⟩=>⟨σ,H1,I1,q1⟩) I.quiet hs
def tRet (te:TE):TS:=λD σ H=>te σ H D.rt
theorem ps_ret (he:PE X e te):PS X (.Return (aA e) pos) (tRet te):=by
 intro pins s σ H D I h;exact wpAny_Return_some (thn `bF λv s1 ⟨x,H1,I1,r1,q1⟩=>⟨x,σ,H1,I1,r1,q1⟩)
def tRetN:TS:=λD _ H=>D.rt .non H
def tIfS (c:TT) (t u:TS):TS:=λD σ H=>c σ H λb H1=>if b=true then t D σ H1 else u D σ H1
theorem ps_if {c:Expr} {a b:List Stmt} {tc:TT} (hc:PT X c tc) (ha:PSs X a t) (hb:PSs X b u):PS X (.If c a b pos) (tIfS tc t u):=by
 intro pins s σ H D I h;refine wpAny_If (thn (hc pins s σ H _ I h) λd s1 ⟨H1,I1,q1⟩=>?_);cases d with
 | true=>exact ha pins s1 σ H1 D I1 q1
 | false=>exact hb pins s1 σ H1 D I1 q1
def Dl:TS:=λ_ _ _=>False
theorem oo:PS X st Dl:=λ_ _ _ _ _ _ h=>h.elim
end
abbrev TG:=V→St→Hp→(St→Hp→Prop)→Prop
abbrev TGs:=List V→St→Hp→(St→Hp→Prop)→Prop
def PG (X:Cx) (target:Expr) (t:TG):Prop:=
 ∀(pins:List (Addr×Obj)) (s:aF) (σ:St) (H:Hp) (v:V) (u:aD) (Q:St→Hp→Prop),Inv X pins σ H s→RelV v u→t v σ H Q→
  aI `d X.A (iA target X.env u) (λ_ s'=>∃σ' H',Inv X pins σ' H' s'∧Q σ' H') X.xe s
def PGs (X:Cx) (ts:List Expr) (t:TGs):Prop:=
 ∀(pins:List (Addr×Obj)) (s:aF) (σ:St) (H:Hp) (vs:List V) (us:List aD) (Q:St→Hp→Prop),Inv X pins σ H s→Vals vs us→t vs σ H Q→
  aI `d X.A (assignInOrder ((fF ts X.env).map (·.2)) us) (λ_ s'=>∃σ' H',Inv X pins σ' H' s'∧Q σ' H') X.xe s
abbrev TSet:=V→V→V→Hp→(Hp→Prop)→Prop
def PSet (X:Cx) (t:TSet):Prop:=
 ∀(pins:List (Addr×Obj)) (s:aF) (σ:St) (H:Hp) (o i v:V) (ov iv u:aD) (Q:Hp→Prop),Inv X pins σ H s→RelV o ov→RelV i iv→RelV v u→t o i v H Q→
  aI `d X.A (setItem ov iv u) (λ_ s'=>∃H',Inv X pins σ H' s'∧Q H') X.xe s
section
variable {X:Cx} {pos:Pos}
def gh (i:Nat):TG:=λv σ H Q=>Q (σ.set i (aA v)) H
theorem Ek {i:Nat} {x:Str} (hN:X.N.Nodup) (hi:X.N[i]?=aA x) (hx:Loc X.env.scope x) (hf:X.fn x=true∨X.env.scope.names.lookup x=aA .local:=by first | exact .inl rfl | exact .inr rfl | assumption):PG X `bp (gh i):=by
 intro pins s σ H v u Q I r h;exact nD (Ex I hN hi hx r (λs' I'=>⟨_,H,I',h⟩) hf)
def gNil:TGs:=λvs σ H Q=>vs=[]∧Q σ H
def nz (t:TG) (u:TGs):TGs:=λvs σ H Q=>∃v r,vs=v::r∧t v σ H λσ' H'=>u r σ' H' Q
theorem jq:PGs X [] gNil:=by
 intro pins s σ H vs us Q I r h;obtain ⟨e,h⟩:=h;subst e;cases r
 exact assignInOrder_nil ⟨σ,H,I,h⟩
theorem Pz {e:Expr} {es:List Expr} {t:TG} {u:TGs} (h1:PG X e t) (h2:PGs X es u)
  (hs:(fF (e::es) X.env).map (·.2)=iA e X.env::(fF es X.env).map (·.2):=by rfl):PGs X (e::es) (nz t u):=by
 intro pins s σ H vs us Q I r h;obtain ⟨v,vr,e1,h⟩:=h;subst e1;cases r with
 | cons r rr=>
  rw[hs];refine assignInOrder_cons (thn (h1 pins s σ H _ _ _ I r h) λ_ s1 ⟨σ1,H1,I1,q1⟩=>?_);exact h2 pins s1 σ1 H1 _ _ Q I1 rr q1
def gTup (K:aG) (n:Nat) (t:TGs):TG:=λv σ H Q=>∃a xs,v=.ref a∧SqT K H a xs∧xs.length=n∧t xs σ H Q
theorem Qp {es:List Expr} {k:Nat} {t:TGs} {n:Nat} (hc:X.calm=true) (h:PGs X es t)
  (hn:(fF es X.env).length=n:=by rfl) (hst:(fF es X.env).findIdx? (·.1)=none:=by rfl):PG X (.Tuple es k pos) (gTup X.K n t):=by
 intro pins s σ H v u Q I r hw;obtain ⟨a,xs,e1,hq,hl,hw⟩:=hw;subst e1;cases r
 obtain ⟨its,rv,ht,hz⟩:=I.tuple hq;refine assign_Tuple_tuple `aH ht (by simp[hn,←hl,rv.length]) hst λh' hx=>?_;have I1:Inv X pins σ H { s with heap:=h' }:=I.kept (t':=s.toks) λb o e=>hx b o `d9 e;exact h pins _ σ H xs _ Q I1 (by simpa using rv) hw
def gSub (to ti:TE) (t:TSet):TG:=λv σ H Q=>to σ H λo H1=>ti σ H1 λi H2=>t o i v H2 λH3=>Q σ H3
theorem pg_sub {o i:Expr} {to ti:TE} {t:TSet} (ho:PE X o to) (hi:PE X i ti) (hs:PSet X t)
  (ha:∀v,iA (.Subscript o i pos) X.env v=(do
   let ov ←iU [v] `ek
   let iv ←iU [v,ov] (eval i X.env)
   standAt pos
   iU [v,ov,iv] (setItem ov iv v)
   release [v,ov,iv] []):=by intro _;rfl):PG X (.Subscript o i pos) (gSub to ti t):=by
 intro pins s σ H v u Q I r h;rw[ha];refine aC (bI (thn `di λov s1 ⟨x,H1,I1,r1,q1⟩=>?_));refine aC (bI (thn (hi pins s1 σ H1 _ I1 q1) λiv s2 ⟨y,H2,I2,r2,q2⟩=>?_));refine aC (iH (aC (bI (thn (hs pins s2 σ H2 x y v ov iv u _ I2 r1 r2 r q2) λ_ s3 ⟨H3,I3,q3⟩=>?_))));exact wpAny_release ⟨σ,H3,I3,q3⟩
def tAsg (te:TE) (g:TG):TS:=λD σ H=>te σ H λx H1=>g x σ H1 D.nx
theorem ps_asg {tg e:Expr} {te:TE} {g:TG} (he:PE X e te) (hg:PG X tg g) (hs:swapsWithSole [tg] e pos.line X.env=pure false:=by rfl) (hw:swappedStores [tg] e X.env=pure none:=by rfl)
  (h1:(fF [tg] X.env).map (·.2)=[iA tg X.env]:=by rfl):PS X (.Assign [tg] e pos) (tAsg te g):=by
 intro pins s σ H D I h;refine wpAny_Assign_stores (thn `bF λv s1 ⟨x,H1,I1,r1,q1⟩=>?_) hs hw;rw[h1];exact thn (hg pins s1 σ H1 x v _ I1 r1 q1) λ_ s2 q=>q
theorem Pf {i:Nat} {x:Str} {e:Expr} {te:TE} {pos':Pos} (hN:X.N.Nodup) (hi:X.N[i]?=aA x) (hx:Loc X.env.scope x) (he:PE X e te) (hs:mM e (aA (.Name x pos')) pos.line X.env=pure false:=by rfl) (hf:X.fn x=true∨X.env.scope.names.lookup x=aA .local:=by first | exact .inl rfl | exact .inr rfl | assumption):
  PS X (.Assign [.Name x pos'] e pos) (tAsg te (gh i)):=by
 intro pins s σ H D I h;refine wpAny_Assign_Name (thn `bF λv s1 ⟨y,H1,I1,r1,q1⟩=>?_) hs;exact Ex I1 hN hi hx r1 (λs2 I2=>⟨_,H1,I2,q1⟩) hf
end
section
variable {X:Cx} {pos:Pos}
def N6 (c:TT) (tb:TS):TS:=λD σ H=>∃W:Nat→St→Hp→Prop,(∃m,W m σ H)∧∀m σ H,W m σ H→
 c σ H λb H1=>if b=true then ∃N:St→Hp→Prop,(∀σ' H',N σ' H'→∃m',m' < m∧W m' σ' H')∧tb { D with nx:=N,ct:=N,bk:=D.nx } σ H1 else D.nx σ H1
theorem Rx {c:Expr} {body:List Stmt} {tc:TT} {tb:TS} (hp:PassesOwn `d X.A X.env X.xe) (hc:PT X c tc) (hb:PSs X body tb):PS X (.While c body [] pos) (N6 tc tb):=by
 intro pins s σ H D I h;obtain ⟨W,⟨m0,w0⟩,turn⟩:=h;refine wpAny_While (codeAny_whileLoop (λn s'=>∃σ' H',Inv X pins σ' H' s'∧W n σ' H') ?_ m0 ⟨σ,H,I,w0⟩);rintro n s1 ⟨σ1,H1,I1,w1⟩;refine dN hp (thn (hc pins s1 σ1 H1 _ I1 (turn n σ1 H1 w1)) λb s2 ⟨H2,I2,q2⟩=>?_);cases b with
 | true=>
  obtain ⟨N,hN,q2⟩:=q2;rw[if_pos rfl];refine dN hp (thn (hb pins s2 σ1 H2 _ I2 q2) λf s3 q3=>?_);cases f with
  | next=>
   obtain ⟨σ3,H3,I3,n3⟩:=q3;obtain ⟨m',hm,w3⟩:=hN σ3 H3 n3;exact ⟨m',hm,σ3,H3,I3,w3⟩
  | cont=>
   obtain ⟨σ3,H3,I3,n3⟩:=q3;obtain ⟨m',hm,w3⟩:=hN σ3 H3 n3;exact ⟨m',hm,σ3,H3,I3,w3⟩
  | brk=>exact q3
  | ret v=>exact q3
 | false=>
  rw[if_neg aaq];exact gQ ⟨σ1,H2,I2,q2⟩
end
structure It where
 go:Nat→Hp→Prop
 yld:Nat→Hp→V→Hp→Prop
 stop:Nat→Hp→Prop
def ma (X:Cx) (pins:List (Addr×Obj)) (H:Hp) (b:Addr):Prop:=
 H b=none∧b≠X.env.locals∧b∉X.fs∧(b∈X.ex∨X.s₀.heap.objs.size≤b)∧(∀x c,X.env.cells.lookup x=aA c→c≠b)∧∀p∈X.pn++pins,p.1≠b
theorem Inv.nu {X:Cx} {pins:List (Addr×Obj)} {σ:St} {H H':Hp} {s:aF} {b:Addr} (I:Inv X pins σ H s) (hb:s.heap.objs.size≤b) (hn:H' b=none):ma X pins H' b:=by
 refine ⟨hn,ab2 (aao I.lt hb),I.nofs hb,.inr (ab4 I.sz hb),λx c e z=>?_,λp hp z=>?_⟩
 ·obtain ⟨v,q⟩:=I.cell x c e;exact absurd (aao q.lt (by rw[z];exact hb)) (abi _)
 ·exact absurd (aao (aK (I.pin p hp).1) (by rw[z];exact hb)) (abi _)
structure Turn (P:aX) (w:aZ) (K:aG) (tg:Expr) (J:It) (fp:List Addr) (it:Addr) (tn:Nat→Heap→Prop):Prop where
 mem:it∈fp
 obj:∀i h,tn i h→∀b∈fp,∃o,h.get? b=aA o∧∀v,o.data≠.cell v
 keep:∀i h h',tn i h→(∀b∈fp,∀o,h.get? b=aA o→h'.get? b=aA o)→tn i h'
 item:∀(X:Cx),X.prog=P→X.w=w→X.K=K→X.calm=true→∀(i:Nat) (pins:List (Addr×Obj)) (s:aF) (σ:St) (H:Hp) (E:aD→aF→Prop),Inv X pins σ H s→(∀b∈fp,ma X pins H b)→tn i s.heap→J.go i H→
  aI `e0 X.A (cS `bv) (λr s1=>∃u,r=aA u∧
   aI `e0 X.A (eQ tg `bv u) (λ_ s2=>∃x H',Inv X pins σ H' s2∧RelV x u∧J.yld i H x H'∧tn (i+1) s2.heap∧∀b∈fp,H' b=none) E s1) E s
 done:∀(X:Cx),X.prog=P→X.w=w→X.K=K→X.calm=true→∀(i:Nat) (pins:List (Addr×Obj)) (s:aF) (σ:St) (H:Hp) (E:aD→aF→Prop),Inv X pins σ H s→(∀b∈fp,ma X pins H b)→tn i s.heap→J.stop i H→
  aI `e0 X.A (cS `bv) (λr s1=>r=none∧Inv X pins σ H s1) E s
 self:∀(A:bJ) (i:Nat) (s:aF) (Q:aD→aF→Prop) (E:aD→aF→Prop),tn i s.heap→Q `bv s→aI `e0 A (iZ `bv) Q E s
abbrev TI:=St→Hp→(It→Hp→Prop)→Prop
def PIE (X:Cx) (pins:List (Addr×Obj)) (σ:St) (tg:Expr) (R:It→Hp→Prop) (itv:aD) (s2:aF):Prop:=
 ∃(it:Addr) (fp:List Addr) (tn:Nat→Heap→Prop) (J:It) (H':Hp),itv=.ref it∧Inv X pins σ H' s2∧Turn X.prog X.w X.K tg J fp it tn∧tn 0 s2.heap∧(∀b∈fp,ma X pins H' b)∧R J H'
def PI (X:Cx) (tg iter:Expr) (wi:TI):Prop:=
 ∀(pins:List (Addr×Obj)) (s:aF) (σ:St) (H:Hp) (R:It→Hp→Prop),Inv X pins σ H s→wi σ H R→
  aI `d X.A (eval iter X.env) (λv s1=>aI `d X.A (iZ v) (PIE X pins σ tg R) X.xe s1) X.xe s
theorem Ks {M:Model} {A:bJ} {E:aD→aF→Prop} {s:aF} {tg:Expr} {it:Addr} {u:aD} {o:Obj} {n:String} {vs:Array aD} {Q:Unit→aF→Prop} (ho:s.heap.get? it=aA o) (hc:o.cls=.type n) (hd:o.data=.fields vs)
    (hn:["enumerate","zip","dict_itemiterator","dict_reverseitemiterator","odict_iterator","itertools.zip_longest","itertools.pairwise"].contains n=false) (hQ:Q () s):aI M A (eQ tg `bv u) Q E s:=by
  unfold eQ;cases tg <;> first
    | exact aH hQ
    | (cases u <;> first
        | exact aH hQ
        | (refine aC (wpAny_load ho ?_)
           rw[hc,hd];show aI M A (if (["enumerate","zip","dict_itemiterator","dict_reverseitemiterator","odict_iterator","itertools.zip_longest","itertools.pairwise"].contains n&&vs[0]?==aA (cP _))=true then _ else _) Q E s
           rw[if_neg (by intro h;rw[hn,Bool.false_and] at h;cases h)];exact aH hQ))
noncomputable def Itl (K:aG) (a:Addr):It:=
 ⟨λi H=>∃xs x,SqL K H a xs∧xs[i]?=aA x,λi H x H'=>H'=H∧∀xs,SqL K H a xs→xs[i]?=aA x,λi H=>∃xs,SqL K H a xs∧xs.length≤i⟩
noncomputable def Itt (K:aG) (a:Addr):It:=
 ⟨λi H=>∃xs x,SqT K H a xs∧xs[i]?=aA x,λi H x H'=>H'=H∧∀xs,SqT K H a xs→xs[i]?=aA x,λi H=>∃xs,SqT K H a xs∧xs.length≤i⟩
noncomputable def Itr (lo:Int) (n:Nat):It:=⟨λi _=>i < n,λi H x H'=>H'=H∧x=.int (lo+i),λi _=>n≤i⟩
theorem Ni {P:aX} {w:aZ} {K:aG} {tg:Expr} (a it:Addr):Turn P w K tg (Itl K a) [it] it (λi h=>h.IsListIter it a i) where
 mem:=by simp
 obj:=λi h st b hb=>by
  have e:b=it:=by simpa using hb
  subst e;obtain ⟨o,e,c,d⟩:=st;exact ⟨o,e,λv z=>by rw[d] at z;cases z⟩
 keep:=λi h h' st k=>st.at λo e=>k it `c o e
 item:=by
  intro X hP hw hK hc i pins s σ H E I hf st hg;subst hP hw hK;obtain ⟨xs,x,hq,hx⟩:=hg;obtain ⟨its,rv,p,hz⟩:=I.list hq;obtain ⟨u,hu,ru⟩:=rv.get hx;obtain ⟨f0,f1,f2,f3,f4,f5⟩:=hf it `c;refine jS st p.isList (x:=u) (by simpa using hu) λh' st' sb=>?_;have I1:Inv X pins σ H { s with heap:=h' }:=I.turned (t':=s.toks) (λb o hb e=>(sb.2 b hb).trans e) f0 f1 f3 f4 f5;obtain ⟨o,e,c,d⟩:=id st';exact ⟨u,rfl,Ks (s:={ s with heap:=h' }) e c d `a ⟨x,H,I1,ru,⟨rfl,λys hy=>by rw[I.tj hy hq];exact hx⟩,st',λb hb=>(hf b hb).1⟩⟩
 done:=by
  intro X hP hw hK hc i pins s σ H E I hf st hg;subst hP hw hK;obtain ⟨xs,hq,hx⟩:=hg;obtain ⟨its,rv,p,hz⟩:=I.list hq;obtain ⟨f0,f1,f2,f3,f4,f5⟩:=hf it `c;have hl:=rv.length;exact kR `aH st p.isList (by simp;omega) λh' eb=>⟨rfl,I.turned (t':=s.toks) (λb o hb e=>eb b o hb e) f0 f1 f3 f4 f5⟩
 self:=λ_ _ _ _ _ st h=>wpAny_pyIter_listiter st h
theorem Hx {P:aX} {w:aZ} {K:aG} {tg:Expr} (a it:Addr):Turn P w K tg (Itt K a) [it] it (λi h=>h.IsTupleIter it a i) where
 mem:=by simp
 obj:=λi h st b hb=>by
  have e:b=it:=by simpa using hb
  subst e;obtain ⟨o,e,c,d⟩:=st;exact ⟨o,e,λv z=>by rw[d] at z;cases z⟩
 keep:=λi h h' st k=>st.at λo e=>k it `c o e
 item:=by
  intro X hP hw hK hc i pins s σ H E I hf st hg;subst hP hw hK;obtain ⟨xs,x,hq,hx⟩:=hg;obtain ⟨its,rv,p,hz⟩:=I.tuple hq;obtain ⟨u,hu,ru⟩:=rv.get hx;obtain ⟨f0,f1,f2,f3,f4,f5⟩:=hf it `c;refine wpAny_pyNext_tuple_item st `a7 (x:=u) (by simpa using hu) λh' st' sb=>?_;have I1:Inv X pins σ H { s with heap:=h' }:=I.turned (t':=s.toks) (λb o hb e=>(sb.2 b hb).trans e) f0 f1 f3 f4 f5;obtain ⟨o,e,c,d⟩:=id st';exact ⟨u,rfl,Ks (s:={ s with heap:=h' }) e c d `a ⟨x,H,I1,ru,⟨rfl,λys hy=>by rw[I.vy hy hq];exact hx⟩,st',λb hb=>(hf b hb).1⟩⟩
 done:=by
  intro X hP hw hK hc i pins s σ H E I hf st hg;subst hP hw hK;obtain ⟨xs,hq,hx⟩:=hg;obtain ⟨its,rv,p,hz⟩:=I.tuple hq;obtain ⟨f0,f1,f2,f3,f4,f5⟩:=hf it `c;have hl:=rv.length;exact wpAny_pyNext_tuple_end `aH st `a7 (by simp;omega) λh' eb=>⟨rfl,I.turned (t':=s.toks) (λb o hb e=>eb b o hb e) f0 f1 f3 f4 f5⟩
 self:=λ_ _ _ _ _ st h=>wpAny_pyIter_tupleiter st h
theorem Im {P:aX} {w:aZ} {K:aG} {tg:Expr} (it:Addr) (lo:Int) (n:Nat):Turn P w K tg (Itr lo n) [it] it (λi h=>jT h it (lo+(i:Nat)*1) ((n:Int) - (i:Nat)) 1) where
 mem:=by simp
 obj:=λi h st b hb=>by
  have e:b=it:=by simpa using hb
  subst e;exact ⟨_,st,λv z=>by
   have z':Data.fields _=Data.cell v:=z;cases z'⟩
 keep:=λi h h' st k=>k it `c _ st
 item:=by
  intro X hP hw hK hc i pins s σ H E I hf st hg;subst hP hw hK;obtain ⟨f0,f1,f2,f3,f4,f5⟩:=hf it `c;have W:=Walks.range (prog:=X.prog) (w:=X.w) `aH it lo 1 n;refine W.item i s _ _ hg st λv h' tk hv st' kk=>?_;obtain ⟨t,rfl⟩:=hv;have I1:Inv X pins σ H { s with heap:=h',toks:=tk }:=I.turned (λb o hb e=>kk b o (by simpa using hb) e) f0 f1 f3 f4 f5;refine ⟨_,rfl,Ks (s:={ s with heap:=h',toks:=tk }) (n:="range_iterator") st' rfl rfl `a ⟨.int (lo+i),H,I1,⟨t,?_⟩,⟨rfl,rfl⟩,st',λb hb=>(hf b hb).1⟩⟩;rw[Int.mul_one]
 done:=by
  intro X hP hw hK hc i pins s σ H E I hf st hg;subst hP hw hK;obtain ⟨f0,f1,f2,f3,f4,f5⟩:=hf it `c;exact jU `aH st (by have:n≤i:=hg;omega) λh' eb=>⟨rfl,I.turned (t':=s.toks) (λb o hb e=>eb b o hb e) f0 f1 f3 f4 f5⟩
 self:=λ_ _ _ _ _ st h=>jV st h
section
variable {X:Cx} {tg:Expr}
def Rv (K:aG) (tl:TE):TI:=λσ H R=>tl σ H λx H1=>∃a,x=.ref a∧(∃xs,SqL K H1 a xs)∧R (Itl K a) H1
def iTup (K:aG) (tl:TE):TI:=λσ H R=>tl σ H λx H1=>∃a,x=.ref a∧(∃xs,SqT K H1 a xs)∧R (Itt K a) H1
theorem Lk {l:Expr} {tl:TE} (hl:PE X l tl):PI X tg l (Rv X.K tl):=by
 intro pins s σ H R I h;refine thn (hl pins s σ H _ I h) λv s1 ⟨x,H1,I1,r1,q1⟩=>?_;obtain ⟨a,e,⟨xs,hq⟩,q⟩:=q1;subst e;cases r1
 obtain ⟨its,rv,p,hz⟩:=I1.list hq;refine dI p.isList ?_;refine ⟨s1.heap.objs.size,[s1.heap.objs.size],_,_,H1,rfl,I1.kept (t':=s1.toks) λb o e=>aE _ e,Ni a _,⟨_,aJ _ rfl,rfl,rfl⟩,λb hb=>?_,q⟩;have e:b=s1.heap.objs.size:=by simpa using hb
 subst e;exact I1.nu (aa3 _) `aL
theorem Ob {l:Expr} {tl:TE} (hl:PE X l tl):PI X tg l (iTup X.K tl):=by
 intro pins s σ H R I h;refine thn (hl pins s σ H _ I h) λv s1 ⟨x,H1,I1,r1,q1⟩=>?_;obtain ⟨a,e,⟨xs,hq⟩,q⟩:=q1;subst e;cases r1
 obtain ⟨its,rv,p,hz⟩:=I1.tuple hq;refine eR (show s1.heap.IsTuple a its.toArray from p) ?_;refine ⟨s1.heap.objs.size,[s1.heap.objs.size],_,_,H1,rfl,I1.kept (t':=s1.toks) λb o e=>aE _ e,Hx a _,⟨_,aJ _ rfl,rfl,rfl⟩,λb hb=>?_,q⟩;have e:b=s1.heap.objs.size:=by simpa using hb
 subst e;exact I1.nu (aa3 _) `aL
theorem R4 {pins:List (Addr×Obj)} {σ:St} {H:Hp} {s:aF} {R:It→Hp→Prop} {E:aD→aF→Prop} {lo hi:Int} {t u v:Tok} {tk:Nat} (I:Inv X pins σ H s) (h1:-(2 ^ 62)≤lo) (h2:lo < 2 ^ 62) (h3:-(2 ^ 62)≤hi) (h4:hi < 2 ^ 62)
  (q:R (Itr lo (hi - lo).toNat) H):aI `d X.A (iZ `j) (PIE X pins σ tg R) E { s with heap:=s.heap.push { cls:=.type "range",data:=.fields #[.int lo t,.int hi u,.int 1 v] },toks:=tk }:=by
 refine mN (IsRange.new ..) (small_one h1 h2 h3 h4) ?_;have I1:Inv X pins σ H { s with heap:=s.heap.push { cls:=.type "range",data:=.fields #[.int lo t,.int hi u,.int 1 v] },toks:=tk }:=I.kept λb o e=>aE _ e;refine ⟨(s.heap.push { cls:=.type "range",data:=.fields #[.int lo t,.int hi u,.int 1 v] }).objs.size,[(s.heap.push { cls:=.type "range",data:=.fields #[.int lo t,.int hi u,.int 1 v] }).objs.size],_,_,H,rfl,
  I1.kept (t':=tk) λb o e=>aE _ e,Im _ lo (hi - lo).toNat,?_,λb hb=>?_,q⟩
 ·have e1:lo+((0:Nat):Int)*1=lo:=by simp
  have e2:(((hi - lo).toNat:Nat):Int) - ((0:Nat):Int)=gB lo hi 1:=by rw[rangeSize_one];split <;> omega
  show jT _ _ (lo+((0:Nat):Int)*1) ((((hi - lo).toNat:Nat):Int) - ((0:Nat):Int)) 1
  rw[e1,e2];exact aJ _ rfl
 ·have e:b=(s.heap.push { cls:=.type "range",data:=.fields #[.int lo t,.int hi u,.int 1 v] }).objs.size:=by simpa using hb
  subst e;exact I1.nu (aa3 _) `aL
def iRng1 (ta:TA):TI:=λσ H R=>ta σ H λvs H1=>∃j:Int,vs=[.int j]∧-(2 ^ 62)≤j∧j < 2 ^ 62∧R (Itr 0 j.toNat) H1
def iRng2 (ta:TA):TI:=λσ H R=>ta σ H λvs H1=>∃i j:Int,vs=[.int i,.int j]∧(-(2 ^ 62)≤i∧i < 2 ^ 62∧-(2 ^ 62)≤j∧j < 2 ^ 62)∧R (Itr i (j - i).toNat) H1
theorem Ly {a:Expr} {ta:TA} {p pos:Pos} (hg:Gl X "range") (hm:X.mg "range"=none) (ha:PA X [a] ta) (hs:bB [a] X.env=[(false,eval a X.env)]:=by rfl):PI X tg (.Call (.Name "range" p) [a] [] pos) (iRng1 ta):=by
 intro pins s σ H R I h;refine Call_ (gj I hg hm boot_range (bL (thn `aw λus s1 ⟨vs,H1,I1,r1,q1⟩=>?_) hs rfl));obtain ⟨j,e,q1,q2,q⟩:=q1;subst e;cases r1 with
 | cons r rr=>
  cases rr
  obtain ⟨t,rfl⟩:=r;exact call_range_1 (R4 I1 (by omega) (by omega) q1 q2 (by simpa using q))
def tFor (wi:TI) (g:TG) (tb:TS):TS:=λD σ H=>wi σ H λJ H1=>∃W:Nat→Nat→St→Hp→Prop,(∃m,W 0 m σ H1)∧∀i m σ H,W i m σ H→
 (J.stop i H∧D.nx σ H)∨(J.go i H∧∃N:St→Hp→Prop,(∀σ' H',N σ' H'→∃m',m' < m∧W (i+1) m' σ' H')∧∀x H',J.yld i H x H'→g x σ H' λσ2 H2=>tb { D with nx:=N,ct:=N,bk:=D.nx } σ2 H2)
noncomputable def vx (fp:List Addr) (h:Heap):List (Addr×Obj):=fp.filterMap λb=>(h.get? b).map λo=>(b,o)
theorem gy {fp:List Addr} {h:Heap} {b:Addr} {o:Obj} (hb:b∈fp) (e:h.get? b=aA o):(b,o)∈vx fp h:=List.mem_filterMap.mpr ⟨b,hb,by rw[e];rfl⟩
theorem Ng {fp:List Addr} {h:Heap} {p:Addr×Obj} (hp:p∈vx fp h):p.1∈fp∧h.get? p.1=aA p.2:=by
 obtain ⟨b,hb,e⟩:=List.mem_filterMap.mp hp;cases q:h.get? b with
 | none=>rw[q] at e;cases e
 | some o=>
  rw[q] at e;have e':(b,o)=p:=aaa e;subst e';exact ⟨hb,q⟩
theorem Inv.pinned {pins:List (Addr×Obj)} {σ:St} {H:Hp} {s:aF} {fp:List Addr} (I:Inv X pins σ H s) (hf:∀b∈fp,ma X pins H b) (ho:∀b∈fp,∃o,s.heap.get? b=aA o∧∀v,o.data≠.cell v):Inv X (pins++vx fp s.heap) σ H s:=
 I.Kd λp hp=>(List.mem_append.mp hp).elim (λz=>I.pin p (aar _ z)) λz=>by
  obtain ⟨hb,e⟩:=Ng z;obtain ⟨f0,f1,f2,_⟩:=hf p.1 hb;obtain ⟨o,e',d⟩:=ho p.1 hb;rw[e] at e';cases e';exact ⟨e,f0,f1,f2,d⟩
theorem Inv.og {pins pl:List (Addr×Obj)} {σ:St} {H:Hp} {s:aF} (I:Inv X (pins++pl) σ H s):Inv X pins σ H s:=I.Kd λp hp=>I.pin p (aar _ (abp _ hp))
theorem ps_for {iter:Expr} {body:List Stmt} {wi:TI} {g:TG} {tb:TS} {pos:Pos} (hp:PassesOwn `d X.A X.env X.xe) (hc:X.calm=true) (hi:PI X tg iter wi) (hg:PG X tg g) (hb:PSs X body tb)
  (hs:∀x,gE iter X.env x=pure x:=by intro _;rfl):PS X (.For tg iter body [] pos) (tFor wi g tb):=by
 intro pins s σ H D I h;refine wpAny_For (thn `bE λv s1 h1=>thn h1 λitv s2 h2=>?_) hs;obtain ⟨it,fp,tn,J,H2,e,I2,T,st2,f2,W,⟨m0,w0⟩,turn⟩:=h2;subst e;have stat:∀{H':Hp},(∀b∈fp,H' b=none)→∀b∈fp,ma X pins H' b:=λhn b hb=>⟨hn b hb,(f2 b hb).2⟩;refine codeAny_forLoop_any (λn s'=>∃i σ' H',Inv X pins σ' H' s'∧tn i s'.heap∧(∀b∈fp,H' b=none)∧W i n σ' H') ?_ m0 ⟨0,σ,H2,I2,st2,λb hb=>(f2 b hb).1,w0⟩;rintro n s3 ⟨i,σ3,H3,I3,st3,fr3,w3⟩;rcases turn i n σ3 H3 w3 with ⟨stop,qn⟩ | ⟨go,N,hN,step⟩
 ·refine dN hp (thn (T.done X rfl rfl rfl hc i pins s3 σ3 H3 X.xe I3 (stat fr3) st3 stop) λr s4 ⟨hr,I4⟩=>?_);subst hr;exact gQ ⟨σ3,H3,I4,qn⟩
 ·refine dN hp (thn (T.item X rfl rfl rfl hc i pins s3 σ3 H3 X.xe I3 (stat fr3) st3 go) λr s4 ⟨u,hr,h4⟩=>?_);subst hr;refine dN hp (thn h4 λ_ s5 ⟨x,H5,I5,r5,y5,st5,fr5⟩=>?_);have I5':=I5.pinned (stat fr5) (T.obj _ _ st5);refine dN hp (thn (hg _ s5 σ3 H5 x u _ I5' r5 (step x H5 y5)) λ_ s6 ⟨σ6,H6,I6,q6⟩=>?_);refine dN hp (thn (hb _ s6 σ6 H6 _ I6 q6) λf s7 q7=>?_);have again:∀{σ7:St} {H7:Hp},Inv X (pins++vx fp s5.heap) σ7 H7 s7→N σ7 H7→∃m,m < n∧∃i σ' H',Inv X pins σ' H' s7∧tn i s7.heap∧(∀b∈fp,H' b=none)∧W i m σ' H':=λ{σ7 H7} I7 n7=>by
   obtain ⟨m',hm,w7⟩:=hN σ7 H7 n7;refine ⟨m',hm,i+1,σ7,H7,I7.og,T.keep _ _ _ st5 λb hb o e=>(I7.pin (b,o) `bl).1,λb hb=>?_,w7⟩;obtain ⟨o,e,d⟩:=T.obj _ _ st5 b hb;exact (I7.pin (b,o) `bl).2.1
  cases f with
  | next=>obtain ⟨σ7,H7,I7,n7⟩:=q7;exact again I7 n7
  | cont=>obtain ⟨σ7,H7,I7,n7⟩:=q7;exact again I7 n7
  | brk=>obtain ⟨σ7,H7,I7,q7⟩:=q7;exact ⟨σ7,H7,I7.og,q7⟩
  | ret v=>obtain ⟨x7,σ7,H7,I7,r7,q7⟩:=q7;exact ⟨x7,σ7,H7,I7.og,r7,q7⟩
end
theorem Oe {K:aG} {a:Addr} {xs:List V} {g:TG} {tb:TS} {D:Ends} {σ:St} {H:Hp} (Pv:Nat→St→Hp→Prop) (h0:Pv 0 σ H) (hl:∀i σ H,i≤xs.length→Pv i σ H→SqL K H a xs)
  (hs:∀i x σ H,xs[i]?=aA x→Pv i σ H→g x σ H λσ2 H2=>tb { D with nx:=Pv (i+1),ct:=Pv (i+1),bk:=D.nx } σ2 H2) (hd:∀σ H,Pv xs.length σ H→D.nx σ H):
  ∃W:Nat→Nat→St→Hp→Prop,(∃m,W 0 m σ H)∧∀i m σ H,W i m σ H→
   ((Itl K a).stop i H∧D.nx σ H)∨((Itl K a).go i H∧∃N:St→Hp→Prop,(∀σ' H',N σ' H'→∃m',m' < m∧W (i+1) m' σ' H')∧∀x H',(Itl K a).yld i H x H'→g x σ H' λσ2 H2=>tb { D with nx:=N,ct:=N,bk:=D.nx } σ2 H2):=by
 refine ⟨λi m σ H=>m=xs.length - i∧i≤xs.length∧Pv i σ H,⟨xs.length,by simp,aai _,h0⟩,?_⟩;rintro i m σ H ⟨rfl,hi,p⟩;have q:=hl i σ H hi p;by_cases hlt:i < xs.length
 ·refine .inr ⟨⟨xs,xs[i],q,by simp[hlt]⟩,Pv (i+1),λσ' H' p'=>⟨xs.length - (i+1),by omega,rfl,hlt,p'⟩,λx H' y=>?_⟩;obtain ⟨e,y⟩:=y;subst e;exact hs i x σ _ (y xs q) p
 ·have e:i=xs.length:=by omega
  subst e;exact .inl ⟨⟨xs,q,aa3 _⟩,hd σ H p⟩
theorem Ss {K:aG} {a:Addr} {xs:List V} {g:TG} {tb:TS} {D:Ends} {σ:St} {H:Hp} (Pv:Nat→St→Hp→Prop) (h0:Pv 0 σ H) (hl:∀i σ H,i≤xs.length→Pv i σ H→SqT K H a xs)
  (hs:∀i x σ H,xs[i]?=aA x→Pv i σ H→g x σ H λσ2 H2=>tb { D with nx:=Pv (i+1),ct:=Pv (i+1),bk:=D.nx } σ2 H2) (hd:∀σ H,Pv xs.length σ H→D.nx σ H):
  ∃W:Nat→Nat→St→Hp→Prop,(∃m,W 0 m σ H)∧∀i m σ H,W i m σ H→
   ((Itt K a).stop i H∧D.nx σ H)∨((Itt K a).go i H∧∃N:St→Hp→Prop,(∀σ' H',N σ' H'→∃m',m' < m∧W (i+1) m' σ' H')∧∀x H',(Itt K a).yld i H x H'→g x σ H' λσ2 H2=>tb { D with nx:=N,ct:=N,bk:=D.nx } σ2 H2):=by
 refine ⟨λi m σ H=>m=xs.length - i∧i≤xs.length∧Pv i σ H,⟨xs.length,by simp,aai _,h0⟩,?_⟩;rintro i m σ H ⟨rfl,hi,p⟩;have q:=hl i σ H hi p;by_cases hlt:i < xs.length
 ·refine .inr ⟨⟨xs,xs[i],q,by simp[hlt]⟩,Pv (i+1),λσ' H' p'=>⟨xs.length - (i+1),by omega,rfl,hlt,p'⟩,λx H' y=>?_⟩;obtain ⟨e,y⟩:=y;subst e;exact hs i x σ _ (y xs q) p
 ·have e:i=xs.length:=by omega
  subst e;exact .inl ⟨⟨xs,q,aa3 _⟩,hd σ H p⟩
theorem Nr {lo:Int} {n:Nat} {g:TG} {tb:TS} {D:Ends} {σ:St} {H:Hp} (Pv:Nat→St→Hp→Prop) (h0:Pv 0 σ H)
  (hs:∀i σ H,i < n→Pv i σ H→g (.int (lo+i)) σ H λσ2 H2=>tb { D with nx:=Pv (i+1),ct:=Pv (i+1),bk:=D.nx } σ2 H2) (hd:∀σ H,Pv n σ H→D.nx σ H):
  ∃W:Nat→Nat→St→Hp→Prop,(∃m,W 0 m σ H)∧∀i m σ H,W i m σ H→
   ((Itr lo n).stop i H∧D.nx σ H)∨((Itr lo n).go i H∧∃N:St→Hp→Prop,(∀σ' H',N σ' H'→∃m',m' < m∧W (i+1) m' σ' H')∧∀x H',(Itr lo n).yld i H x H'→g x σ H' λσ2 H2=>tb { D with nx:=N,ct:=N,bk:=D.nx } σ2 H2):=by
 refine ⟨λi m σ H=>m=n - i∧i≤n∧Pv i σ H,⟨n,by simp,aai _,h0⟩,?_⟩;rintro i m σ H ⟨rfl,hi,p⟩;by_cases hlt:i < n
 ·refine .inr ⟨hlt,Pv (i+1),λσ' H' p'=>⟨n - (i+1),by omega,rfl,hlt,p'⟩,λx H' y=>?_⟩;obtain ⟨e,y⟩:=y;subst e y;exact hs i σ _ hlt p
 ·have e:i=n:=by omega
  subst e;exact .inl ⟨aa3 _,hd σ H p⟩
theorem nr {c:TT} {tb:TS} {D:Ends} {σ:St} {H:Hp} (Pv:St→Hp→Prop) (μ:St→Hp→Nat) (h0:Pv σ H)
  (hs:∀σ H,Pv σ H→c σ H λb H1=>if b=true then tb { D with nx:=λσ' H'=>Pv σ' H'∧μ σ' H' < μ σ H,ct:=λσ' H'=>Pv σ' H'∧μ σ' H' < μ σ H,bk:=D.nx } σ H1 else D.nx σ H1)
  (mono:∀σ H Q Q',(∀b H1,Q b H1→Q' b H1)→c σ H Q→c σ H Q'):N6 c tb D σ H:=by
 refine ⟨λm σ H=>m=μ σ H∧Pv σ H,⟨_,rfl,h0⟩,?_⟩;rintro m σ H ⟨rfl,p⟩;refine mono σ H _ _ (λb H1 q=>?_) (hs σ H p);cases b with
 | true=>exact ⟨_,λσ' H' ⟨p',l⟩=>⟨_,l,rfl,p'⟩,q⟩
 | false=>exact q
abbrev R2:=V→V→Hp→VK→Prop
def OpR (X:Cx) (f:aD→aD→Sem aD) (r:R2):Prop:=
 ∀(pins:List (Addr×Obj)) (s:aF) (σ:St) (H:Hp) (x y:V) (v u:aD) (Q:VK),Inv X pins σ H s→RelV x v→RelV y u→r x y H Q→
  aI `d X.A (f v u) `ag X.xe s
def UnR (X:Cx) (f:aD→Sem aD) (r:V→Hp→VK→Prop):Prop:=
 ∀(pins:List (Addr×Obj)) (s:aF) (σ:St) (H:Hp) (x:V) (v:aD) (Q:VK),Inv X pins σ H s→RelV x v→r x H Q→
  aI `d X.A (f v) `ag X.xe s
def fo (X:Cx) (f:aD) (r:List V→Hp→VK→Prop):Prop:=
 ∀(pins:List (Addr×Obj)) (s:aF) (σ:St) (H:Hp) (xs:List V) (us:List aD) (Q:VK),Inv X pins σ H s→Vals xs us→r xs H Q→
  aI `d X.A (call f us) `ag X.xe s
def tOp (r:R2) (ta tb:TE):TE:=λσ H Q=>ta σ H λx H1=>tb σ H1 λy H2=>r x y H2 Q
def tUn (r:V→Hp→VK→Prop) (ta:TE):TE:=λσ H Q=>ta σ H λx H1=>r x H1 Q
def rI (C:Int→Int→Prop) (g:Int→Int→V):R2:=λx y H Q=>∃i j,x=.int i∧y=.int j∧C i j∧Q (g i j) H
def rI0 (g:Int→Int→V):R2:=λx y H Q=>∃i j,x=.int i∧y=.int j∧Q (g i j) H
def rU (g:Int→V):V→Hp→VK→Prop:=λx H Q=>∃i,x=.int i∧Q (g i) H
section
variable {X:Cx} {a b c:Expr} {ta tb tc:TE} {pos:Pos}
theorem binT (ha:PE X a ta) (hb:PE X b tb) {pins:List (Addr×Obj)} {s:aF} {σ:St} {H:Hp} {R:V→V→Hp→Prop} (I:Inv X pins σ H s)
  (h:ta σ H λx H1=>tb σ H1 λy H2=>R x y H2) {Q:aD→aF→Prop} {f:aD→aD→Sem aD}
  (hf:∀v u s2 x y H2,Inv X pins σ H2 s2→RelV x v→RelV y u→R x y H2→aI `d X.A (f v u) Q X.xe s2):
  aI `d X.A (eval a X.env) (λv s₁=>aI `d X.A (eval b X.env) (λu s₂=>aI `d X.A (f v u) Q X.xe s₂) X.xe s₁) X.xe s:=by
 refine thn `ah λv s1 ⟨x,H1,I1,r1,q1⟩=>?_;refine thn (hb pins s1 σ H1 _ I1 q1) λu s2 ⟨y,H2,I2,r2,q2⟩=>?_;exact hf v u s2 x y H2 I2 r1 r2 q2
theorem pe_op {op:Operator} {r:R2} (ho:OpR X (bY op) r) (ha:PE X a ta) (hb:PE X b tb):PE X (.BinOp a op b pos) `eP:=by
 intro pins s σ H Q I h;exact wpAny_BinOp (binT ha hb I h λv u s2 x y H2 I2 rx ry q=>ho pins s2 σ H2 x y v u Q I2 rx ry q)
theorem pe_un {op:UnaryOp} {r:V→Hp→VK→Prop} (ho:UnR X (unaryOp op) r) (ha:PE X a ta):PE X (.UnaryOp op a pos) (tUn r ta):=by
 intro pins s σ H Q I h;exact UnaryOp_ (thn `ah λv s1 ⟨x,H1,I1,r1,q1⟩=>ho pins s1 σ H1 x v Q I1 r1 q1)
theorem opI {f:aD→aD→Sem aD} {C:Int→Int→Prop} {g:Int→Int→Int}
  (rule:∀(i j:Int) (t u:Tok) (s:aF) (Q:aD→aF→Prop) (E:aD→aF→Prop),C i j→Q (.int (g i j) s.toks) { s with toks:=s.toks+1 }→aI `d X.A `ej Q E s):
  OpR X f (rI C λi j=>.int (g i j)):=by
 intro pins s σ H x y v u Q I rx ry h;obtain ⟨i,j,rfl,rfl,hc,q⟩:=h;obtain ⟨t,rfl⟩:=rx;obtain ⟨t',rfl⟩:=ry;exact rule i j t t' s _ _ hc ⟨.int (g i j),H,I.tok _,⟨_,rfl⟩,q⟩
theorem opI0 {f:aD→aD→Sem aD} {g:Int→Int→Int}
  (rule:∀(i j:Int) (t u:Tok) (s:aF) (Q:aD→aF→Prop) (E:aD→aF→Prop),Q (.int (g i j) s.toks) { s with toks:=s.toks+1 }→aI `d X.A `ej Q E s):
  OpR X f (rI0 λi j=>.int (g i j)):=by
 intro pins s σ H x y v u Q I rx ry h;obtain ⟨i,j,rfl,rfl,q⟩:=h;obtain ⟨t,rfl⟩:=rx;obtain ⟨t',rfl⟩:=ry;exact rule i j t t' s _ _ ⟨.int (g i j),H,I.tok _,⟨_,rfl⟩,q⟩
theorem opB0 {f:aD→aD→Sem aD} {g:Int→Int→Bool}
  (rule:∀(i j:Int) (t u:Tok) (s:aF) (Q:aD→aF→Prop) (E:aD→aF→Prop),Q (.bool (g i j)) s→aI `d X.A `ej Q E s):
  OpR X f (rI0 λi j=>.bl (g i j)):=by
 intro pins s σ H x y v u Q I rx ry h;obtain ⟨i,j,rfl,rfl,q⟩:=h;obtain ⟨t,rfl⟩:=rx;obtain ⟨t',rfl⟩:=ry;exact rule i j t t' s _ _ ⟨.bl (g i j),H,I,rfl,q⟩
def CDiv (i j:Int):Prop:=0 < j∧j < 1073741824
def CPow (i j:Int):Prop:=0≤j∧j≤1000000∧i.natAbs < 2 ^ 64
def zx (i j:Int):Prop:=(-(2 ^ 64) < i∧i < 2 ^ 64)∨(-(2 ^ 64) < j∧j < 2 ^ 64)
theorem zx.ok {i j:Int} (h:zx i j):IntMulOk i j:=by
 rcases h with ⟨h1,h2⟩ | ⟨h1,h2⟩
 ·exact .of_left (intBits_le_64 h1 h2)
 ·exact .of_right (intBits_le_64 h1 h2)
theorem op_add:OpR X (bY .Add) (rI0 λi j=>.int (i+j)):=opI0 λ_ _ _ _ _ _ _ q=>add_int q
theorem op_sub:OpR X (bY .Sub) (rI0 λi j=>.int (i - j)):=opI0 λ_ _ _ _ _ _ _ q=>sub_int q
theorem op_mul:OpR X (bY .Mult) (rI zx λi j=>.int (i*j)):=opI λ_ _ _ _ _ _ _ hc q=>mul_int q hc.ok
theorem Uw:OpR X (bY .FloorDiv) (rI CDiv λi j=>.int (i / j)):=opI λi j _ _ _ _ _ hc q=>by
 have h1:(0:Int) < j:=hc.1;have h2:j < 1073741824:=hc.2;exact floordiv_int (by omega) (by rw[Int.fdiv_eq_ediv_of_nonneg i (by omega)];exact q) (.inl (jW (by omega)))
theorem op_mod:OpR X (bY .Mod) (rI (λ_ j=>0 < j) λi j=>.int (i % j)):=opI λi j _ _ _ _ _ hc q=>by
 have h1:(0:Int) < j:=hc;exact mod_int' (by omega) (by rw[Int.fmod_eq_emod_of_nonneg i (by omega)];exact q)
theorem op_pow:OpR X (bY .Pow) (rI CPow λi j=>.int (i ^ j.toNat)):=opI λ_ _ _ _ _ _ _ hc q=>pow_int_small hc.1 hc.2.1 hc.2.2 q
theorem unI {f:aD→Sem aD} {g:Int→Int}
  (rule:∀(i:Int) (t:Tok) (s:aF) (Q:aD→aF→Prop) (E:aD→aF→Prop),Q (.int (g i) s.toks) { s with toks:=s.toks+1 }→aI `d X.A (f (.int i t)) Q E s):
  UnR X f (rU λi=>.int (g i)):=by
 intro pins s σ H x v Q I rx h;obtain ⟨i,rfl,q⟩:=h;obtain ⟨t,rfl⟩:=rx;exact rule i t s _ _ ⟨.int (g i),H,I.tok _,⟨_,rfl⟩,q⟩
theorem Pr:UnR X (unaryOp .USub) (rU λi=>.int (-i)):=unI λ_ _ _ _ _ q=>neg_int q
end
noncomputable def scal:V→V→Bool
 | .non,.non=>true | .non,.int _=>true | .int _,.non=>true | .non,.bl _=>true | .bl _,.non=>true | .non,.str _=>true | .str _,.non=>true
 | .int _,.int _=>true | .bl _,.bl _=>true | .str _,.str _=>true | .byt _,.byt _=>true
 | .int _,.str _=>true | .str _,.int _=>true | .bl _,.str _=>true | .str _,.bl _=>true
 | _,_=>false
def rEq:R2:=λx y H Q=>scal x y=true∧Q (.bl (decide (x=y))) H
def rNe:R2:=λx y H Q=>scal x y=true∧Q (.bl (!decide (x=y))) H
theorem La {i j:Int}:decide (V.int i=V.int j)=(i==j):=by
 rw[adm];simp
theorem Pp {i j:Bool}:decide (V.bl i=V.bl j)=(i==j):=by
 rw[adm];simp
theorem J3 {i j:Str}:decide (V.str i=V.str j)=(i==j):=by
 rw[adm];simp
theorem Lj {i j:Array UInt8}:decide (V.byt i=V.byt j)=(i.toList==j.toList):=by
 rw[adm];cases i
 cases j
 simp
section
variable {X:Cx} {a b c:Expr} {ta tb tc:TE} {pos:Pos}
theorem cf {pins:List (Addr×Obj)} {σ:St} {H:Hp} {s:aF} {Q:VK} {k k':Bool} (I:Inv X pins σ H s) (q:Q (.bl k) H) (e:k=k'):EP X pins σ Q (.bool k') s:=by
 subst e;exact ⟨.bl k,H,I,rfl,q⟩
theorem op_eq:OpR X (cG .Eq) rEq:=by
 intro pins s σ H x y v u Q I rx ry h;obtain ⟨hs,q⟩:=h;cases x with
 | non=>
  cases rx
  cases y with
  | non=>cases ry;exact PySem.EqNone.eq_none_none `ap
  | bl j=>cases ry;exact PySem.EqNone.eq_none_bool `ap
  | int j=>obtain ⟨t',rfl⟩:=ry;exact PySem.EqNone.eq_none_int `ap
  | str j=>obtain ⟨t',rfl⟩:=ry;exact PySem.EqNone.eq_none_str `ap
  | _=>exact absurd (show false=true from hs) aaq
 | bl i=>
  cases rx
  cases y with
  | non=>cases ry;exact PySem.EqNone.eq_bool_none `ap
  | bl j=>cases ry;exact eq_bool (cf I q Pp)
  | str j=>obtain ⟨t',rfl⟩:=ry;exact PySem.EqMixed.eq_bool_str `ap
  | _=>exact absurd (show false=true from hs) aaq
 | int i=>
  obtain ⟨t,rfl⟩:=rx;cases y with
  | non=>cases ry;exact PySem.EqNone.eq_int_none `ap
  | int j=>obtain ⟨t',rfl⟩:=ry;exact eq_int (cf I q La)
  | str j=>obtain ⟨t',rfl⟩:=ry;exact PySem.EqMixed.eq_int_str `ap
  | _=>exact absurd (show false=true from hs) aaq
 | str i=>
  obtain ⟨t,rfl⟩:=rx;cases y with
  | non=>cases ry;exact PySem.EqNone.eq_str_none `ap
  | bl j=>cases ry;exact PySem.EqMixed.eq_str_bool `ap
  | int j=>obtain ⟨t',rfl⟩:=ry;exact PySem.EqMixed.eq_str_int `ap
  | str j=>obtain ⟨t',rfl⟩:=ry;exact eq_str (cf I q J3)
  | _=>exact absurd (show false=true from hs) aaq
 | byt i=>
  obtain ⟨t,rfl⟩:=rx;cases y with
  | byt j=>obtain ⟨t',rfl⟩:=ry;exact PySem.W.eq_bytes (cf I q Lj)
  | _=>exact absurd (show false=true from hs) aaq
 | _=>cases y <;> exact absurd (show false=true from hs) aaq
theorem N5:OpR X (cG .NotEq) rNe:=by
 intro pins s σ H x y v u Q I rx ry h;obtain ⟨hs,q⟩:=h;cases x with
 | non=>
  cases rx
  cases y with
  | non=>cases ry;exact PySem.EqNone.ne_none_none `ap
  | bl j=>cases ry;exact PySem.EqNone.ne_none_bool `ap
  | int j=>obtain ⟨t',rfl⟩:=ry;exact PySem.EqNone.ne_none_int `ap
  | str j=>obtain ⟨t',rfl⟩:=ry;exact PySem.EqNone.ne_none_str `ap
  | _=>exact absurd (show false=true from hs) aaq
 | bl i=>
  cases rx
  cases y with
  | non=>cases ry;exact PySem.EqNone.ne_bool_none `ap
  | bl j=>cases ry;exact ne_bool (cf I q (congrArg not Pp))
  | str j=>obtain ⟨t',rfl⟩:=ry;exact PySem.EqMixed.ne_bool_str `ap
  | _=>exact absurd (show false=true from hs) aaq
 | int i=>
  obtain ⟨t,rfl⟩:=rx;cases y with
  | non=>cases ry;exact PySem.EqNone.ne_int_none `ap
  | int j=>obtain ⟨t',rfl⟩:=ry;exact ne_int (cf I q (congrArg not La))
  | str j=>obtain ⟨t',rfl⟩:=ry;exact PySem.EqMixed.ne_int_str `ap
  | _=>exact absurd (show false=true from hs) aaq
 | str i=>
  obtain ⟨t,rfl⟩:=rx;cases y with
  | non=>cases ry;exact PySem.EqNone.ne_str_none `ap
  | bl j=>cases ry;exact PySem.EqMixed.ne_str_bool `ap
  | int j=>obtain ⟨t',rfl⟩:=ry;exact PySem.EqMixed.ne_str_int `ap
  | str j=>obtain ⟨t',rfl⟩:=ry;exact ne_str (cf I q (congrArg not J3))
  | _=>exact absurd (show false=true from hs) aaq
 | byt i=>
  obtain ⟨t,rfl⟩:=rx;cases y with
  | byt j=>obtain ⟨t',rfl⟩:=ry;exact PySem.W.ne_bytes (cf I q (congrArg not Lj))
  | _=>exact absurd (show false=true from hs) aaq
 | _=>cases y <;> exact absurd (show false=true from hs) aaq
theorem op_lt:OpR X (cG .Lt) (rI0 λi j=>.bl (decide (i < j))):=opB0 λ_ _ _ _ _ _ _ q=>lt_int q
theorem op_gt:OpR X (cG .Gt) (rI0 λi j=>.bl (decide (j < i))):=opB0 λ_ _ _ _ _ _ _ q=>gt_int q
theorem op_ge:OpR X (cG .GtE) (rI0 λi j=>.bl (decide (j≤i))):=opB0 λ_ _ _ _ _ _ _ q=>ge_int q
theorem nomark (b:Expr) {op:jM} (h:op≠.In:=by decide) (h2:op≠.NotIn:=by decide):cU op b=false:=by
 have e1:(op==CmpOp.In)=false:=by cases op <;> first | rfl | exact absurd rfl h
 have e2:(op==CmpOp.NotIn)=false:=by cases op <;> first | rfl | exact absurd rfl h2
 cases b <;> simp[cU,e1,e2]
theorem C5 {op:jM} {r:R2} (ho:OpR X (cG op) r) (ha:PE X a ta) (hb:PE X b tb) (hm:cU op b=false):PE X `bS `eP:=by
 intro pins s σ H Q I h;exact wpAny_Compare1 (binT ha hb I h λv u s2 x y H2 I2 rx ry q=>ho pins s2 σ H2 x y v u Q I2 rx ry q) hm
def Gq (t:TE):TT:=λσ H Q=>t σ H λx H'=>∃k,x=.bl k∧Q k H'
theorem Vd {op:jM} {r:R2} (ho:OpR X (cG op) r) (ha:PE X a ta) (hb:PE X b tb) (hm:cU op b=false):PT X `bS (Gq `eP):=by
 intro pins s σ H Q I h;refine kQ (thn `ah λv s1 ⟨x,H1,I1,r1,q1⟩=>thn (hb pins s1 σ H1 _ I1 q1) λu s2 ⟨y,H2,I2,r2,q2⟩=>
  thn (ho pins s2 σ H2 x y v u _ I2 r1 r2 q2) λc s3 ⟨z,H3,I3,r3,k,e,q3⟩=>?_) hm
 subst e;cases r3
 exact dH ⟨H3,I3,q3⟩
theorem zd:(sizeLine:Nat) < 2 ^ 63:=by rw[aV];decide
theorem jb:OpR X (bY .Add) (λx y H Q=>∃i j,x=.str i∧y=.str j∧i.length+j.length≤sizeLine∧Q (.str (i++j)) H):=by
 intro pins s σ H x y v u Q I rx ry h;obtain ⟨i,j,rfl,rfl,hz,q⟩:=h;obtain ⟨t,rfl⟩:=rx;obtain ⟨t',rfl⟩:=ry;exact add_str (λt' tk=>⟨.str (i++j),H,I.tok _,⟨_,rfl⟩,q⟩) hz
theorem vals1 {x:V} {us:List aD} (r:Vals [x] us):∃u,us=[u]∧RelV x u:=by
 cases r with
 | cons r1 r2=>cases r2;exact ⟨_,rfl,r1⟩
theorem vals2 {x y:V} {us:List aD} (r:Vals [x,y] us):∃u w',us=[u,w']∧RelV x u∧RelV y w':=by
 cases r with
 | cons r1 r2=>
  cases r2 with
  | cons r3 r4=>cases r4;exact ⟨_,_,rfl,r1,r3⟩
theorem Lx (hc:X.calm=true):fo X (.builtin "max") (λxs H Q=>∃i j,xs=[.int i,.int j]∧Q (.int (if j > i then j else i)) H):=by
 intro pins s σ H xs us Q I r h;obtain ⟨i,j,rfl,q⟩:=h;obtain ⟨u,w',rfl,⟨t,rfl⟩,⟨t',rfl⟩⟩:=vals2 r;refine max_two_ints `aH λh' tk k=>⟨_,H,I.kept k,?_,q⟩;by_cases hj:j > i
 ·rw[if_pos hj,if_pos hj];exact ⟨_,rfl⟩
 ·rw[if_neg hj,if_neg hj];exact ⟨_,rfl⟩
theorem Ls:fo X (.type "int") (λxs H Q=>(∃i,xs=[.int i]∧Q `cj H)∨∃k,xs=[.bl k]∧Q (.int (if k then 1 else 0)) H):=by
 intro pins s σ H xs us Q I r h;rcases h with ⟨i,rfl,q⟩ | ⟨k,rfl,q⟩
 ·obtain ⟨u,rfl,t,rfl⟩:=vals1 r;exact call_int_int ⟨.int i,H,I,⟨_,rfl⟩,q⟩
 ·obtain ⟨u,rfl,r1⟩:=vals1 r;cases r1
  exact call_int_bool ⟨.int (if k then 1 else 0),H,I.tok _,⟨_,rfl⟩,q⟩
end
structure ObjM (h:Heap) (x dx C:Addr) (mA:Str→Option aD):Prop where
 obj:h.get? x=aA (jL C dx)
 ns:h.Ns1 dx mA
 ne:dx≠x
theorem Lu {h:Heap} {dx:Addr} {mA:Str→Option aD} (n:h.Ns1 dx mA):∃od,h.get? dx=aA od∧∀name,kS name od=aA (mA name):=by
 obtain ⟨o,es,ep,ho,hd,hk,_,hm⟩:=n;refine ⟨o,ho,λname=>?_⟩;have e:=hm name;unfold nsFind findBy at e;rw[←Array.find?_toList] at e;unfold kS;rw[hd];dsimp only;split
 ·rename_i y q
  rw[q] at e;exact congrArg aA e
 ·rename_i q
  rw[q] at e;have a:es.toList.any (·.refKey)=false:=by
   rw[List.any_eq_false];intro y hy;obtain ⟨z,t,hkey⟩:=hk y (Array.mem_toList_iff.mp hy);simp[DictEntry.refKey,hkey]
  have a':¬es.toList.any (·.refKey)=true:=by rw[a];exact aaq
  rw[if_neg a'];exact congrArg aA e
theorem ObjM.look {h:Heap} {x dx C:Addr} {mA:Str→Option aD} (I:ObjM h x dx C mA):∃od,PySem.W.InstAt h x (jL C dx) C (aA od)∧∀name,kS name od=aA (mA name):=
 let ⟨od,ho,hl⟩:=Lu I.ns
 ⟨od,⟨I.obj,rfl,rfl,ho⟩,hl⟩
theorem rg.some_of {v:V} {o:Option aD} (r:rg (aA v) o):∃u,o=aA u∧RelV v u:=by
 cases o with
 | none=>exact (show False from r).elim
 | some u=>exact ⟨u,rfl,r⟩
section
variable {P:aX} {w:aZ} {H H':Hp} {h h':Heap} {a C dx:Addr} {fs fs':List (Str×V)}
theorem Vx (hok:HOk P w H h) (e:H a=aA (.ins C dx fs)):∃mA,ObjM h a dx C mA∧(∀f,rg (fs.lookup f) (mA f))∧PySem.Within mA (fs.map (·.1))∧fs.length≤1000∧H dx=aA (.own a):=by
 obtain ⟨d,z,ne,ob,mA,n,r,q⟩:=(show cj P w H h a (.ins C dx fs) from hok a _ e);exact ⟨mA,⟨ob,n,ne⟩,r,q,z,d⟩
end
structure Cls (K:aG) (C:Addr):Prop where
 pg:PySem.W.plainGet K C iB=true
 hd:PySem.W.hasDictIn K C=true
 po:PySem.W.plainOver K C=true
 sa:PySem.W.findIn K (.ref C) "__setattr__"=aA (aA (.builtin "object.__setattr__"))
theorem Cls.get {K:aG} {C:Addr} (c:Cls K C) (f:Str):PySem.W.plainGet K C f=true:=c.pg
section
variable {X:Cx} {pins:List (Addr×Obj)} {σ:St} {H:Hp} {s:aF} {A:bJ} {E:aD→aF→Prop} {Q:aD→aF→Prop} {c:aD} {b:Bool}
inductive wb (K:aG) (H:Hp):V→aD→Prop where
 | non:wb K H .non (.type "NoneType")
 | bl (x:Bool):wb K H (.bl x) (.type "bool")
 | int (i:Int):wb K H `cj (.type "int")
 | str (x:Str):wb K H (.str x) (.type "str")
 | flt (x:UInt64):wb K H (.flt x) (.type "float")
 | lst {a:Addr} {xs:List V} (e:H a=aA `ab):wb K H `p `cD
 | frz {a:Addr} {o:Obj} {xs:List V} (e:H a=aA (.frz o `ab)):wb K H `p `cD
 | tup {a:Addr} {xs:List V} (e:H a=aA `aA):wb K H `p `dV
 | dK {a:Addr} {kvs:List (Key×V)} (e:H a=aA `aU):wb K H `p `cc
 | dT {a:Addr} {kvs:List (List Key×V)} (e:H a=aA `ca):wb K H `p `cc
 | ins {a C dx:Addr} {fs:List (Str×V)} (e:H a=aA (.ins C dx fs)) (cl:Cls K C) (ha:PySem.W.findIn K (.ref C) "__class__"=aA (aA `dE))
   (hn:PySem.W.specialIn K `dE "__get__"=aA (aA (.builtin "getset_descriptor.__get__"))) (htk:PySem.W.takesIn K `dE=aA true)
   (hm:PySem.W.mroIn K C (.type "object")=aA true):wb K H `p (.ref C)
theorem Me {x:V} {u t:aD} (I:Inv X pins σ H s) (rx:RelV x u) (ty:wb X.K H x t) (e:PySem.W.kitOne X.K t c=aA b) (h:∀tk,Q `dy { s with toks:=tk }):
  aI `d A (call `e6 [u,c]) Q E s:=by
 cases ty with
 | non=>cases (show u=dJ from rx);exact bZ PySem.W.kitx_none I.kIn True.intro e (λz=>nomatch z) h
 | bl y=>cases (show u=nN y from rx);exact bZ PySem.W.kitx_bool I.kIn True.intro e (λz=>nomatch z) h
 | int i=>obtain ⟨t,q⟩:=(show ∃t,u=hX i t from rx);cases q;exact bZ PySem.W.kitx_int I.kIn True.intro e (λz=>nomatch z) h
 | str y=>obtain ⟨t,q⟩:=(show ∃t,u=mE y t from rx);cases q;exact bZ PySem.W.kitx_str I.kIn True.intro e (λz=>nomatch z) h
 | flt y=>obtain ⟨t,q⟩:=(show ∃t,u=Value.float y t from rx);cases q;exact bZ PySem.W.kitx_float I.kIn True.intro e (λz=>nomatch z) h
 | @lst a xs ea=>
  cases (show u=bG a from rx)
  obtain ⟨_,_,n,_,h1⟩:=(show cj X.prog X.w H s.heap a `ab from I.hok a _ ea);exact bZ nE I.kIn ⟨_,h1,rfl⟩ e (λz=>nomatch z) h
 | @frz a ob xs ea=>
  cases (show u=bG a from rx)
  obtain ⟨_,_,_,n,_,h1⟩:=(show cj X.prog X.w H s.heap a (.frz ob `ab) from I.hok a _ ea);exact bZ nE I.kIn ⟨_,h1,rfl⟩ e (λz=>nomatch z) h
 | @tup a xs ea=>
  cases (show u=bG a from rx)
  obtain ⟨_,_,_,p⟩:=(show cj X.prog X.w H s.heap a `aA from I.hok a _ ea);obtain ⟨o,h1,h2,_⟩:=p;exact bZ PySem.W.kitx_tuple I.kIn ⟨o,h1,h2⟩ e (λz=>nomatch z) h
 | @dK a kvs ea=>
  cases (show u=bG a from rx)
  obtain ⟨_,_,vs,_,p⟩:=(show cj X.prog X.w H s.heap a `aU from I.hok a _ ea);obtain ⟨o,es,ep,h1,h2,_⟩:=p;exact bZ nF I.kIn ⟨o,h1,h2.1⟩ e (λz=>nomatch z) h
 | @dT a kvs ea=>
  cases (show u=bG a from rx)
  obtain ⟨_,_,xs,_,o,es,ep,h1,h2,_⟩:=(show cj X.prog X.w H s.heap a `ca from I.hok a _ ea);exact bZ nF I.kIn ⟨o,h1,h2.1⟩ e (λz=>nomatch z) h
 | @ins a C dx fs ea cl ha hn htk hm=>
  cases (show u=bG a from rx)
  obtain ⟨mA,O,_⟩:=Vx I.hok ea;obtain ⟨od,J,_⟩:=O.look;exact bZ (PySem.W.kitx_own (cl.get _) cl.hd ha hn htk hm) I.kIn J e (λz=>nomatch z) h
end
structure j9 (k:Nat) (A:bJ):Prop where
 hd:A.handled=none
 dp:A.depth+3*k+5 < recursionLimit
 un:A.units+16*k+200 < cLine
theorem j9.mono {j k:Nat} {A:bJ} (r:j9 k A) (h:j≤k):j9 j A:=⟨r.hd,by have:=r.dp;omega,by have:=r.un;omega⟩
theorem j9.deeper {k:Nat} {A:bJ} (r:j9 (k+1) A) (env:Env):j9 k (A.deeper env):=
 ⟨r.hd,by have:=r.dp;show A.depth+1+3*k+5 < _;omega,by have:=r.un;show A.units+3+16*k+200 < _;omega⟩
theorem j9.depth {k:Nat} {A:bJ} (r:j9 k A):A.depth < recursionLimit:=by have:=r.dp;omega
theorem j9.units {k:Nat} {A:bJ} (r:j9 k A):A.units+64 < cLine:=by have:=r.un;omega
def tNil:TA:=λ_ H Q=>Q [] H
def G7 (ta:TE) (tr:TA):TA:=λσ H Q=>ta σ H λx H1=>tr σ H1 λxs H2=>Q (x::xs) H2
section
variable {X:Cx} {e:Expr} {es:List Expr} {te:TE} {t:TA} {pos:Pos}
theorem O4:PA X [] tNil:=λ_ _ _ _ H Q I h=>eX ⟨[],H,I,.nil,h⟩
theorem Ed (ha:PE X e te) (hr:PA X es t) (hs:bB (e::es) X.env=(false,eval e X.env)::bB es X.env:=by rfl):PA X (e::es) (G7 te t):=by
 intro pos pins s σ H Q I h;rw[hs];show aI _ _ (kP ((false,eval e X.env)::cJ pos `cs)) _ _ s
 refine dM (thn `ah λu s1 ⟨x,H1,I1,r1,q1⟩=>?_);exact thn (hr pos pins s1 σ H1 _ I1 q1) λus s2 ⟨xs,H2,I2,r2,q2⟩=>⟨x::xs,H2,I2,.cons r1 r2,q2⟩
def tTup (t:TA):TE:=λσ H Q=>t σ H λxs H1=>xs.length≤sizeLine∧∀p,H1 p=none→Q `aW (upd H1 p `aA)
def tLst (t:TA):TE:=λσ H Q=>t σ H λxs H1=>xs.length≤sizeLine∧∀p,H1 p=none→Q `aW (upd H1 p `ab)
theorem pe_tup {x1} (h:PA X es t):PE X (.Tuple es x1 pos) (tTup t):=by
 intro pins s σ H Q I hq;refine wpAny_Tuple_spliced (thn (h pos pins s σ H _ I hq) λus s1 ⟨xs,H1,I1,r,z,q⟩=>⟨by rw[←r.length];exact z,?_⟩);have hf:H1 s1.heap.objs.size=none:=I1.hok.fresh (aa3 _);refine ⟨.ref s1.heap.objs.size,upd H1 s1.heap.objs.size `aA,I1.laid (t':=s1.toks) (λb u e=>aE _ e) (aa3 _) ?_,rfl,q _ hf⟩;exact ⟨z,us,r,⟨_,aJ _ rfl,rfl,_,rfl,rfl⟩⟩
theorem pe_lst (h:PA X es t):PE X (.List es pos) (tLst t):=by
 intro pins s σ H Q I hq;refine wpAny_List_spliced (thn (h pos pins s σ H _ I hq) λus s1 ⟨xs,H1,I1,r,z,q⟩=>⟨by rw[←r.length];exact z,?_⟩);have hf:H1 s1.heap.objs.size=none:=I1.hok.fresh (aa3 _);refine ⟨.ref s1.heap.objs.size,upd H1 s1.heap.objs.size `ab,I1.laid (t':=s1.toks) (λb u e=>aE _ e) (aa3 _) ?_,rfl,q _ hf⟩;exact ⟨z,us,0,r,aJ _ rfl⟩
end
abbrev Sp:=List V→Hp→VK→XK→Prop
abbrev CXT:=List Env→Hp→aF→XK→aD→aF→Prop
structure Env0 (P:aX) (w:aZ) (K:aG) (mg:Str→Option aD) (base:Heap) (A:bJ) (outer:List Env) (s:aF) (H:Hp):Prop where
 frames:A.frames=aA outer
 mod:Mod K mg base
 bs:∀b o,base.get? b=aA o→s.heap.get? b=aA o∧H b=none
 bsz:base.objs.size≤s.heap.objs.size
 vb:s.heap.FunFrames base outer
 frf:∀b∈frs outer,H b=none
 hok:HOk P w H s.heap
 bare:gP s.gens
def CE (outer:List Env) (P:aX) (w:aZ) (H:Hp) (s:aF) (Q:VK) (u:aD) (s':aF):Prop:=
 ∃v H',s'.os=s.os∧gP s'.gens∧Un (frs outer) [] H H' s.heap s'.heap∧HOk P w H' s'.heap∧RelV v u∧Q v H'
def CR (CX:CXT) (outer:List Env) (P:aX) (w:aZ) (H:Hp) (s:aF) (Q:VK) (E:XK) (r:iC) (s':aF):Prop:=
 match r with
 | .ok (.ret u)=>CE outer P w H s Q u s'
 | .ok _=>False
 | .error e=>CX outer H s E e s'
structure uf (P:aX) (w:aZ) (K:aG) (mg:Str→Option aD) (base:Heap) (CX:CXT) (k:Nat) (f:Addr) (fd:cV) (ps:List Str) (sp:Sp):Prop where
 len:∀vs H Q E,sp vs H Q E→vs.length=ps.length
 run:∀(A:bJ) (outer:List Env) (s:aF) (H:Hp) (args:Args) (us:List aD) (vs:List V) (Q:VK) (E:XK),j9 k A→Env0 P w K mg base A outer s H→kT s fd args (ps.zip us)→Vals vs us→sp vs H Q E→
  dO `e0 A (.call `db args) (CR CX outer P w H s Q E) s
theorem uf.mono {P:aX} {w:aZ} {K:aG} {mg:Str→Option aD} {base:Heap} {CX:CXT} {j k:Nat} {f:Addr} {fd:cV} {ps:List Str} {sp:Sp} (F:uf P w K mg base CX j f fd ps sp) (h:j≤k):
  uf P w K mg base CX k f fd ps sp:=⟨F.len,λA outer s H args us vs Q E hr=>F.run A outer s H args us vs Q E (hr.mono h)⟩
section
variable {X:Cx} {pins:List (Addr×Obj)} {σ:St} {H:Hp} {s s':aF}
theorem Inv.env0 (I:Inv X pins σ H s):Env0 X.prog X.w X.K X.mg X.base X.A X.stack s H:=
 ⟨I.ok.frames,I.ok.mod,I.bs,ab4 I.ok.bsz I.sz,I.stack,I.Ea,I.hok,I.bare⟩
theorem Inv.after {Q:VK} {u:aD} (I:Inv X pins σ H s) (h:CE X.stack X.prog X.w H s Q u s'):EP X pins σ Q u s':=by
 obtain ⟨v,H',os,bare,un,hok,r,q⟩:=h;obtain ⟨hh,g,d,t,os'⟩:=s';obtain rfl:os'=s.os:=os;exact ⟨v,H',I.call (h':=hh) (g':=g) (d':=d) (t':=t) (ch:=[]) un hok bare (λb z=>absurd z `c),r,q⟩
end
def Oc (sp:Sp) (dvs:List V) (E:XK) (t:TA):TE:=λσ H Q=>t σ H λvs H1=>sp (vs++dvs) H1 Q E
def Binds (K:aG) (fd:cV) (ps:List Str) (ds:List aD):Prop:=
 ∀(s:aF) (us:List aD),K.In s.heap→(us++ds).length=ps.length→kT s fd ⟨us,[]⟩ (ps.zip (us++ds))
theorem Binds.all {K:aG} {fd:cV} {ps:List Str} (h:∀us:List aD,us.length=ps.length→bH fd ⟨us,[]⟩=pure (ps.zip us)):Binds K fd ps []:=λs us _ hl=>by
 rw[ab3] at hl ⊢;exact .of_eq (h us hl)
def Passes (CX:CXT) (X:Cx) (E:XK):Prop:=∀(pins:List (Addr×Obj)) (σ:St) (H:Hp) (s:aF) (e:aD) (s':aF),Inv X pins σ H s→CX X.stack H s E e s'→X.xe e s'
section
variable {X:Cx} {CX:CXT} {k:Nat} {f C:Addr} {fd:cV} {ps:List Str} {sp:Sp} {dvs:List V} {ds:List aD} {E:XK} {x m:Str} {p pos apos:Pos} {e o:Expr} {es:List Expr} {ta:TE} {t:TA}
theorem run_fn {pins:List (Addr×Obj)} {σ:St} {H:Hp} {s:aF} {Q:VK} {us:List aD} {vs:List V} (F:uf X.prog X.w X.K X.mg X.base CX k f fd ps sp) (hr:j9 k X.A) (hb:Binds X.K fd ps ds) (hd:Vals dvs ds) (hx:Passes CX X E)
  (I:Inv X pins σ H s) (r:Vals vs us) (h:sp (vs++dvs) H Q E):aI `d X.A (call `db us) `ag X.xe s:=by
 have r2:Vals (vs++dvs) (us++ds):=r.append hd;have hl:(us++ds).length=ps.length:=by rw[←r2.length];exact F.len _ _ _ _ h
 refine nQ (eZ (F.run X.A X.stack s H ⟨us,[]⟩ (us++ds) (vs++dvs) Q E hr I.env0 (hb s us I.kIn hl) r2 h) λr s' hq=>?_);cases r with
 | error e=>exact hx pins σ H s e s' I hq
 | ok fl=>
  cases fl with
  | ret u=>exact I.after hq
  | next=>exact False.elim hq
  | brk=>exact False.elim hq
  | cont=>exact False.elim hq
theorem Vy (F:uf X.prog X.w X.K X.mg X.base CX k f fd ps sp) (hr:j9 k X.A) (hg:Gl X x) (hm:X.mg x=aA `db) (hk:aQ X.K `db=true) (hb:Binds X.K fd ps ds) (hd:Vals dvs ds) (hx:Passes CX X E)
  (ha:PA X (e::es) t) (hdb:(x==("__debug__":Str))=false:=by decide) (he:bB (e::es) X.env=(false,eval e X.env)::bB es X.env:=by rfl) (hpl:(cJ pos `cs).any (·.1)=false:=by rfl):
  PE X `bI (Oc sp dvs E t):=by
 intro pins s σ H Q I h;refine bU (Kf I hg hm ?_ hdb);refine PySem.W.callWith_K (h₀:=X.base) I.ok.mod.kin hk (thn `aw λus s1 ⟨vs,H1,I1,r,q⟩=>⟨I1.kIn,?_⟩) he hpl;exact run_fn F hr hb hd hx I1 r q
end
structure av (N P:List Str) (sc:Scope):Prop where
 kind:sc.kind=.function
 co:sc.isCoroutine=false
 gen:sc.isGenerator=false
 nd:N.Nodup
 pre:N.take P.length=P
 par:∀x∈P,sc.names.lookup x=aA .local∨sc.names.lookup x=aA .cell
 nofree:∀y∈sc.names,y.2≠.free
theorem Ce {kindOf:Str→Option nK} {x:Str}:∀{binds:List (Str×aD)} {m:Str→Option aD},(∀v,(x,v)∉binds)→lE kindOf binds m x=m x
 | [],_,_=>rfl
 | (n,v)::r,m,h=>by
  unfold lE;rw[Ce λw hw=>h w (aa9 _ hw)];split
  ·have:x≠n:=by rintro rfl;exact h v aa6
   simp[this]
  ·rfl
theorem Bn {kindOf:Str→Option nK} {x:Str}:∀{binds:List (Str×aD)} {m:Str→Option aD},(∀v,(x,v)∉binds)→lJ kindOf binds m x=m x
 | [],_,_=>rfl
 | (n,v)::r,m,h=>by
  unfold lJ;rw[Bn λw hw=>h w (aa9 _ hw)];split
  ·rfl
  ·have:x≠n:=by rintro rfl;exact h v aa6
   simp[this]
theorem Cm {kindOf:Str→Option nK} {x:Str} {v:aD}:∀{P:List Str} {vs:List aD} {i:Nat} {m:Str→Option aD},P.Nodup→P[i]?=aA x→vs[i]?=aA v→kindOf x=aA .local→
  lE kindOf (P.zip vs) m x=aA v
 | [],_,_,_,_,h,_,_=>by simp at h
 | _::_,[],_,_,_,_,h,_=>by simp at h
 | p::P,w::vs,0,m,nd,h1,h2,hk=>by
  simp at h1 h2;subst h1;subst h2;show lE kindOf ((p,w)::P.zip vs) m p=_
  unfold lE;rw[Ce λv hv=>(List.nodup_cons.mp nd).1 (ac3 hv).1,if_pos hk];simp
 | p::P,w::vs,i+1,m,nd,h1,h2,hk=>by
  show lE kindOf ((p,w)::P.zip vs) m x=_
  unfold lE;exact Cm (i:=i) (List.nodup_cons.mp nd).2 (by simpa using h1) (by simpa using h2) hk
theorem Cw {kindOf:Str→Option nK} {x:Str} {v:aD}:∀{P:List Str} {vs:List aD} {i:Nat} {m:Str→Option aD},P.Nodup→P[i]?=aA x→vs[i]?=aA v→kindOf x≠aA .local→
  lJ kindOf (P.zip vs) m x=aA v
 | [],_,_,_,_,h,_,_=>by simp at h
 | _::_,[],_,_,_,_,h,_=>by simp at h
 | p::P,w::vs,0,m,nd,h1,h2,hk=>by
  simp at h1 h2;subst h1;subst h2;show lJ kindOf ((p,w)::P.zip vs) m p=_
  unfold lJ;rw[Bn λv hv=>(List.nodup_cons.mp nd).1 (ac3 hv).1,if_neg hk];simp
 | p::P,w::vs,i+1,m,nd,h1,h2,hk=>by
  show lJ kindOf ((p,w)::P.zip vs) m x=_
  unfold lJ;exact Cw (i:=i) (List.nodup_cons.mp nd).2 (by simpa using h1) (by simpa using h2) hk
noncomputable def start (N:List Str) (vs:List V):St:=vs.map aA++abc (N.length - vs.length) none
noncomputable def xg (CX:CXT) (P:aX) (w:aZ) (K:aG) (mg:Str→Option aD) (base:Heap) (N:List Str) (qual:Str) (scope:Scope) (f:Addr) (cd:aD) (A:bJ) (outer:List Env) (s:aF) (H:Hp) (E:XK):Cx where
 prog:=P
 w:=w
 K:=K
 mg:=mg
 base:=base
 A:=A.deeper `cA
 N:=N
 s₀:=s
 H₀:=H
 env:=gR qual scope s.heap.objs.size f cd
 outer:=outer
 stack:=gR qual scope s.heap.objs.size f cd::outer
 ex:=[]
 calm:=true
 fn:=λ_=>true
 pn:=[]
 xe:=λe s'=>aI `e0 (A.deeper `cA) (leaving `cA e) (λ_ s''=>CX outer H s E e s'') (λe' s''=>CX outer H s E e' s'') s'
theorem Hn {sc:Scope} {n:Nat} {x:Str} (h:sc.names.lookup x=aA .cell):∃c,(jN n sc.names []).lookup x=aA c:=by
 have q:=jX sc.names n [] (.inl h);exact Option.isSome_iff_exists.mp q
theorem Ma {CX:CXT} {P:aX} {w:aZ} {K:aG} {mg:Str→Option aD} {base:Heap} {N ps:List Str} {qual:Str} {scope:Scope} {f:Addr} {cd:aD} {A:bJ} {outer:List Env} {s s1:aF} {H:Hp} {E:XK} {us:List aD} {vs:List V}
  (S:av N ps scope) (hd:A.handled=none) (e0:Env0 P w K mg base A outer s H) (hl:vs.length=ps.length) (r:Vals vs us)
  (x:InCallC s s.heap.objs.size (lE (gR qual scope s.heap.objs.size f cd).kindOf (ps.zip us) λ_=>none) (jN (s.heap.objs.size+1) scope.names []) (lJ (gR qual scope s.heap.objs.size f cd).kindOf (ps.zip us) λ_=>none) s1):
  Inv (xg CX P w K mg base N qual scope f cd A outer s H E) [] `d5 H s1:=by
 have hpl:ps.length≤N.length:=by have:=congrArg ac2 S.pre;rw[ab1] at this;omega
 obtain ⟨h1,tk,rfl,hk⟩:=x.done;have noA:∀b:Addr,b∉(xg CX P w K mg base N qual scope f cd A outer s H E).ex:=λb z=>absurd (show b∈([]:List Addr) from z) `c;refine ⟨⟨e0.mod,S.kind,rfl,rfl,aa3 _,λy z c h1 h2=>?_,λy hy=>?_,λy c _ h=>?_,λ_=>hd,Around.frames_deeper e0.frames,.inr ⟨rfl,rfl⟩,λb z=>absurd z (noA b),e0.bs,e0.bsz,λb _ _=>noA b,λb z=>absurd z (noA b),e0.vb,e0.frf⟩,
  rfl,e0.bare,Un.kept hk,⟨_,x.toInCall.ns,λi y v h1 h2 h3=>?_⟩,λy c h=>⟨_,x.cell y c h⟩,e0.hok.fresh (aa3 _),λy c h=>?_,λp hp=>absurd (show p∈([]:List (Addr×Obj)) from hp) `c,e0.hok.kept hk,?_⟩
 ·exact name_of_addr x.apart (eJ h1) (eJ h2)
 ·have hy:scope.names.lookup y=aA .cell∨scope.names.lookup y=aA .free:=hy;rcases hy with hy | hy
  ·exact Hn hy
  ·exact absurd rfl (S.nofree _ (eJ hy))
 ·exact ac8 (x.above y c (eJ h))
 ·have hi:i < vs.length:=by
   unfold start at h2;by_cases hi:i < vs.length
   ·exact hi
   ·rw[aad (by simpa using hi)] at h2;rw[ae9] at h2;split at h2 <;> cases h2
  have ha:vs[i]?=aA v:=by
   unfold start at h2;rw[aag (by simpa using hi),aa5] at h2;cases e:vs[i]? with
   | none=>rw[e] at h2;cases h2
   | some a=>rw[e] at h2;cases h2;rfl
  obtain ⟨u,hu,rv⟩:=r.get ha;have hp:ps[i]?=aA y:=by
   rw[←S.pre,ad8 (by omega)];exact h1
  have ndP:ps.Nodup:=by rw[←S.pre];exact S.nd.sublist (List.take_sublist _ _)
  refine ⟨u,rv,?_⟩;rcases S.par y (aak hp) with k | k
  ·exact .inl ⟨k,Cm ndP hp hu k⟩
  ·obtain ⟨c,e⟩:=Hn (n:=s.heap.objs.size+1) k;refine .inr ⟨.inl k,c,e,?_⟩;have q:=x.cell y c e;rw[Cw ndP hp hu (by show scope.names.lookup y≠_;rw[k];decide)] at q;exact q
 ·exact e0.hok.fresh (ac8 (x.above y c (eJ h)))
 ·unfold start;show _=N.length
  rw[aa1,aa0,aba];omega
theorem fn_of {CX:CXT} {P:aX} {w:aZ} {K:aG} {mg:Str→Option aD} {base:Heap} {k:Nat} {f:Addr} {name qual:Str} {params:Arguments} {body:List Stmt} {scope:Scope} {dV kV doc pm cdv ct oc:aD} {an od:Option Addr}
  {osl:Array `e2} {N ps:List Str} {sp:Sp} (lk:K.lookup f=aA ⟨oc,od,.func `dD,osl⟩) (hcd:aR K cdv qual=true) (S:av N ps scope)
  (len:∀vs H Q E,sp vs H Q E→vs.length=ps.length)
  (hbody:∀(A:bJ) (outer:List Env) (s:aF) (H:Hp) (vs:List V) (Q:VK) (E:XK),j9 k (A.deeper (gR qual scope s.heap.objs.size f cdv))→sp vs H Q E→
   ∃t,PSs `bu body t∧t { nx:=λ_ H'=>Q .non H',rt:=Q } `d5 H):
  uf P w K mg base CX (k+1) f `dD ps sp:=by
 refine ⟨len,λA outer s H args us vs Q E hr e0 hb r hsp=>?_⟩;have hl:=len _ _ _ _ hsp;have KX:K.In s.heap:=e0.mod.kin.keeps λb o e=>(e0.bs b o e).1;have lim:s.heap.NoLimit:=e0.mod.nolimit.keeps λb o e=>(e0.bs b o e).1;have hkind:∀y∈ps.zip us,scope.names.lookup y.1=aA .local∨(scope.names.lookup y.1=aA .cell∧((jN (s.heap.objs.size+1) scope.names []).lookup y.1).isSome=true):=λ⟨n,v⟩ hy=>by
  rcases S.par n (ac3 hy).1 with q | q
  ·exact .inl q
  ·exact .inr ⟨q,jX _ _ _ (.inl q)⟩
 refine codeAny_call_function hr.depth (KX _ _ lk) rfl S.co S.gen rfl (PySem.W.codeRec_of KX hcd) (hb _ _ _ _ ?_);refine wpAny_newFunctionEnv_cells S.kind hkind λenv he s1 x=>?_;subst he;refine ⟨lim.keeps x.toInCall.keep,codeAny_func ?_⟩;obtain ⟨t,ht,hq⟩:=hbody A outer s H vs Q E (hr.deeper _) hsp;have I:Inv `bu [] `d5 H s1:=Ma S hr.hd e0 hl r x;refine bM (ht [] s1 `d5 H _ I hq) (λfl s' hs=>?_) λe s' hs=>hs;have fin:∀{σ':St} {H':Hp} {v:V} {u:aD},Inv `bu [] σ' H' s'→RelV v u→Q v H'→CE outer P w H s Q u s':=
  λ{σ' H' v u} J rv q=>⟨v,H',J.os,J.bare,J.base,J.hok,rv,q⟩
 cases fl with
 | ret u=>
  obtain ⟨v,σ',H',J,rv,q⟩:=hs;exact fin J rv q
 | next=>
  obtain ⟨σ',H',J,q⟩:=hs;exact fin (v:=V.non) (u:=dJ) J rfl q
 | brk=>
  obtain ⟨_,_,_,q⟩:=hs;exact False.elim q
 | cont=>
  obtain ⟨_,_,_,q⟩:=hs;exact False.elim q
section
variable {X:Cx} {x:Str} {p pos:Pos} {e:Expr} {es:List Expr} {t:TA} {id T:String} {r:List V→Hp→VK→Prop}
def tCB (r:List V→Hp→VK→Prop) (t:TA):TE:=λσ H Q=>t σ H λvs H1=>r vs H1 Q
theorem Ow (hc:fo X `b7 r) (hg:Gl X x) (hm:X.mg x=none) (hv:bO x=aA `b7) (ha:PA X (e::es) t) (hn:x≠"__name__":=by decide) (hdb:(x==("__debug__":Str))=false:=by decide)
  (he:bB (e::es) X.env=(false,eval e X.env)::bB es X.env:=by rfl) (hpl:(cJ pos `cs).any (·.1)=false:=by rfl):PE X `bI (tCB r t):=by
 intro pins s σ H Q I h;refine bU (gj I hg hm hv ?_ hn hdb);exact PyProof.Rows.callWith_builtin1 (thn `aw λus s1 ⟨vs,H1,I1,r1,q1⟩=>hc pins s1 σ H1 vs us Q I1 r1 q1) he hpl
theorem Mq (hc:fo X `du r) (hg:Gl X x) (hm:X.mg x=none) (hv:bO x=aA `du) (ha:PA X (e::es) t) (hn:x≠"__name__":=by decide) (hdb:(x==("__debug__":Str))=false:=by decide)
  (he:bB (e::es) X.env=(false,eval e X.env)::bB es X.env:=by rfl) (hpl:(cJ pos `cs).any (·.1)=false:=by rfl):PE X `bI (tCB r t):=by
 intro pins s σ H Q I h;refine bU (gj I hg hm hv ?_ hn hdb);exact bL (thn `aw λus s1 ⟨vs,H1,I1,r1,q1⟩=>hc pins s1 σ H1 vs us Q I1 r1 q1) he hpl
end
end L2
namespace HT
open PySem PyProof.Rows
section
open PySem.SeqAt
open PySem.AutoSeq1 (wpAny_loadPart')
open PySem.MeetsSeq PySem.MeetsSeq2 PySem.MeetsSeq3
end
section
variable {prog:aX} {w:aZ} {A:bJ} {E:aD→aF→Prop} {s:aF}
theorem Vs {t b:Addr} {vs ws:List aD} {Q:aD→aF→Prop} (ht:iP s.heap t vs.toArray) (hb:iP s.heap b ws.toArray) (hv:vs≠[])
  (h1:ws=[]→Q `I s) (h2:ws≠[]→Q `j { s with heap:=s.heap.push { cls:=.type "tuple",data:=.seq (vs++ws).toArray } })
  (hsz:vs.length+ws.length≤sizeLine):aI `f A (bY .Add `I `aJ) Q E s:=by
 obtain ⟨⟨cls,dd,data,sl⟩,ho,hc,n,hd⟩:=id ht;obtain ⟨⟨cls2,dd2,data2,sl2⟩,ho2,hc2,n2,hd2⟩:=id hb;simp only at hc hd hc2 hd2;subst hc hd hc2 hd2;have e:vs.toArray++ws.toArray=(vs++ws).toArray:=by simp
 by_cases hw:ws=[]
 ·exact mO ⟨_,ho,rfl⟩ ⟨_,ho2,rfl⟩ jA lT gI gC (fT _ _)
   (tuple_addW1 t b vs.toArray ws.toArray n n2 dd dd2 sl sl2 (by simpa using hv) (by simp[hw])) ⟨ho,ho2,h1 hw⟩
 ·refine mO ⟨_,ho,rfl⟩ ⟨_,ho2,rfl⟩ jA lT gI gC (fT _ _)
   (tuple_addW2 t b vs.toArray ws.toArray n n2 dd dd2 sl sl2 (by simpa using hv) (by simpa using hw) (by rw[aae,aae];exact hsz)) ⟨ho,ho2,?_⟩
  rw[e];exact h2 hw
noncomputable def sIx (n d:Nat):Option Int→Nat
 | none=>d
 | some v=>if v < 0 then (v+(n:Int)).toNat else min v.toNat n
theorem Hh (n d:Nat):sIx n d none=d:=rfl
theorem K4 (n d k:Nat):sIx n d (aA (k:Int))=min k n:=by
 show (if (k:Int) < 0 then ((k:Int)+(n:Int)).toNat else min (k:Int).toNat n)=min k n
 rw[if_neg (by omega),acu]
theorem sIx_le (n d:Nat) (hd:d≤n) (o:Option Int):sIx n d o≤n:=by
 cases o with
 | none=>exact hd
 | some v=>
  show (if v < 0 then (v+(n:Int)).toNat else min v.toNat n)≤n
  by_cases hv:v < 0
  ·rw[if_pos hv];omega
  ·rw[if_neg hv];exact Nat.min_le_right _ _
theorem Kg (v:Int) (n d:Nat):(if v < 0 then max (v+(n:Int)) 0 else min v (n:Int))=((sIx n d (aA v):Nat):Int):=by
 show (if v < 0 then max (v+(n:Int)) 0 else min v (n:Int))=(((if v < 0 then (v+(n:Int)).toNat else min v.toNat n):Nat):Int)
 by_cases hv:v < 0
 ·simp only[if_pos hv];omega
 ·simp only[if_neg hv];omega
theorem Jx (lo hi:Option Int) (n:Nat):fP lo hi 1 (n:Int)=(((sIx n 0 lo:Nat):Int),((sIx n n hi:Nat):Int)):=by
 have h1:¬((1:Int) < 0):=by omega
 unfold fP;simp only[h1,if_false];refine Prod.ext ?_ ?_
 ·cases lo with
  | none=>rfl
  | some v=>exact Kg v n 0
 ·cases hi with
  | none=>rfl
  | some v=>exact Kg v n n
theorem Ig (i j:Nat):bX (i:Int) (j:Int) 1=j - i:=by
 unfold bX;have h1:(1:Int) > 0:=by omega
 simp only[h1,if_true,Int.ediv_one];split <;> omega
theorem Ai {v:aD} {o:Option Int} {Q:Option Int→aF→Prop} (p:gS v o) (h:Q o s):aI `f A (Builtin.Slice.slicePartIndex v) Q E s:=by
 cases p with
 | none=>exact gX h
 | int i t=>exact slicePart_int h
theorem kf {sl:Addr} {vl vu:aD} {lo hi:Option Int} {n:Nat} {Q:Int×Int×Nat→aF→Prop} (hs:s.heap.IsSliceOf sl vl vu .none) (pl:gS vl lo) (pu:gS vu hi)
  (h:Q (((sIx n 0 lo:Nat):Int),1,sIx n n hi - sIx n 0 lo) s):aI `f A (dR `bZ (pure (n:Int))) Q E s:=by
 obtain ⟨os,hos,hcs,hds⟩:=id hs;unfold dR iQ;refine aC (aC (bF hos hds (x:=vl) rfl (aC (bF hos hds (x:=vu) rfl (aC (bF hos hds (x:=.none) rfl (aH ?_)))))));refine aC (gX ?_);show aI _ _ (if ((1:Int)==0)=true then _ else _) _ _ s
 rw[if_neg `a];refine aC (Ai pl (aC (Ai pu (aC (aH ?_)))));show aI _ _ (match fP lo hi 1 (n:Int) with | (lo,hi)=>pure (lo,(1:Int),bX lo hi 1)) _ _ s
 rw[Jx lo hi n];show aI _ _ (pure (((sIx n 0 lo:Nat):Int),(1:Int),bX ((sIx n 0 lo:Nat):Int) ((sIx n n hi:Nat):Int) 1)) _ _ s
 rw[Ig];exact aH h
theorem Pn (xs:Array aD) (i k:Nat):((abh k).filterMap λ(m:Nat)=>xs[((i:Int)+(m:Int)*1).toNat]?).toArray=((xs.toList.drop i).take k).toArray:=by
 have e:(λ(m:Nat)=>xs[((i:Int)+(m:Int)*1).toNat]?)=λm=>xs[i+m]?:=by
  funext m
  have:((i:Int)+(m:Int)*1).toNat=i+m:=by omega
  rw[this]
 rw[e];have:=pick_run xs i k;rw[List.filterMap_map] at this;have e2:((λx=>xs[x]?) ∘ λx=>i+x)=λm=>xs[i+m]?:=rfl;rw[e2] at this;rw[this]
theorem ug {t sl:Addr} {items:Array aD} {vl vu:aD} {lo hi:Option Int} {Q:aD→aF→Prop} (ht:iP s.heap t items) (hs:s.heap.IsSliceOf sl vl vu .none) (pl:gS vl lo) (pu:gS vu hi)
  (hw:¬(sIx items.size 0 lo=0∧sIx items.size items.size hi=items.size))
  (h:Q `j { s with heap:=s.heap.push { cls:=.type "tuple",data:=.seq ((items.toList.drop (sIx items.size 0 lo)).take (sIx items.size items.size hi - sIx items.size 0 lo)).toArray } })
  (hsz:items.size≤sizeLine):aI `f A (fB `I `bZ) Q E s:=by
 have htake:sizeOk (.seq ((items.toList.drop (sIx items.size 0 lo)).take (sIx items.size items.size hi - sIx items.size 0 lo)).toArray):=by
  show ((items.toList.drop (sIx items.size 0 lo)).take (sIx items.size items.size hi - sIx items.size 0 lo)).toArray.size≤sizeLine
  rw[aae,ab1,aau,abb];omega
 have hj:sIx items.size items.size hi≤items.size:=sIx_le _ _ (aa3 _) hi;obtain ⟨os,hos,hcs,hds⟩:=id hs;have hTs:s.TypeIs `bZ "slice":=⟨os,hos,hcs⟩;unfold fB;try with_reducible refine bI ?_
 first | refine aC (aH ?_) | skip
 refine aC (iO ht.typeIs `a ?_);refine aC (bK (name:=aB "__getitem__") ht.typeIs bT
  (bN bT ht.typeIs gV ?_ (iD _ _)))
 show aI _ _ (fI `I >>=_) _ _ s
 refine aC (lU ht ?_);refine aC (dC hTs ?_);rw[if_pos `a];refine aC (kf hs pl pu ?_);have hno:¬((((sIx items.size 0 lo:Nat):Int)==0&&(1:Int)==1&&(sIx items.size items.size hi - sIx items.size 0 lo)==items.size)=true):=by
  intro q;rw[ac1,ac1] at q;have q1:((sIx items.size 0 lo:Nat):Int)=0:=eq_of_beq q.1.1;have q2:sIx items.size items.size hi - sIx items.size 0 lo=items.size:=eq_of_beq q.2;exact hw ⟨by omega,by omega⟩
 show aI _ _ (if (((sIx items.size 0 lo:Nat):Int)==0&&(1:Int)==1&&(sIx items.size items.size hi - sIx items.size 0 lo)==items.size)=true then _ else _) _ _ s
 rw[if_neg hno,Pn];first
  | exact aC (m:=dD _) (cI `bq htake)
  | exact aC (m:=dD _) (cI (aC (aH `bq)) htake)
  | exact aC (aC (m:=dD _) (cI (aH `bq) htake))
  | exact aC (aC (m:=dD _) (cI `bq htake))
end
end HT
namespace L2
open PySem PySem.Spec PyProof.Rows
abbrev TO:=St→Hp→(Option Int→Hp→Prop)→Prop
def PO (X:Cx) (e:Option Expr) (t:TO):Prop:=
 ∀(pins:List (Addr×Obj)) (s:aF) (σ:St) (H:Hp) (Q:Option Int→Hp→Prop),Inv X pins σ H s→t σ H Q→
  aI `d X.A (evalPart e X.env) (λu s'=>∃o H',Inv X pins σ H' s'∧gS u o∧Q o H') X.xe s
def K7:TO:=λ_ H Q=>Q none H
def Qb (t:TE):TO:=λσ H Q=>t σ H λx H1=>∃i,x=.int i∧Q (aA i) H1
section
variable {X:Cx} {e:Expr} {te:TE} {lo hi:Option Expr} {tl th:TO} {pos p2:Pos}
theorem jr:PO X none K7:=by
 intro pins s σ H Q I h;rw[lW];exact aH ⟨none,H,I,.none,h⟩
theorem V3 (h:PE X e te):PO X (aA e) (Qb te):=by
 intro pins s σ H Q I hw;rw[evalPart_some];refine thn (h pins s σ H _ I hw) λu s1 ⟨x,H1,I1,r1,q1⟩=>?_;obtain ⟨i,rfl,q⟩:=q1;obtain ⟨t,rfl⟩:=r1;exact ⟨aA i,H1,I1,.int i t,q⟩
def SlR (X:Cx) (r:V→Option Int→Option Int→Hp→VK→Prop):Prop:=
 ∀(pins:List (Addr×Obj)) (s:aF) (σ:St) (H:Hp) (x:V) (v vl vu:aD) (lo hi:Option Int) (sl:Addr) (Q:VK),Inv X pins σ H s→RelV x v→s.heap.IsSliceOf sl vl vu .none→gS vl lo→gS vu hi→r x lo hi H Q→
  ∃T id,dY `du "__getitem__"=pure (aA `b7)∧s.TypeIs v T∧aI `d X.A (fB v `bZ) `ag X.xe s
def tSl (r:V→Option Int→Option Int→Hp→VK→Prop) (te:TE) (tl th:TO):TE:=λσ H Q=>te σ H λx H1=>tl σ H1 λl H2=>th σ H2 λu H3=>r x l u H3 Q
theorem Qm {r:V→Option Int→Option Int→Hp→VK→Prop} (hr:SlR X r) (he:PE X e te) (hl:PO X lo tl) (hu:PO X hi th):PE X (.Subscript e (.Slice lo hi none p2) pos) (tSl r te tl th):=by
 intro pins s σ H Q I h;refine lL (thn `bF λv s1 ⟨x,H1,I1,r1,q1⟩=>?_);refine wpAny_Slice (thn (hl pins s1 σ H1 _ I1 q1) λvl s2 ⟨l,H2,I2,pl,q2⟩=>thn (hu pins s2 σ H2 _ I2 q2) λvu s3 ⟨u,H3,I3,pu,q3⟩=>?_);rw[lW];refine aH ?_;have I4:Inv X pins σ H3 { s3 with heap:=s3.heap.push { cls:=.type "slice",data:=.fields #[vl,vu,.none] } }:=I3.kept (t':=s3.toks) λb ob q=>aE _ q;obtain ⟨T,id,hT,ht,hg⟩:=hr pins { s3 with heap:=s3.heap.push { cls:=.type "slice",data:=.fields #[vl,vu,.none] } } σ H3 x v vl vu l u s3.heap.objs.size Q I4 r1 (mP ..) pl pu q3;show aI `d X.A (iI e (.Slice lo hi none p2) v (.ref s3.heap.objs.size)) `ag X.xe { s3 with heap:=s3.heap.push { cls:=.type "slice",data:=.fields #[vl,vu,.none] } }
 exact tail_any (ops:=[.ref s3.heap.objs.size,v]) ht hT hg `by
noncomputable def jk (xs:List V) (lo hi:Option Int):List V:=(xs.drop `e3).take (HT.sIx xs.length xs.length hi - HT.sIx xs.length 0 lo)
theorem wq (xs:List V) (lo hi:Option Int):(jk xs lo hi).length≤xs.length:=by
 unfold jk;rw[ab1,aau];omega
def rSlT (K:aG):V→Option Int→Option Int→Hp→VK→Prop:=λx lo hi H Q=>∃a xs,x=.ref a∧SqT K H a xs∧
 ¬(HT.sIx xs.length 0 lo=0∧HT.sIx xs.length xs.length hi=xs.length)∧∀p,H p=none→Q `aW (upd H p (.tup `dK))
theorem sl_tup:SlR X (rSlT X.K):=by
 intro pins s σ H x v vl vu lo hi sl Q I rx hs pl pu h;obtain ⟨a,xs,rfl,hx,hw,q⟩:=h;cases rx
 obtain ⟨its,r,ht,hz⟩:=I.tuple hx;have hlen:its.toArray.size=xs.length:=by rw[aae];exact r.length.symm
 refine ⟨"tuple",_,PyProof.Rows.slot_tuple_getitem.lookup,ht.typeIs,?_⟩;refine HT.ug ht hs pl pu (by rw[hlen];exact hw) ?_ (by rw[hlen];exact hz);rw[hlen];refine ⟨.ref s.heap.objs.size,_,I.laid (t':=s.toks) (o:=.tup `dK) (λb ob q=>aE _ q) (aa3 _) ?_,rfl,q _ `au⟩;exact ⟨ab4 (wq xs lo hi) hz,_,(r.drop `e3).take (HT.sIx xs.length xs.length hi - HT.sIx xs.length 0 lo),⟨_,aJ _ rfl,rfl,_,rfl,rfl⟩⟩
def rCatT (K:aG):R2:=λx y H Q=>∃a b xs ys,x=.ref a∧y=.ref b∧SqT K H a xs∧SqT K H b ys∧xs≠[]∧xs.length+ys.length≤sizeLine∧
 (ys=[]→Q `p H)∧(ys≠[]→∀p,H p=none→Q `aW (upd H p (.tup (xs++ys))))
theorem Vals.yc {xs:List V} {us:List aD} (r:Vals xs us):us=[]↔xs=[]:=by
 cases r with
 | nil=>simp
 | cons _ _=>simp
theorem Vf:OpR X (bY .Add) (rCatT X.K):=by
 intro pins s σ H x y v u Q I rx ry h;obtain ⟨a,b,xs,ys,rfl,rfl,ha,hb,hx,hz,q1,q2⟩:=h;cases rx
 cases ry
 obtain ⟨its,r1,p1,_⟩:=I.tuple ha;obtain ⟨its2,r2,p2,_⟩:=I.tuple hb;refine HT.Vs p1 p2 (λz=>hx (r1.yc.mp z)) (λz=>⟨.ref a,H,I,rfl,q1 (r2.yc.mp z)⟩) (λz=>?_) (by rw[←r1.length,←r2.length];exact hz);refine ⟨.ref s.heap.objs.size,_,I.laid (t':=s.toks) (o:=.tup (xs++ys)) (λb ob q=>aE _ q) (aa3 _) ?_,rfl,q2 (λw=>z (r2.yc.mpr w)) _ `au⟩;exact ⟨by rw[aa1];exact hz,_,r1.append r2,⟨_,aJ _ rfl,rfl,_,rfl,rfl⟩⟩
end
noncomputable def ixN (n:Nat) (i:Int):Option Nat:=if 0≤i then (if i < n then aA i.toNat else none) else if -(n:Int)≤i then aA (i+n).toNat else none
noncomputable def atI {α:Type} (xs:List α) (i:Int):Option α:=(ixN xs.length i).bind λj=>xs[j]?
theorem C9 {n:Nat} {i:Int} {j:Nat} (h:ixN n i=aA j):mQ i n=aA j∧j < n∧-(n:Int)≤i∧i < n:=by
 unfold ixN at h;by_cases h0:0≤i
 ·rw[if_pos h0] at h;by_cases h1:i < n
  ·rw[if_pos h1] at h;have e:i.toNat=j:=aaa h;exact ⟨by rw[nI h0 h1,e],by omega,by omega,h1⟩
  ·rw[if_neg h1] at h;cases h
 ·rw[if_neg h0] at h;by_cases h1:-(n:Int)≤i
  ·rw[if_pos h1] at h;have e:(i+n).toNat=j:=aaa h;exact ⟨by rw[mR (by omega) h1,e],by omega,h1,by omega⟩
  ·rw[if_neg h1] at h;cases h
theorem C8 {α:Type} {xs:List α} {i:Int} {v:α} (h:atI xs i=aA v):∃j,mQ i xs.length=aA j∧xs[j]?=aA v∧j < xs.length∧-(xs.length:Int)≤i∧i < xs.length:=by
 unfold atI at h;cases e:ixN xs.length i with
 | none=>rw[e] at h;cases h
 | some j=>
  rw[e] at h;obtain ⟨h1,h2,h3,h4⟩:=C9 e;exact ⟨j,h1,h,h2,h3,h4⟩
theorem bb {α:Type} {xs:List α} {j:Nat} {v:α} (h:xs[j]?=aA v):atI xs (j:Int)=aA v:=by
 have hj:j < xs.length:=(List.getElem?_eq_some_iff.mp h).1;have e:ixN xs.length (j:Int)=aA j:=by
  unfold ixN;rw[if_pos (by omega),if_pos (by omega)];simp
 unfold atI;rw[e];exact h
def Tn (b:Expr):Prop:=∀o i,jY b false o i=operate [o,i] (fB o i)
def IxR (X:Cx) (r:R2):Prop:=
 ∀(value slice:Expr) (pins:List (Addr×Obj)) (s:aF) (σ:St) (H:Hp) (x y:V) (v u:aD) (Q:VK),Inv X pins σ H s→RelV x v→RelV y u→r x y H Q→
  jY slice false v u=operate [v,u] (fB v u)→aI `d X.A (iI value slice v u) `ag X.xe s
def MtR (X:Cx) (id:String) (r:V→List V→Hp→VK→Prop):Prop:=
 ∀(pins:List (Addr×Obj)) (s:aF) (σ:St) (H:Hp) (x:V) (xs:List V) (v:aD) (us:List aD) (Q:VK),Inv X pins σ H s→RelV x v→Vals xs us→r x xs H Q→
  aI `d X.A (call `b7 (v::us)) `ag X.xe s
section
variable {X:Cx} {a b:Expr} {ta tb:TE} {pos:Pos}
theorem pe_ix {r:R2} (hr:IxR X r) (ha:PE X a ta) (hb:PE X b tb) (hs:Tn b):PE X (.Subscript a b pos) `eP:=by
 intro pins s σ H Q I h;exact lL (binT ha hb I h λv u s2 x y H2 I2 rx ry q=>hr a b pins s2 σ H2 x y v u Q I2 rx ry q (hs _ _))
def rIxL (K:aG):R2:=λx y H Q=>∃p xs i v,x=.ref p∧y=.int i∧SqL K H p xs∧atI xs i=aA v∧Q v H
def rIxT (K:aG):R2:=λx y H Q=>∃p xs i v,x=.ref p∧y=.int i∧SqT K H p xs∧atI xs i=aA v∧Q v H
def rIxS:R2:=λx y H Q=>∃z i c,x=.str z∧y=.int i∧z.length≤sizeLine∧atI z.cps.toList i=aA c∧Q (.str ⟨#[c]⟩) H
theorem J1:IxR X (rIxL X.K):=by
 intro value slice pins s σ H x y v u Q I rx ry h hs;obtain ⟨p,xs,i,z,rfl,rfl,hq,he,q⟩:=h;cases rx
 obtain ⟨t,rfl⟩:=ry;obtain ⟨its,r,pl,hz⟩:=I.list hq;obtain ⟨j,h1,h2,h3,h4,h5⟩:=C8 he;obtain ⟨w,ew,rw'⟩:=r.get h2;have hl:=r.length;have hn:=zd;have fin:EP X pins σ Q w s:=⟨z,H,I,rw',q⟩;by_cases h0:0≤i
 ·have hj:i.toNat=j:=by
   rw[nI h0 h5] at h1;exact aaa h1
  exact item_listR pl.isList h0 (by omega) (by rw[hj];simpa using ew) fin hs
 ·have hj:(i+(its.toArray.size:Int)).toNat=j:=by
   rw[mR (by omega) h4] at h1;rw[aae,←hl];exact aaa h1
  exact jZ (x:=w) pl.isList.typeIs slot_list_getitem.lookup
   (wpAny_getItem_list_neg (Q:=λr s'=>r=w∧EP X pins σ Q r s') pl.isList (by omega) (by rw[aae] <;> omega) (by omega) (by rw[hj];simpa using ew) ⟨rfl,fin⟩) hs
theorem Ol:IxR X (rIxT X.K):=by
 intro value slice pins s σ H x y v u Q I rx ry h hs;obtain ⟨p,xs,i,z,rfl,rfl,hq,he,q⟩:=h;cases rx
 obtain ⟨t,rfl⟩:=ry;obtain ⟨its,r,pl,hz⟩:=I.tuple hq;obtain ⟨j,h1,h2,h3,h4,h5⟩:=C8 he;obtain ⟨w,ew,rw'⟩:=r.get h2;have hl:=r.length;have hn:=zd;have fin:EP X pins σ Q w s:=⟨z,H,I,rw',q⟩;exact jZ (x:=w) pl.typeIs slot_tuple_getitem.lookup
  (getItem_tuple (j:=j) (Q:=λr s'=>r=w∧EP X pins σ Q r s') pl (by omega) (by omega) (by rw[aae,←hl];exact h1) (by simpa using ew) ⟨rfl,fin⟩) hs
theorem Pt:IxR X rIxS:=by
 intro value slice pins s σ H x y v u Q I rx ry h hs;obtain ⟨z,i,c,rfl,rfl,hz,he,q⟩:=h;obtain ⟨t,rfl⟩:=rx;obtain ⟨t',rfl⟩:=ry;obtain ⟨j,h1,h2,h3,h4,h5⟩:=C8 he;have hl:z.cps.toList.length=z.length:=by simp[Str.length]
 rw[hl] at h1 h4 h5;have hn:=zd;exact tail_any (typeIs_str s z t) slot_str_getitem.lookup (getItem_str (c:=c) (by
  have e1:decide (i < -(2 ^ 63:Int))=false:=decide_eq_false (by omega);have e2:decide (i≥2 ^ 63)=false:=decide_eq_false (by omega);rw[e1,e2,ady]) (by rw[h1];simpa using h2) ⟨.str ⟨#[c]⟩,H,I.tok _,⟨_,rfl⟩,q⟩) hs
theorem I0 (its:List aD) (n j:Nat) (u:aD):cK (·.setIfInBounds j u) { cls:=.type "list",data:=.seq its.toArray n }={ cls:=.type "list",data:=.seq (its.set j u).toArray n }:=by
 simp[cK]
theorem Inv.lst {pins:List (Addr×Obj)} {σ:St} {H:Hp} {s:aF} {p:Addr} {xs:List V} (I:Inv X pins σ H s) (h:H p=aA `ab):
  ∃(its:List aD) (n:Nat),Vals xs its∧s.heap.get? p=aA { cls:=.type "list",data:=.seq its.toArray n }∧xs.length≤sizeLine:=by
 obtain ⟨z,its,n,r,e⟩:=I.hok p _ h;exact ⟨its,n,r,e,z⟩
theorem Inv.lstUpd {pins:List (Addr×Obj)} {σ:St} {H:Hp} {s:aF} {p:Addr} {xs ys:List V} {its its':List aD} {n n':Nat} {f:Obj→Obj} (I:Inv X pins σ H s) (h:H p=aA `ab)
  (ho:s.heap.get? p=aA { cls:=.type "list",data:=.seq its.toArray n }) (hf:f { cls:=.type "list",data:=.seq its.toArray n }={ cls:=.type "list",data:=.seq its'.toArray n' }) (r:Vals ys its') (hz:ys.length≤sizeLine) (t:Nat):
  Inv X pins σ (upd H p `aS) { s with heap:=s.heap.update p f,toks:=t }:=by
 have e:(s.heap.update p f).get? p=aA { cls:=.type "list",data:=.seq its'.toArray n' }:=by
  rw[cL f ho (by rw[hf] <;> rfl),hf]
 refine I.write (x:=p) (e:=p) (by rw[h];trivial) `W (λb u hb q=>(cF _ _ (cT hb)).trans q) ⟨_,e⟩ ?_;exact ⟨hz,its',n',r,e⟩
def Qw:V→V→V→Hp→(Hp→Prop)→Prop:=λo i v H Q=>∃p xs k j,o=.ref p∧i=.int k∧H p=aA `ab∧ixN xs.length k=aA j∧Q (upd H p (.lst (xs.set j v)))
theorem set_list:PSet X Qw:=by
 intro pins s σ H o i v ov iv u Q I ro ri rv h;obtain ⟨p,xs,k,j,rfl,rfl,hp,hj,q⟩:=h;cases ro
 obtain ⟨t,rfl⟩:=ri;obtain ⟨its,n,r,ho,hz⟩:=I.lst hp;obtain ⟨h1,h2,h3,h4⟩:=C9 hj;have hl:=r.length;have hn:=zd;have I':Inv X pins σ (upd H p (.lst (xs.set j v))) { s with heap:=s.heap.update p (cK (·.setIfInBounds j u)) }:=
  I.lstUpd hp ho (I0 its n j u) (r.set rv j) (by rw[List.length_set];exact hz) s.toks
 by_cases h0:0≤k
 ·have hk:k.toNat=j:=by
   rw[nI h0 h4] at h1;exact aaa h1
  exact PySem.W.ki_setAt ho h0 (by omega) (by rw[aae,←hl];exact h4) (by rw[hk];exact ⟨_,I',q⟩)
 ·have hk:(k+(its.toArray.size:Int)).toNat=j:=by
   rw[mR (by omega) h3] at h1;rw[aae,←hl];exact aaa h1
  exact PySem.W.ki_setBack ho (by omega) (by rw[aae,←hl];exact h3) (by omega) (by rw[hk];exact ⟨_,I',q⟩)
theorem Dw (lo hi:Option Int) (n:Nat):(fN lo hi none n).1=((HT.sIx n 0 lo:Nat):Int)∧(fN lo hi none n).2.1=((HT.sIx n n hi:Nat):Int)∧(fN lo hi none n).2.2=1:=by
 refine ⟨?_,?_,rfl⟩
 ·cases lo with
  | none=>simp[fN,HT.sIx]
  | some i=>
   simp only[fN,HT.sIx,ae2,show (1:Int) > 0 by decide,if_true];by_cases h:i < 0
   ·simp only[h,if_true] <;> omega
   ·simp only[h,if_false] <;> omega
 ·cases hi with
  | none=>simp[fN,HT.sIx]
  | some i=>
   simp only[fN,HT.sIx,ae2,show (1:Int) > 0 by decide,if_true];by_cases h:i < 0
   ·simp only[h,if_true] <;> omega
   ·simp only[h,if_false] <;> omega
theorem Aw (its:List aD) (lo hi:Option Int):slicePick its.toArray lo hi none=((its.drop (HT.sIx its.length 0 lo)).take (HT.sIx its.length its.length hi - HT.sIx its.length 0 lo)).toArray:=by
 obtain ⟨h1,h2,h3⟩:=Dw lo hi its.toArray.size;unfold slicePick;rw[h1,h2,h3];simp only[sliceRange_one,pick_run,aae] <;> rfl
def rSlL (K:aG):V→Option Int→Option Int→Hp→VK→Prop:=λx lo hi H Q=>∃a xs,x=.ref a∧SqL K H a xs∧∀p,H p=none→Q `aW (upd H p (.lst `dK))
theorem Lh:SlR X (rSlL X.K):=by
 intro pins s σ H x v vl vu lo hi sl Q I rx hs pl pu h;obtain ⟨a,xs,rfl,hx,q⟩:=h;cases rx
 obtain ⟨its,r,ht,hz⟩:=I.list hx;have hlen:=r.length;refine ⟨"list",_,slot_list_getitem.lookup,ht.isList.typeIs,?_⟩;refine wpAny_getItem_list_slice ht.isList hs pl pu .none `c ?_ (by rw[aae] <;> omega);rw[Aw,←hlen];refine ⟨.ref s.heap.objs.size,_,I.laid (t':=s.toks) (o:=.lst `dK) (λb ob q=>aE _ q) (aa3 _) ?_,rfl,q _ `au⟩;exact ⟨ab4 (wq xs lo hi) hz,_,0,(r.drop `e3).take (HT.sIx xs.length xs.length hi - HT.sIx xs.length 0 lo),aJ _ rfl⟩
noncomputable def kh:V→Bool
 | .non=>true
 | .bl _=>true
 | .int _=>true
 | .str _=>true
 | _=>false
noncomputable def eqV:V→V→Bool
 | .non,.non=>true
 | .bl a,.bl b=>a==b
 | .bl a,.int b=>(if a then 1 else 0)==b
 | .int a,.bl b=>a==(if b then 1 else 0)
 | .int a,.int b=>a==b
 | .str a,.str b=>a==b
 | _,_=>false
theorem eqAt_V {A:bJ} {s:aF} {y x:V} {u v:aD} (ry:RelV y u) (rx:RelV x v) (fy:kh y=true) (fx:kh x=true):SeqAt.EqAt A s u v (eqV y x):=by
 cases y with
 | non=>
  cases ry
  cases x with
  | non=>cases rx;exact SeqAt.EqAt.same _
  | bl b=>cases rx;exact SeqAt.EqAt.none_bool b
  | int b=>obtain ⟨t,rfl⟩:=rx;exact SeqAt.EqAt.none_int b t
  | str b=>obtain ⟨t,rfl⟩:=rx;exact SeqAt.EqAt.none_str b t
  | _=>exact absurd (show false=true from fx) aaq
 | bl a=>
  cases ry
  cases x with
  | non=>cases rx;exact SeqAt.EqAt.bool_none a
  | bl b=>cases rx;exact SeqAt.EqAt.bool_bool a b
  | int b=>obtain ⟨t,rfl⟩:=rx;exact SeqAt.EqAt.bool_int a b t
  | str b=>obtain ⟨t,rfl⟩:=rx;exact SeqAt.EqAt.bool_str a b t
  | _=>exact absurd (show false=true from fx) aaq
 | int a=>
  obtain ⟨t',rfl⟩:=ry;cases x with
  | non=>cases rx;exact SeqAt.EqAt.int_none a t'
  | bl b=>cases rx;exact SeqAt.EqAt.int_bool a t' b
  | int b=>obtain ⟨t,rfl⟩:=rx;exact SeqAt.EqAt.int_int a t' b t
  | str b=>obtain ⟨t,rfl⟩:=rx;exact mH a t' b t
  | _=>exact absurd (show false=true from fx) aaq
 | str a=>
  obtain ⟨t',rfl⟩:=ry;cases x with
  | non=>cases rx;exact SeqAt.EqAt.str_none a t'
  | bl b=>cases rx;exact SeqAt.EqAt.str_bool a t' b
  | int b=>obtain ⟨t,rfl⟩:=rx;exact mJ a t' b t
  | str b=>obtain ⟨t,rfl⟩:=rx;exact SeqAt.EqAt.str_str a t' b t
  | _=>exact absurd (show false=true from fx) aaq
 | _=>exact absurd (show false=true from fy) aaq
noncomputable def eqU (x:V) (u:aD):Bool:=match u with
 | .none=>eqV .non x
 | .bool b=>eqV (.bl b) x
 | .int i _=>eqV `cj x
 | .str z _=>eqV `J x
 | _=>false
theorem Px {x y:V} {u:aD} (r:RelV y u) (f:kh y=true):eqU x u=eqV y x:=by
 cases y with
 | non=>cases r;rfl
 | bl b=>cases r;rfl
 | int i=>obtain ⟨t,rfl⟩:=r;rfl
 | str z=>obtain ⟨t,rfl⟩:=r;rfl
 | _=>exact absurd (show false=true from f) aaq
theorem uq {x:V}:∀{xs:List V} {us:List aD},Vals xs us→xs.all kh=true→us.any (eqU x)=xs.any λy=>eqV y x
 | _,_,.nil,_=>rfl
 | y::xs,u::us,.cons r t,f=>by
  rw[List.all_cons,ac1] at f;rw[adg,adg,Px r f.1,uq t f.2]
theorem nk {A:bJ} {s:aF} {x:V} {v:aD} (rx:RelV x v) (fx:kh x=true):∀{xs:List V} {us:List aD},Vals xs us→xs.all kh=true→∀u∈us,SeqAt.EqAt A s u v (eqU x u)
 | _,_,.nil,_=>λu hu=>by cases hu
 | y::xs,u::us,.cons r t,f=>λu' hu=>by
  rw[List.all_cons,ac1] at f;rcases List.mem_cons.mp hu with rfl | hu
  ·rw[Px r f.1];exact eqAt_V r rx f.1 fx
  ·exact nk rx fx t f.2 u' hu
noncomputable def inV (x:V) (xs:List V):Bool:=xs.any λy=>eqV y x
def rIn (K:aG) (neg:Bool):R2:=λx y H Q=>∃p xs,y=.ref p∧(SqL K H p xs∨SqT K H p xs)∧kh x=true∧xs.all kh=true∧Q (.bl (if neg then !inV x xs else inV x xs)) H
theorem ja:OpR X (cG .In) (rIn X.K false):=by
 intro pins s σ H x y v u Q I rx ry h;obtain ⟨p,xs,rfl,hq,fx,fs,q⟩:=h;cases ry
 rcases hq with hq | hq
 ·obtain ⟨its,r,pl,hz⟩:=I.list hq;refine SeqAt.in_listAt (eqU x) pl.isList (λw hw=>nk rx fx r fs w (by simpa using hw)) ⟨.bl _,H,I,rfl,?_⟩;rw[show its.toArray.any (eqU x)=its.any (eqU x) by simp,uq r fs];exact q
 ·obtain ⟨its,r,pl,hz⟩:=I.tuple hq;refine SeqAt.in_tupleAt (eqU x) pl (λw hw=>nk rx fx r fs w (by simpa using hw)) ⟨.bl _,H,I,rfl,?_⟩;rw[show its.toArray.any (eqU x)=its.any (eqU x) by simp,uq r fs];exact q
theorem uz:OpR X (cG .NotIn) (rIn X.K true):=by
 intro pins s σ H x y v u Q I rx ry h;obtain ⟨p,xs,rfl,hq,fx,fs,q⟩:=h;cases ry
 rcases hq with hq | hq
 ·obtain ⟨its,r,pl,hz⟩:=I.list hq;refine SeqAt.notIn_listAt (eqU x) pl.isList (λw hw=>nk rx fx r fs w (by simpa using hw)) ⟨.bl _,H,I,rfl,?_⟩;rw[show its.toArray.any (eqU x)=its.any (eqU x) by simp,uq r fs];exact q
 ·obtain ⟨its,r,pl,hz⟩:=I.tuple hq;refine SeqAt.notIn_tupleAt (eqU x) pl (λw hw=>nk rx fx r fs w (by simpa using hw)) ⟨.bl _,H,I,rfl,?_⟩;rw[show its.toArray.any (eqU x)=its.any (eqU x) by simp,uq r fs];exact q
theorem tm:fo X `cN (λxs H Q=>∃p ys,xs=[.ref p]∧(SqL X.K H p ys∨SqT X.K H p ys)∧Q (.int ys.length) H):=by
 intro pins s σ H xs us Q I r h;obtain ⟨p,ys,rfl,hq,q⟩:=h;obtain ⟨u,rfl,rx⟩:=vals1 r;cases rx
 have hn:=zd;rcases hq with hq | hq
 ·obtain ⟨its,r',pl,hz⟩:=I.list hq;have hlen:=r'.length;exact Calls.call_len_list pl.isList (by simp only[aae] <;> omega) ⟨.int ys.length,H,I.tok _,⟨s.toks+1,by rw[aae,hlen]⟩,q⟩
 ·obtain ⟨its,r',pl,hz⟩:=I.tuple hq;have hlen:=r'.length;exact len_tuple pl (by simp only[aae] <;> omega) ⟨.int ys.length,H,I.tok _,⟨s.toks+1,by rw[aae,hlen]⟩,q⟩
theorem qm:fo X `dV (λxs H Q=>∃p ys,xs=[.ref p]∧((SqL X.K H p ys∧∀l,H l=none→Q `B (upd H l `dX))∨(SqT X.K H p ys∧Q `aW H))):=by
 intro pins s σ H xs us Q I r h;obtain ⟨p,ys,rfl,h⟩:=h;obtain ⟨u,rfl,rx⟩:=vals1 r;cases rx
 rcases h with ⟨hq,q⟩ | ⟨hq,q⟩
 ·obtain ⟨its,r',pl,hz⟩:=I.list hq;have hlen:=r'.length;refine call_tuple_list pl.isList (λh' kp=>?_) (by simp only[aae] <;> omega);have I1:Inv X pins σ H { s with heap:=h' }:=I.kept (t':=s.toks) kp;have I2:Inv X pins σ (upd H h'.objs.size `dX) { s with heap:=h'.push { cls:=.type "tuple",data:=.seq its.toArray } }:=
   I1.laid (t':=s.toks) (λb o e=>aE _ e) (aa3 _) (show cj X.prog X.w _ _ _ `dX from ⟨hz,its,r',⟨_,aJ _ rfl,rfl,_,rfl,rfl⟩⟩)
  exact ⟨.ref h'.objs.size,_,I2,rfl,q _ `aL⟩
 ·obtain ⟨its,r',pl,hz⟩:=I.tuple hq;exact call_tuple_same pl ⟨.ref p,H,I,rfl,q⟩
def tyV (K:aG) (T:String) (x:V) (H:Hp):Prop:=match x with
 | .str _=>T="str"
 | .int _=>T="int"
 | .ref p=>(T="list"∧∃xs,SqL K H p xs)∨(T="tuple"∧((∃o,K.lookup p=aA o∧o.cls=.type "tuple"∧o.dict=none)∨∃xs,H p=aA `aA))∨
   (T="dict"∧((∃kvs,H p=aA `aU)∨∃kvs,H p=aA `ca))∨(T="set"∧∃S n,H p=aA (.set S n))
 | _=>False
theorem O5 {pins:List (Addr×Obj)} {σ:St} {H:Hp} {s:aF} {T:String} {x:V} {v:aD} (I:Inv X pins σ H s) (r:RelV x v) (ty:tyV X.K T x H):
  s.TypeIs v T∧∀a,v=.ref a→∃ob,s.heap.get? a=aA ob∧ob.dict=none:=by
 cases x with
 | str z=>
  obtain ⟨t,rfl⟩:=r;cases (show T="str" from ty)
  exact ⟨typeIs_str s z t,λ_ e=>nomatch e⟩
 | int i=>
  obtain ⟨t,rfl⟩:=r;cases (show T="int" from ty)
  exact ⟨typeIs_int s i t,λ_ e=>nomatch e⟩
 | ref p=>
  cases r
  rcases ty with ⟨rfl,xs,hq⟩ | ⟨rfl,⟨o,hk,hc,hd⟩ | ⟨xs,hx⟩⟩ | ⟨rfl,hk⟩ | ⟨rfl,S,n,hk⟩
  ·obtain ⟨its,_,pl,_⟩:=I.list hq;refine ⟨pl.isList.typeIs,λa e=>?_⟩;cases e
   obtain ⟨o,n,e,c,hd,_⟩:=pl;exact ⟨o,e,hd⟩
  ·refine ⟨⟨o,I.kIn p o hk,hc⟩,λa e=>?_⟩;cases e
   exact ⟨o,I.kIn _ o hk,hd⟩
  ·obtain ⟨_,its,_,o,h1,h2,n,_,h3⟩:=I.hok p _ hx;refine ⟨⟨o,h1,h2⟩,λa e=>?_⟩;cases e
   exact ⟨o,h1,h3⟩
  ·have z:∃o,s.heap.get? p=aA o∧o.ExactDict:=by
    rcases hk with ⟨kvs,hk⟩ | ⟨kvs,hk⟩
    ·obtain ⟨_,_,_,_,o,_,_,e,ex,_⟩:=I.hok p _ hk;exact ⟨o,e,ex⟩
    ·obtain ⟨_,_,_,_,o,_,_,e,ex,_⟩:=I.hok p _ hk;exact ⟨o,e,ex⟩
   obtain ⟨o,e,ex⟩:=z;refine ⟨⟨o,e,ex.1⟩,λa e2=>?_⟩;cases e2
   exact ⟨o,e,ex.2.1⟩
  ·obtain ⟨o,_,_,_,e,ex,_⟩:=I.hok p _ hk;refine ⟨⟨o,e,ex.1⟩,λa e2=>?_⟩;cases e2
   exact ⟨o,e,ex.2.1⟩
 | _=>exact False.elim ty
def tBM0 (K:aG) (T:String) (r:V→List V→Hp→VK→Prop) (to:TE):TE:=λσ H Q=>to σ H λx H1=>tyV K T x H1∧r x [] H1 Q
def tBM (K:aG) (T:String) (r:V→List V→Hp→VK→Prop) (to:TE) (t:TA):TE:=λσ H Q=>to σ H λx H1=>tyV K T x H1∧t σ H1 λxs H2=>r x xs H2 Q
variable {o e:Expr} {es:List Expr} {to:TE} {t:TA} {name:Str} {apos cpos:Pos} {T id:String} {r:V→List V→Hp→VK→Prop}
theorem pe_bm0 (pa:nR T) (slot:Slot T name id) (hty:typeOf `b7=pure `dW) (hm:MtR X id r) (ho:PE X o to)
  (hbase:iJ o name X.env `ek=eval o X.env:=by rfl) (hline:(apos.endLine==cpos.line)=true:=by rfl):PE X (.Call (.Attribute o name apos) [] [] cpos) (tBM0 X.K T r to):=by
 intro pins s σ H Q I h;refine wpAny_Call_method0_late hbase hline (thn `di λv s1 ⟨x,H1,I1,r1,ty,q1⟩=>?_);obtain ⟨h1,h2⟩:=O5 I1 r1 ty;exact ⟨T,id,pa,slot,hty,h1,h2,gJ rfl (PySem.evalArgs_none (hm pins s1 σ H1 x [] v [] Q I1 r1 .nil q1))⟩
theorem pe_bm (pa:nR T) (slot:Slot T name id) (hty:typeOf `b7=pure `dW) (hm:MtR X id r) (ho:PE X o to) (ha:PA X (e::es) t)
  (hbase:iJ o name X.env `ek=eval o X.env:=by rfl)
  (hfew:((cJ cpos (bB (e::es) X.env)).all (λx=>!x.1)&&(gM cpos (eU [] X.env)).all (λx=>x.1.isSome)
   &&decide ((e::es).length+([]:List iV).length+(if ([]:List iV).isEmpty then 0 else 1) < 30))=true:=by rfl)
  (hline:(apos.endLine==cpos.line)=true:=by rfl) (hs:bB (e::es) X.env=(false,eval e X.env)::bB es X.env:=by rfl) (hplain:(cJ cpos `cs).any (·.1)=false:=by rfl):
  PE X `eg (tBM X.K T r to t):=by
 intro pins s σ H Q I h;refine wpAny_Call_method_late hbase hfew hline rfl (thn `di λv s1 ⟨x,H1,I1,r1,ty,q1⟩=>?_);obtain ⟨h1,h2⟩:=O5 I1 r1 ty;refine ⟨T,id,pa,slot,hty,h1,h2,?_⟩;have hA:=ha cpos pins s1 σ H1 _ I1 q1;rw[hs] at hA ⊢;refine gJ (by show (false||(cJ cpos (bB es X.env)).any (·.1))=false;rw[hplain] <;> rfl) (lM ?_);exact thn hA λus s2 ⟨vs,H2,I2,r2,q2⟩=>hm pins s2 σ H2 x vs v us Q I2 r1 r2 q2
end
def MtM (X:Cx) (id:String) (r:V→List V→Hp→VK→Prop):Prop:=
 ∀(pins:List (Addr×Obj)) (s:aF) (σ:St) (H:Hp) (x:V) (xs:List V) (v:aD) (us:List aD) (Q:VK),Inv X pins σ H s→RelV x v→Vals xs us→r x xs H Q→
  aI `d X.A (call `b7 (v::us)) `ag X.xe s
theorem Vals.one:∀{x:V} {us:List aD},Vals [x] us→∃u,us=[u]∧RelV x u
 | _,_,.cons r .nil=>⟨_,rfl,r⟩
theorem Vals.zero:∀{us:List aD},Vals [] us→us=[]
 | _,.nil=>rfl
theorem Vals.dropLast {xs:List V} {us:List aD} (h:Vals xs us):Vals xs.dropLast us.dropLast:=by
 induction h with
 | nil=>exact .nil
 | cons r t ih=>
  cases t with
  | nil=>exact .nil
  | cons q t'=>exact .cons r ih
theorem Vals.eraseIdx:∀{xs:List V} {us:List aD} (i:Nat),Vals xs us→Vals (xs.eraseIdx i) (us.eraseIdx i)
 | _,_,_,.nil=>.nil
 | _,_,0,.cons _ t=>t
 | _,_,i+1,.cons r t=>.cons r (Vals.eraseIdx i t)
theorem Vals.reverse {xs:List V} {us:List aD} (h:Vals xs us):Vals xs.reverse us.reverse:=by
 induction h with
 | nil=>exact .nil
 | cons r t ih=>rw[abf,abf];exact Vals.append ih (.cons r .nil)
theorem Ju {α:Type} (l:List α):l.eraseIdx (l.length - 1)=l.dropLast:=by
 induction l with
 | nil=>rfl
 | cons a r ih=>
  cases r with
  | nil=>rfl
  | cons b r=>
   have e:(a::b::r).length - 1=((b::r).length - 1)+1:=by
    have h1:(a::b::r).length=r.length+2:=rfl;have h2:(b::r).length=r.length+1:=rfl;omega
   rw[e,List.eraseIdx_cons_succ,ih];all_goals rfl
theorem Bu {α:Type}:∀(l:List α) (i:Nat),(l.eraseIdx i).length≤l.length
 | [],_=>aa3 _
 | _::_,0=>abe _
 | _::r,i+1=>Nat.succ_le_succ (Bu r i)
section
variable {X:Cx} {pins:List (Addr×Obj)} {σ:St} {H:Hp} {s:aF} {l b:Addr} {xs ys zs:List V}
theorem Inv.lset {its its':List aD} {n:Nat} {f:Array aD→Array aD} {t':Nat} (I:Inv X pins σ H s) (hH:H l=aA `ab)
  (e:s.heap.get? l=aA { cls:=.type "list",data:=.seq its.toArray n }) (hf:f its.toArray=its'.toArray) (hv:Vals ys its') (hz:ys.length≤sizeLine):
  Inv X pins σ (upd H l `aS) { s with heap:=s.heap.update l (cK f),toks:=t' }:=by
 have q:=PySem.IsL.update e f;rw[hf] at q;refine I.write (x:=l) (e:=l) (by rw[hH];exact trivial) `W (λb' u hb hu=>(cF s.heap (cK f) (cT hb)).trans hu) ⟨_,q⟩ ?_;exact ⟨hz,its',_,hv,q⟩
theorem Inv.lnew {its:List aD} {t':Nat} (I:Inv X pins σ H s) (hv:Vals ys its) (hz:ys.length≤sizeLine):
  Inv X pins σ (upd H s.heap.objs.size `aS) { s with heap:=s.heap.push { cls:=.type "list",data:=.seq its.toArray },toks:=t' }:=
 I.laid (λ_ _ q=>aE _ q) (aa3 _) ⟨hz,its,0,hv,aJ _ rfl⟩
theorem Inv.fresh (I:Inv X pins σ H s):H s.heap.objs.size=none:=I.hok.fresh (aa3 _)
theorem Inv.Hk (I:Inv X pins σ H s) (hH:H l=aA `ab):xs.length≤sizeLine∧∃(its:List aD) (n:Nat),Vals xs its∧xs.length=its.length∧s.heap.get? l=aA { cls:=.type "list",data:=.seq its.toArray n }:=by
 obtain ⟨z,its,n,r,e⟩:=I.hok l _ hH;exact ⟨z,its,n,r,r.length,e⟩
theorem Q3 {n:Nat} (h:n≤sizeLine):fU n=false:=by
 unfold fU;exact decide_eq_false (by omega)
end
section
variable {X:Cx}
def ou:V→List V→Hp→VK→Prop:=λx vs H Q=>∃l xs y,x=.ref l∧vs=[y]∧H l=aA `ab∧xs.length < sizeLine∧Q .non (upd H l (.lst (xs++[y])))
theorem vm:MtM X "list.append" ou:=by
 intro pins s σ H x vs v us Q I rx rv h;obtain ⟨l,xs,y,rfl,rfl,hH,hz,q⟩:=h;cases rx
 obtain ⟨u,rfl,ru⟩:=rv.one;obtain ⟨z,its,n,r,hl,e⟩:=I.Hk hH;refine gT F.slot_list_append ⟨_,e,rfl⟩ F.entry_list_append (F.args_list_append_2 _ _) (PySem.list_append l its.toArray n u (by rw[aae];omega)) ⟨e,?_⟩;refine ⟨.non,_,I.lset (its':=its++[u]) hH e `c (r.append (.cons ru .nil)) ?_,rfl,q⟩;rw[aa1,aa4];omega
def Ul:V→List V→Hp→VK→Prop:=λx vs H Q=>∃l b xs zs,x=.ref l∧vs=[.ref b]∧H l=aA `ab∧H b=aA (.lst zs)∧xs.length+zs.length≤sizeLine∧Q .non (upd H l (.lst (xs++zs)))
theorem vq:MtM X "list.extend" Ul:=by
 intro pins s σ H x vs v us Q I rx rv h;obtain ⟨l,b,xs,zs,rfl,rfl,hH,hB,hz,q⟩:=h;cases rx
 obtain ⟨u,rfl,ru⟩:=rv.one;cases ru
 obtain ⟨z,its,n,r,hl,e⟩:=I.Hk hH;obtain ⟨z2,its2,n2,r2,hl2,e2⟩:=I.Hk hB;have hsz:its.toArray.size+its2.toArray.size≤sizeLine:=by rw[aae,aae];omega
 have hlong:¬(!its.toArray.isEmpty&&fU (its.toArray.size+its2.toArray.size))=true:=by
  rw[Q3 hsz,aeh];exact aaq
 refine gT F.slot_list_extend ⟨_,e,rfl⟩ F.entry_list_extend (F.args_list_extend_2 _ _)
  (AutoSeq1.list_extend_list_list_0 l its.toArray n b its2.toArray n2 hlong (by rw[aae];omega) (by omega)) ⟨e,e2,?_⟩
 refine ⟨.non,_,I.lset (its':=its++its2) hH e `c (r.append r2) ?_,rfl,q⟩;rw[aa1];omega
def rPop:V→List V→Hp→VK→Prop:=λx vs H Q=>∃l xs y,x=.ref l∧vs=[]∧H l=aA `ab∧xs[xs.length - 1]?=aA y∧Q y (upd H l (.lst xs.dropLast))
theorem vp:MtM X "list.pop" rPop:=by
 intro pins s σ H x vs v us Q I rx rv h;obtain ⟨l,xs,y,rfl,rfl,hH,hy,q⟩:=h;cases rx
 have hus:=rv.zero;subst hus;obtain ⟨z,its,n,r,hl,e⟩:=I.Hk hH;obtain ⟨u,hu,ru⟩:=r.get hy;have hy':its.toArray[its.toArray.size - 1]?=aA u:=by
  show its.toArray[its.length - 1]?=aA u
  rw[←acd,←hl];exact hu
 refine gT F.slot_list_pop ⟨_,e,rfl⟩ F.entry_list_pop (F.args_list_pop_1 _) (MeetsSeq.list_pop_last l its.toArray n u hy' (by rw[aae];omega)) ⟨e,?_⟩;refine ⟨y,_,I.lset (its':=its.dropLast) hH e ?_ r.dropLast ?_,ru,q⟩
 ·show its.toArray.eraseIdxIfInBounds (its.toArray.size - 1)=its.dropLast.toArray
  rw[aae,adl,Ju]
 ·rw[aek];omega
def Qz:V→List V→Hp→VK→Prop:=λx vs H Q=>∃l xs i k y,x=.ref l∧vs=[.int i]∧H l=aA `ab∧-(2 ^ 63)≤i∧i < 2 ^ 63∧mQ i xs.length=aA k∧xs[k]?=aA y∧Q y (upd H l (.lst (xs.eraseIdx k)))
theorem Pb:MtM X "list.pop" Qz:=by
 intro pins s σ H x vs v us Q I rx rv h;obtain ⟨l,xs,i,k,y,rfl,rfl,hH,h1,h2,hk,hy,q⟩:=h;cases rx
 obtain ⟨u,rfl,ru⟩:=rv.one;obtain ⟨t,rfl⟩:=ru;obtain ⟨z,its,n,r,hl,e⟩:=I.Hk hH;obtain ⟨w,hw,rw'⟩:=r.get hy;refine gT F.slot_list_pop ⟨_,e,rfl⟩ F.entry_list_pop (F.args_list_pop_2 _ _)
  (MeetsSeq.list_pop_at l its.toArray n i t k w (fitsIndex_both h1 h2) (by rw[aae,←hl];exact hk) (by rw[←acd];exact hw) (by rw[aae];omega)) ⟨e,?_⟩
 refine ⟨y,_,I.lset (its':=its.eraseIdx k) hH e ?_ (r.eraseIdx k) ?_,rw',q⟩
 ·show its.toArray.eraseIdxIfInBounds k=(its.eraseIdx k).toArray
  rw[adl]
 ·have:=Bu xs k;omega
def rCat:R2:=λx y H Q=>∃l b xs zs,x=.ref l∧y=.ref b∧H l=aA `ab∧H b=aA (.lst zs)∧xs.length+zs.length≤sizeLine∧∀p,H p=none→Q `aW (upd H p (.lst (xs++zs)))
theorem Ii:OpR X (bY .Add) rCat:=by
 intro pins s σ H x y v u Q I rx ry h;obtain ⟨l,b,xs,zs,rfl,rfl,hH,hB,hz,q⟩:=h;cases rx
 cases ry
 obtain ⟨z,its,n,r,hl,e⟩:=I.Hk hH;obtain ⟨z2,its2,n2,r2,hl2,e2⟩:=I.Hk hB;refine PySem.P.add_list e e2 ?_ (by rw[aae,aae];omega);have ea:its.toArray++its2.toArray=(its++its2).toArray:=by simp
 rw[ea];exact ⟨.ref _,_,I.lnew (t':=s.toks) (r.append r2) (by rw[aa1];omega),rfl,q _ I.fresh⟩
end
section
variable {prog:aX} {w:aZ} {A:bJ} {E:aD→aF→Prop} {s:aF}
set_option maxRecDepth 100000 in
end
end L2
namespace Att
open PySem PySem.W PySem.Calls PyProof.Rows
theorem xk {P:Params} {h:Heap}:∀(ns:List Int) (vs:List aD),WellAll P h vs (ns.map WData.int)→nC vs ns:=by
 intro ns;induction ns with
 | nil=>
  intro vs w;rw[abg] at w;cases w
  exact .nil
 | cons n ns ih=>
  intro vs w;rw[aas] at w;cases w with
  | cons a b=>
   cases a
   exact .cons _ _ (ih _ b)
theorem M7 {l:OpenLaw} {n:Nat} (hn:l.most=aA n) {P:Params} {h:Heap} {args:List WData} {vals:List aD}
  (hpre:l.row.toRowW.claim.pre args=true) (hwl:WellAll P h vals args):
  ∃a vs ns,vals=[bG a]∧args=[WData.list (ns.map WData.int)]∧h.get? a=aA { cls:=.type "list",data:=.seq vs.toArray }∧nC vs ns∧ns.length≤n:=by
 have hsh:WShape.hasAll [] args [.list .int]=true:=(pre_splitW hpre).1;have hc:l.pre.holds [] { args:=args }=true:=(pre_splitW hpre).2;obtain ⟨d,r,rfl,h1,h2⟩:=hasAllW_cons hsh;obtain rfl:=hasAllW_nil h2;obtain ⟨xs,rfl,h3⟩:=hasW_list h1;obtain ⟨ns,rfl⟩:=items_int h3;have hlen:ns.length≤n:=by
  unfold OpenLaw.pre at hc;have h4:(WTm.not (.lt (.lit (.int (n:Int))) (.len (.arg 0)))).holds [] { args:=[.list (ns.map .int)] }=true:=by
   have h4:=(holds_andW hc).1;rw[hn] at h4;exact h4
  have h5:=condW_of h4 (w_not (w_lt w_lit (w_len_list (w_arg rfl))));rw[aa0] at h5;refine aew λq=>?_;have q':(n:Int) < ((ns.length:Nat):Int):=by omega
  first
   | (rw[decide_eq_true q'] at h5;exact absurd h5 `a)
   | (simp at h5;omega)
 cases hwl with
 | cons w1 w2=>
  cases w2
  cases w1 with
  | list ho hall=>exact ⟨_,_,ns,rfl,rfl,ho,xk ns _ hall,hlen⟩
theorem Nf (l:OpenLaw) (args:List WData):l.row.toRowW.claim.post args `cp args=true:=
 postW_of (r:=l.row.toRowW) (X:=(true==true))
  (show WShape.has [] `cp .bool=true by first | rfl | decide | simp[WShape.has,WShape.arms,WShape.armsAll])
  (show (WTm.eq .res (.lit `cp)).value [] { args:=args,res:=aA `cp,after:=args }=aA (.bool (true==true)) from w_eq_bool (w_res rfl) w_lit) rfl
theorem Fw {l:OpenLaw} {n:Nat} {q:aX} {loose:List Str} {XP:(Str→Option aD)→Heap→Prop} {YP:aZ→Heap→Prop} {d:DefRec}
  (hn:l.most=aA n) (hdf:d.params.defaults=[])
  (call:∀(w:aZ) (s₀ s₁:aF) (mg mb:Str→Option aD) (fa:Addr) (o:Obj) (pm cd doc:aD) (a:Addr) (vs:List aD) (ns:List Int),
   Ground q loose [] XP w s₀ mg mb s₁.heap→YP w s₁.heap→
   s₁.heap.get? fa=aA o→o.data=.func (docDef d.name d.params d.body d.scope pm cd doc)→s₁.heap.CodeRec cd d.name→mg d.name=aA (.ref fa)→
   s₁.heap.get? a=aA { cls:=.type "list",data:=.seq vs.toArray }→nC vs ns→ns.length≤n→s₁.gens=#[]→
   dO (aP l.prog w) iW `cS (λr s'=>r=.ok (.ret `cp)∧OldK s₁.heap s'.heap∧s'.os=s₁.os∧gP s'.gens) s₁):
  WalkO q loose XP YP l.row.toRowW d [] (λf vs=>nS f vs):=by
 intro w s₀ s₁ mg mb G Y fa o pm cd doc dV kV ho hd hcd hD hmg hg args vals as hpre hlay hrd hwl hlo;obtain rfl:dV=.none:=Dflts.none hD hdf;obtain rfl:kV=.none:=Dflts.noKw hD;obtain ⟨a,vs,ns,rfl,rfl,hobj,hints,hlen⟩:=M7 hn hpre hwl;refine enter_call (eZ (call w s₀ s₁ mg mb fa o pm cd doc a vs ns G Y ho (fd_plain hd) hcd hmg hobj hints hlen hg) λr s' hq=>?_);obtain ⟨rfl,h2,h3,h4⟩:=hq;exact ⟨.inl ⟨.bool true,.bool true,[],rfl,λ_=>rfl,.bool true,Nf l _,λ_=>⟨List.Pairwise.nil,λ_ hm=>(nomatch hm)⟩⟩,h2,h3,h4⟩
end Att
namespace L2
open PySem PySem.Spec PyProof.Rows
theorem Cz:∀{vs:List aD} {ns:List Int},nC vs ns→Vals `G vs
 | _,_,.nil=>.nil
 | _,_,.cons n t h=>.cons ⟨t,rfl⟩ (Cz h)
def Only (H:Hp):Prop:=∀b,H b=none∨∃o xs,H b=aA (.frz o `ab)
theorem Qi {P:aX} {w:aZ} {K:aG} {mg mb:Str→Option aD} {CX:CXT} {k:Nat} {fa a:Addr} {fd:cV} {x:Str} {sp:Sp} {s₁:aF} {vs:List aD} {ns:List Int}
  (KX:K.In s₁.heap) (hns:s₁.heap.Ns aN mg) (hb:s₁.heap.Ns nO mb) (hbb:∀x:Str,x≠"__name__"→mb x=bO x) (hlim:s₁.heap.NoLimit) (hg:s₁.gens=#[])
  (ha:s₁.heap.get? a=aA { cls:=.type "list",data:=.seq vs.toArray }) (hi:nC vs ns) (hl:ns.length≤sizeLine) (hr:j9 k iW)
  (F:∀base:Heap,K.In base→base.Ns aN mg→uf P w K mg base CX k fa fd [x] sp) (hbind:∀(s:aF) (u:aD),kT s fd ⟨[u],[]⟩ [(x,u)])
  (hsp:∀H:Hp,Only H→SqL K H a `G→sp [.ref a] H (λv _=>v=.bl true) λ_ _ _=>False)
  (hCX:∀H e s',CX [] H s₁ (λ_ _ _=>False) e s'→False):
  dO `e0 iW `cS (λr s'=>r=.ok (.ret `cp)∧OldK s₁.heap s'.heap∧s'.os=s₁.os∧gP s'.gens) s₁:=by
 have rv:=Cz hi;have lenV:=hi.length;have core:∀H:Hp,Only H→SqL K H a `G→HOk P w H s₁.heap→(∀b,H b≠none→b=a)→(H a≠none→K.lookup a=none)→
   dO `e0 iW `cS (λr s'=>r=.ok (.ret `cp)∧OldK s₁.heap s'.heap∧s'.os=s₁.os∧gP s'.gens) s₁:=by
  intro H hO hS hok hA hK;have base_of:∀{b:Addr} {o:Obj},s₁.heap.get? b=aA o→H b=none→(Ei s₁.heap H).get? b=aA o:=λe n=>Rf e n;have noA:∀{b:Addr} {o:Obj} {es:Array DictEntry} {ep:Nat},s₁.heap.get? b=aA o→o.data=.dict es ep→H b=none:=λ{b o es ep} e d=>by
   cases q:H b with
   | none=>rfl
   | some u=>
    have e':b=a:=hA b (by rw[q];simp);subst e';rw[ha] at e;cases e;have d':Data.seq vs.toArray _=Data.dict es ep:=d;cases d'
  have nsK:∀{b:Addr} {m:Str→Option aD},s₁.heap.Ns b m→(Ei s₁.heap H).Ns b m:=λ{b m} ⟨o,es,ep,e,d,r⟩=>⟨o,es,ep,base_of e (noA e d),d,r⟩;have hKb:K.In (Ei s₁.heap H):=λb o e=>base_of (KX b o e) (by
   cases q:H b with
   | none=>rfl
   | some u=>
    have e':b=a:=hA b (by rw[q];simp);subst e';rw[hK (by rw[q];simp)] at e;cases e)
  have hM:Mod K mg (Ei s₁.heap H):=⟨hKb,nsK hns,⟨mb,nsK hb,hbb⟩,let ⟨mc,h1,h2⟩:=hlim;⟨mc,nsK h1,h2⟩⟩;have e0:Env0 P w K mg (Ei s₁.heap H) iW [] s₁ H:=⟨rfl,hM,λb o e=>Tq e,aep (Mv _ _),trivial,λb hb=>absurd (show b∈([]:List Addr) from hb) `c,hok,.of_eq hg⟩;refine eZ ((F _ hKb (nsK hns)).run iW [] s₁ H ⟨[.ref a],[]⟩ [.ref a] [.ref a] _ _ hr e0 (hbind s₁ `p) (.cons rfl .nil) (hsp H hO hS)) λr s' h=>?_;cases r with
  | error e=>exact (hCX H e s' h).elim
  | ok fl=>
   cases fl with
   | next=>exact False.elim h
   | brk=>exact False.elim h
   | cont=>exact False.elim h
   | ret u=>
    obtain ⟨v,H',os,bare,un,hok',r',q⟩:=h;have q':v=.bl true:=q;subst q';obtain rfl:u=nN true:=r';refine ⟨rfl,OldK.of_keep λb o e=>?_,os,bare⟩;cases q:H b with
    | none=>exact un.keep b o e q (by intro z;exact absurd (show b∈([]:List Addr) from z) `c) `c
    | some u=>
     rcases hO b with z | ⟨ob,xs,z⟩
     ·rw[q] at z;cases z
     ·have z2:=un.frzs b ob _ z;obtain ⟨e1,_⟩:=hok b _ z;obtain ⟨e2,_⟩:=hok' b _ z2;rw[e] at e1;cases e1;exact e2
 cases hk:K.lookup a with
 | some o=>
  have e:=KX a o hk;rw[ha] at e;cases e
  refine core (λ_=>none) (λ_=>.inl rfl) (.inr ⟨_,vs.toArray,_,hk,rfl,rfl,rfl,by rw[aae,lenV];exact hl,by simpa using rv⟩) (λb u z=>by have z':(none:Option HO)=aA u:=z;cases z') (λb z=>absurd rfl z) λz=>absurd rfl z
 | none=>
  refine core (λb=>if b=a then aA (.frz { cls:=.type "list",data:=.seq vs.toArray } (.lst `G)) else none) (λb=>?_) (.inl (.inr ⟨{ cls:=.type "list",data:=.seq vs.toArray },if_pos rfl⟩)) (λb u z=>?_) (λb z=>?_) λ_=>hk
  ·by_cases hb:b=a
   ·exact .inr ⟨_,_,if_pos hb⟩
   ·exact .inl (if_neg hb)
  ·by_cases hb:b=a
   ·have z':=(if_pos hb).symm.trans z;cases z'
    subst hb;exact ⟨ha,by rw[aa0];exact hl,vs,_,rv,ha⟩
   ·have z':=(if_neg hb).symm.trans z;cases z'
  ·by_cases hb:b=a
   ·exact hb
   ·exact absurd (if_neg hb) z
noncomputable abbrev KOf {K:aG} {h:Heap} (_:K.In h):aG:=K
theorem Vq {l:jO} {n k:Nat} {q:aX} {loose:List Str} {XP:(Str→Option aD)→Heap→Prop} {YP:aZ→Heap→Prop} {d:DefRec} {K:Params→aG} {CX:aZ→CXT} {sp:aZ→Sp} {x:Str}
  (hn:l.most=aA n) (hn2:n≤sizeLine) (hdf:d.params.defaults=[]) (hr:j9 k iW)
  (hY:∀(w:aZ) (h:Heap),YP w h→(K w.params).In h)
  (F:∀(w:aZ) (mg:Str→Option aD) (fa:Addr) (h:Heap),(K w.params).In h→h.Ns aN mg→mg d.name=aA (.ref fa)→
   ∃fd:cV,(∀(s:aF) (u:aD),kT s fd ⟨[u],[]⟩ [(x,u)])∧
    ∀base:Heap,(K w.params).In base→base.Ns aN mg→uf l.prog w (K w.params) mg base (CX w) k fa fd [x] (sp w))
  (hsp:∀(w:aZ) (H:Hp) (a:Addr) (ns:List Int),ns.length≤n→Only H→SqL (K w.params) H a `G→sp w [.ref a] H (λv _=>v=.bl true) λ_ _ _=>False)
  (hCX:∀(w:aZ) (H:Hp) (s:aF) (e:aD) (s':aF),CX w [] H s (λ_ _ _=>False) e s'→False):
  PySem.W.WalkO q loose XP YP l.row.toRowW d [] (λf vs=>nS f vs):=by
 refine Att.Fw hn hdf λw s₀ s₁ mg mb fa o pm cd doc a vs ns G Y ho hd hcd hmg hobj hints hlen hg=>?_;have KX:=hY w _ Y;obtain ⟨fd,hb,hF⟩:=F w mg fa _ KX G.T.g hmg;exact Qi KX G.T.g G.T.b G.T.builtins G.T.nolimit hg hobj hints (ab4 hlen hn2) hr hF hb (λH hO hS=>hsp w H a ns hlen hO hS) λH e s'=>hCX w H s₁ e s'
noncomputable def au (s:Stmt):Arguments:=match s with
 | .FunctionDef _ a _ _ _ _ _ _ _ _=>a
 | _=>{ posonlyargs:=[],args:=[],vararg:=none,kwonlyargs:=[],kw_defaults:=[],kwarg:=none,defaults:=[] }
noncomputable def aq (s:Stmt):List Stmt:=match s with
 | .FunctionDef _ _ b _ _ _ _ _ _ _=>b
 | _=>[]
noncomputable def ae (s:Stmt):Scope:=match s with
 | .FunctionDef _ _ _ _ _ _ sc _ _ _=>sc
 | _=>{ kind:=.function,names:=[],isGenerator:=false,isCoroutine:=false }
noncomputable abbrev CX0:CXT:=λ_ _ _ _ _ _=>False
abbrev E0:XK:=λ_ _ _=>False
theorem pass0 {X:Cx}:Passes CX0 X E0:=λ_ _ _ _ _ _ _ h=>h.elim
structure Fun (K:aG) (x qual:Str) (st:Stmt) (f:Addr) (fd:cV):Prop where
 ex:∃(oc:aD) (od:Option Addr) (kV doc pm:aD) (an:Option Addr) (cdv ct:aD) (osl:Array `e2),
  fd=aU x qual (au st) (aq st) (ae st) .none kV doc pm an cdv ct∧K.lookup f=aA ⟨oc,od,.func fd,osl⟩∧aR K cdv qual=true
 kp:aQ K `db=true
section
variable {P:aX} {w:aZ} {K:aG} {mg:Str→Option aD} {base:Heap}
theorem Fun.ok {x qual:Str} {st:Stmt} {f:Addr} {fd:cV} {N ps:List Str} {k:Nat} {sp:Sp} (F:Fun K x qual st f fd) (S:av N ps (ae st)) (len:∀vs H Q E,sp vs H Q E→vs.length=ps.length)
  (hbody:∀(cdv:aD) (A:bJ) (outer:List Env) (s:aF) (H:Hp) (vs:List V) (Q:VK) (E:XK),j9 k (A.deeper (gR qual (ae st) s.heap.objs.size f cdv))→sp vs H Q E→
   ∃t,PSs (xg CX0 P w K mg base N qual (ae st) f cdv A outer s H E).nox (aq st) t∧t { nx:=λ_ H'=>Q .non H',rt:=Q } `d5 H):uf P w K mg base CX0 (k+1) f fd ps sp:=by
 obtain ⟨oc,od,kV,doc,pm,an,cdv,ct,osl,rfl,lk,hcd⟩:=F.ex;refine fn_of lk hcd S len λA outer s H vs Q E hr hsp=>?_;obtain ⟨t,h,q⟩:=hbody cdv A outer s H vs Q E hr hsp;exact ⟨t,h.nox,q⟩
theorem Fun.binds {x qual:Str} {st:Stmt} {f:Addr} {fd:cV} {ps:List Str} (F:Fun K x qual st f fd)
  (h:∀(kV doc pm:aD) (an:Option Addr) (cdv ct:aD) (us:List aD),us.length=ps.length→bH `bb ⟨us,[]⟩=pure (ps.zip us)):Binds K fd ps []:=by
 obtain ⟨oc,od,kV,doc,pm,an,cdv,ct,osl,rfl,lk,hcd⟩:=F.ex;exact .all (h kV doc pm an cdv ct)
theorem bh {x qual:Str} {st:Stmt} {f:Addr} {oc:aD} {od an:Option Addr} {osl:Array `e2} {kV doc pm cdv ct:aD} (l:K.lookup f=aA ⟨oc,od,.func `bb,osl⟩)
  (c:aR K cdv qual=true) (k:aQ K `db=true):Fun K x qual st f `bb:=⟨⟨oc,od,kV,doc,pm,an,cdv,ct,osl,rfl,l,c⟩,k⟩
end
theorem b8 {A:bJ} {k:Nat} (hr:j9 k A):A.units+1 < cLine:=ac9 (Nat.add_le_add_left (by decide:1≤64) _) hr.units
section
variable {X:Cx}
theorem pv (i:Nat) {x:Str} {pos:Pos} (hN:X.N[i]?=aA x:=by rfl) (hv:Vis X.env.scope x:=by first | exact ab6 rfl | exact ab5 (ab6 rfl) | exact ab5 (ab5 rfl)) (hd:(x==("__debug__":Str))=false:=by decide)
  (hcd:(x==("__classdict__":Str))=false:=by decide):PE X `bp (tVar i):=pe_var hN hv hd hcd
end
theorem Hm {A B:Prop} (h:B):if false=true then A else B:=by
 rw[if_neg aaq];exact h
theorem iteT {A B:Prop} (h:A):if true=true then A else B:=by
 rw[if_pos rfl];exact h
theorem df {c A B:Prop} [Decidable c] (h1:c→A) (h2:¬c→B):if c then A else B:=by
 by_cases h:c
 ·rw[if_pos h];exact h1 h
 ·rw[if_neg h];exact h2 h
def ag (H H':Hp):Prop:=∀b o,H b=aA o→H' b=aA o
theorem ag.refl (H:Hp):ag H H:=λ_ _ h=>h
theorem ag.trans {H H1 H2:Hp} (a:ag H H1) (b:ag H1 H2):ag H H2:=λc o h=>b c o (a c o h)
theorem ag.free {H H':Hp} (e:ag H H') {l:Addr} (h:H' l=Option.none):H l=Option.none:=by
 cases q:H l with
 | none=>rfl
 | some o=>
  rw[e l o q] at h;cases h
theorem ag.seq {K:aG} {H H':Hp} {a:Addr} {xs:List V} (e:ag H H') (h:SqL K H a xs):SqL K H' a xs:=by
 rcases h with (h | ⟨o,h⟩) | h
 ·exact .inl (.inl (e _ _ h))
 ·exact .inl (.inr ⟨o,e _ _ h⟩)
 ·exact .inr h
section
variable {κ:Type} [DecidableEq κ]
noncomputable def bf (kvs:List (κ×V)) (k:κ):Option V:=(kvs.find? λkv=>decide (kv.1=k)).map (·.2)
noncomputable def putK (kvs:List (κ×V)) (k:κ) (v:V):List (κ×V):=
 if (kvs.any λkv=>decide (kv.1=k))=true then kvs.map (λkv=>if kv.1=k then (kv.1,v) else kv) else kvs++[(k,v)]
theorem de {p:κ×V} {r:List (κ×V)} {k:κ} (e:p.1=k):bf (p::r) k=aA p.2:=by simp[bf,acr,e]
theorem cz {p:κ×V} {r:List (κ×V)} {k:κ} (e:¬p.1=k):bf (p::r) k=bf r k:=by simp[bf,acr,e]
theorem g9 (k:κ):∀kvs:List (κ×V),(kvs.any λkv=>decide (kv.1=k))=(bf kvs k).isSome
 | []=>rfl
 | p::r=>by
  rw[adg];by_cases e:p.1=k
  ·simp only[de e,decide_eq_true e,Bool.true_or,aeq]
  ·rw[cz e,decide_eq_false e,Bool.false_or];exact g9 k r
theorem Eu (k j:κ) (y:V):∀kvs:List (κ×V),bf (kvs.map λkv=>if kv.1=k then (kv.1,y) else kv) j=(bf kvs j).map λx=>if j=k then y else x
 | []=>rfl
 | p::r=>by
  have ih:=Eu k j y r;rw[aas];by_cases h:p.1=k
  ·rw[if_pos h];by_cases e:p.1=j
   ·rw[de (p:=(p.1,y)) e,de e,adn,if_pos (e.symm.trans h)]
   ·rw[cz (p:=(p.1,y)) e,cz e,ih]
  ·rw[if_neg h];by_cases e:p.1=j
   ·rw[de (p:=p) e,de e,adn,if_neg (λz=>h (e.trans z))]
   ·rw[cz (p:=p) e,cz e,ih]
theorem Cb (k j:κ) (y:V):∀kvs:List (κ×V),bf kvs k=none→bf (kvs++[(k,y)]) j=if j=k then aA y else bf kvs j
 | [],_=>by
  by_cases e:k=j
  ·rw[if_pos e.symm];exact de (p:=(k,y)) e
  ·rw[if_neg (λz=>e z.symm)];exact cz (p:=(k,y)) e
 | p::r,hn=>by
  rw[ad1];have hk:¬p.1=k:=λz=>by rw[de z] at hn;cases hn
  rw[cz hk] at hn;have ih:=Cb k j y r hn;by_cases e:p.1=j
  ·rw[de e,de e,if_neg (λz=>hk (e.trans z))]
  ·rw[cz e,cz e,ih]
theorem cg (kvs:List (κ×V)) (k j:κ) (y:V):bf (putK kvs k y) j=if j=k then aA y else bf kvs j:=by
 unfold putK;by_cases a:(kvs.any λkv=>decide (kv.1=k))=true
 ·rw[if_pos a,Eu];rw[g9] at a;by_cases e:j=k
  ·obtain ⟨x,hx⟩:=Option.isSome_iff_exists.mp a;rw[if_pos e,e,hx,adn,if_pos rfl]
  ·rw[if_neg e];cases bf kvs j with
   | none=>rfl
   | some x=>rw[adn,if_neg e]
 ·rw[if_neg a];refine Cb k j y kvs ?_;rw[g9] at a;cases q:bf kvs k with
  | none=>rfl
  | some x=>rw[q] at a;exact (a rfl).elim
theorem ib (kvs:List (κ×V)) (k:κ) (v:V):(putK kvs k v).length≤kvs.length+1:=by
 unfold putK;split
 ·rw[aa0];omega
 ·rw[aa1,aa8,ace];omega
theorem Gp {kvs:List (κ×V)} {k:κ} (v:V) (h:bf kvs k=none):putK kvs k v=kvs++[(k,v)]:=by
 unfold putK;rw[g9,h];exact if_neg `a
theorem rg.ka {o:Option V} {u:Option aD} (r:rg o u):o.isSome=u.isSome:=by
 cases o with
 | none=>cases u with
  | none=>rfl
  | some _=>exact (show False from r).elim
 | some _=>cases u with
  | none=>exact (show False from r).elim
  | some _=>rfl
theorem rg.getD {o:Option V} {u:Option aD} {d:V} {d':aD} (r:rg o u) (rd:RelV d d'):RelV (o.getD d) (u.getD d'):=by
 cases o with
 | none=>cases u with
  | none=>exact rd
  | some _=>exact (show False from r).elim
 | some _=>cases u with
  | none=>exact (show False from r).elim
  | some _=>exact r
theorem KV.val {kvs:List (κ×V)} {vs:List (κ×aD)} (r:KV kvs vs) (k:κ):rg (bf kvs k) (iX vs k):=by
 unfold KV at r;induction r with
 | nil=>exact True.intro
 | @cons p q ps qs h t ih=>
  obtain ⟨h1,h2⟩:=h;by_cases e:p.1=k
  ·have e':q.1=k:=h1.symm.trans e;have b:iX (q::qs) k=aA q.2:=by simp[iX,acr,e']
   rw[de e,b];exact h2
  ·have e':¬q.1=k:=λz=>e (h1.trans z);have b:iX (q::qs) k=iX qs k:=by simp[iX,acr,e']
   rw[cz e,b];exact ih
theorem KV.any {kvs:List (κ×V)} {vs:List (κ×aD)} (r:KV kvs vs) (k:κ):(kvs.any λkv=>decide (kv.1=k))=vs.any λkv=>decide (kv.1=k):=by
 unfold KV at r;induction r with
 | nil=>rfl
 | cons h t ih=>rw[adg,adg,ih,h.1]
theorem KV.repl {kvs:List (κ×V)} {vs:List (κ×aD)} (r:KV kvs vs) (k:κ) {y:V} {u:aD} (ry:RelV y u):
  KV (kvs.map λkv=>if kv.1=k then (kv.1,y) else kv) (vs.map λkv=>if kv.1=k then (kv.1,u) else kv):=by
 unfold KV at r ⊢;induction r with
 | nil=>exact .nil
 | @cons p q ps qs h t ih=>
  rw[aas,aas];refine .cons ?_ ih;obtain ⟨h1,h2⟩:=h;by_cases e:p.1=k
  ·rw[if_pos e,if_pos (h1.symm.trans e)];exact ⟨h1,ry⟩
  ·rw[if_neg e,if_neg (λz=>e (h1.trans z))];exact ⟨h1,h2⟩
theorem KV.put {kvs:List (κ×V)} {vs:List (κ×aD)} (r:KV kvs vs) (k:κ) {y:V} {u:aD} (ry:RelV y u):KV (putK kvs k y) (stored vs k u):=by
 unfold putK stored;rw[r.any k];by_cases e:(vs.any λkv=>decide (kv.1=k))=true
 ·rw[if_pos e,if_pos e];exact r.repl k ry
 ·rw[if_neg e,if_neg e];exact Paired.snoc r ⟨rfl,ry⟩
theorem KV.length {kvs:List (κ×V)} {vs:List (κ×aD)} (r:KV kvs vs):kvs.length=vs.length:=iF r
end
theorem qk {P:aX} {w:aZ} {k:Key} {u:aD} (r:RelV (kV k) u):(cm P w).is k u=true:=by
 cases k with
 | inl i=>obtain ⟨t,e⟩:=(show ∃t,u=hX i t from r);subst e;exact Ga P w i t
 | inr x=>obtain ⟨t,e⟩:=(show ∃t,u=mE x t from r);subst e;exact nj P w x t
theorem Bt {P:aX} {w:aZ}:∀{ks:List Key} {us:List aD},Vals (ks.map kV) us→ItemsAre `c4 ks us
 | [],_,r=>by rw[abg] at r;cases r;exact .nil
 | k::ks,_,r=>by
  rw[aas] at r;cases r with
  | cons h t=>exact .cons (qk h) (Bt t)
abbrev KT (H:Hp):List (List Key×V)→List (List Key×Addr×aD)→Prop:=Paired λp q=>p.1=q.1∧H q.2.1=aA (.tup (p.1.map kV))∧RelV p.2 q.2.2
theorem KT.val {H:Hp} {kvs:List (List Key×V)} {xs:List (List Key×Addr×aD)} (r:KT H kvs xs) (k:List Key):rg (bf kvs k) ((iR xs k).map (·.2)):=by
 induction r with
 | nil=>exact True.intro
 | @cons p q ps qs h t ih=>
  obtain ⟨h1,_,h2⟩:=h;by_cases e:p.1=k
  ·have e':q.1=k:=h1.symm.trans e;have b:iR (q::qs) k=aA q.2:=by simp[iR,acr,e']
   rw[de e,b];exact h2
  ·have e':¬q.1=k:=λz=>e (h1.trans z);have b:iR (q::qs) k=iR qs k:=by simp[iR,acr,e']
   rw[cz e,b];exact ih
theorem KT.repl {H:Hp} {kvs:List (List Key×V)} {xs:List (List Key×Addr×aD)} (r:KT H kvs xs) (k:List Key) {y:V} {u:aD} (ry:RelV y u):
  KT H (kvs.map λkv=>if kv.1=k then (kv.1,y) else kv) (xs.map (putAt k u)):=by
 induction r with
 | nil=>exact .nil
 | @cons p q ps qs h t ih=>
  rw[aas,aas];refine .cons ?_ ih;obtain ⟨h1,h2,h3⟩:=h;unfold putAt;by_cases e:p.1=k
  ·rw[if_pos e,if_pos (h1.symm.trans e)];exact ⟨h1,h2,ry⟩
  ·rw[if_neg e,if_neg (λz=>e (h1.trans z))];exact ⟨h1,h2,h3⟩
theorem KT.put {H:Hp} {kvs:List (List Key×V)} {xs:List (List Key×Addr×aD)} (r:KT H kvs xs) (k:List Key) {b:Addr} {y:V} {u:aD} (hb:H b=aA `do) (ry:RelV y u):
  KT H (putK kvs k y) (storedH xs k b u):=by
 have e:(kvs.any λkv=>decide (kv.1=k))=(iR xs k).isSome:=by
  rw[g9,(r.val k).ka,acv]
 unfold putK storedH;rw[e];by_cases q:(iR xs k).isSome=true
 ·rw[if_pos q,if_pos q];exact r.repl k ry
 ·rw[if_neg q,if_neg q];exact Paired.snoc r ⟨rfl,hb,ry⟩
theorem KT.keeps {H H':Hp} {kvs:List (List Key×V)} {xs:List (List Key×Addr×aD)} (r:KT H kvs xs) (ht:∀b ys,H b=aA `dX→H' b=aA `dX):KT H' kvs xs:=
 Paired.mapP r λ_ _ z=>⟨z.1,ht _ _ z.2.1,z.2.2⟩
section
variable {P:aX} {w:aZ} {H:Hp} {h:Heap} {a:Addr}
theorem rd_of {u:HO} (ok:HOk P w H h) (e:Rd H a u):cj P w H h a u:=e.ok ok
theorem Av {kvs:List (Key×V)} (ok:HOk P w H h) (e:Rd H a `aU):kvs.length≤sizeLine∧(a==cE)=false∧∃vs,KV kvs vs∧h.DictOf `c4 a vs:=
 show cj P w H h a `aU from rd_of ok e
theorem dk_of {kvs:List (Key×V)} (ok:HOk P w H h) (e:H a=aA `aU):kvs.length≤sizeLine∧(a==cE)=false∧∃vs,KV kvs vs∧h.DictOf `c4 a vs:=Av ok (.inl e)
theorem vo {ks:List Key} (ok:HOk P w H h) (e:H a=aA (.tup (ks.map kV))):(hZ `c4).is h ks a:=by
 obtain ⟨_,its,r,o,h1,h2,n,h3,_⟩:=(show cj P w H h a (.tup (ks.map kV)) from ok a _ e);exact ⟨o,its.toArray,n,h1,h2,h3,by simpa using Bt r⟩
theorem Bw {kvs:List (List Key×V)} (ok:HOk P w H h) (e:Rd H a `ca):kvs.length≤sizeLine∧(a==cE)=false∧
  ∃xs,KT H kvs xs∧h.DictOfH (hZ `c4) a xs:=by
 obtain ⟨z,y,xs,r,o,es,ep,h1,h2,h3,h4,h5⟩:=(show cj P w H h a `ca from rd_of ok e);refine ⟨z,y,xs,r,o,es,ep,h1,h2,h3,h4,λx hx=>?_,h5⟩;have all:∀{l:List (List Key×V)} {m:List (List Key×Addr×aD)},KT H l m→∀x∈m,(hZ `c4).is h x.1 x.2.1:=by
  intro l m q;induction q with
  | nil=>intro x hx;exact nomatch hx
  | @cons p q ps qs hq t ih=>
   intro x hx;rcases List.mem_cons.mp hx with e | hx
   ·subst e;exact vo ok (by rw[←hq.1];exact hq.2.1)
   ·exact ih x hx
 exact all r x hx
theorem dt_of {kvs:List (List Key×V)} (ok:HOk P w H h) (e:H a=aA `ca):kvs.length≤sizeLine∧(a==cE)=false∧
  ∃xs,KT H kvs xs∧h.DictOfH (hZ `c4) a xs:=Bw ok (.inl e)
end
def e9 (H:Hp) (a:Addr) (y:V) (r:Option V):Prop:=
 (∃kvs k,Rd H a `aU∧y=kV k∧r=bf kvs k)∨∃kvs k b,Rd H a `ca∧y=.ref b∧H b=aA `do∧r=bf kvs k
def va (H:Hp) (a:Addr) (y v:V) (H':Hp):Prop:=
 (∃kvs k,H a=aA `aU∧y=kV k∧kvs.length < sizeLine∧H'=upd H a (.dK (putK kvs k v)))∨
 ∃kvs k b,H a=aA `ca∧y=.ref b∧H b=aA `do∧kvs.length < sizeLine∧H'=upd H a (.dT (putK kvs k v))
theorem e9.k {H:Hp} {a:Addr} {kvs:List (Key×V)} {k:Key} (e:H a=aA `aU):e9 H a (kV k) (bf kvs k):=.inl ⟨kvs,k,.inl e,rfl,rfl⟩
theorem e9.t {H:Hp} {a b:Addr} {kvs:List (List Key×V)} {k:List Key} (e:H a=aA `ca) (eb:H b=aA `do):e9 H a `aJ (bf kvs k):=.inr ⟨kvs,k,b,.inl e,rfl,eb,rfl⟩
theorem va.k {H:Hp} {a:Addr} {kvs:List (Key×V)} {k:Key} {v:V} (e:H a=aA `aU) (hl:kvs.length < sizeLine):va H a (kV k) v (upd H a (.dK (putK kvs k v))):=.inl ⟨kvs,k,e,rfl,hl,rfl⟩
theorem va.t {H:Hp} {a b:Addr} {kvs:List (List Key×V)} {k:List Key} {v:V} (e:H a=aA `ca) (eb:H b=aA `do) (hl:kvs.length < sizeLine):
  va H a `aJ v (upd H a (.dT (putK kvs k v))):=.inr ⟨kvs,k,b,e,rfl,eb,hl,rfl⟩
section
variable {X:Cx} {pins:List (Addr×Obj)} {σ:St} {H:Hp} {s:aF} {a:Addr} {y v:V} {u r:aD} {o:Option V} {A:bJ} {E:aD→aF→Prop}
theorem Inv.big (I:Inv X pins σ H s):cE < s.heap.objs.size:=by
 have h:aN < s.heap.objs.size:=(I.mod.glob.keeps I.bk).lt;exact aer `a h
theorem Mj {Q:aD→aF→Prop} (hu:A.units+1 < cLine) (I:Inv X pins σ H s) (g:e9 H a y (aA v)) (ry:RelV y u) (h:∀w' s',Inv X pins σ H s'→RelV v w'→Q w' s'):
  aI `d A (fB `p u) Q E s:=by
 rcases g with ⟨kvs,k,e,ey,l⟩ | ⟨kvs,k,b,e,ey,eb,l⟩
 ·subst ey;obtain ⟨z,hd,vs,rel,dd⟩:=Av I.hok e;obtain ⟨w',hw,rw'⟩:=rg.some_of (v:=v) (o:=iX vs k) (by rw[l];exact rel.val k);exact wpAny_getItem_of (qk ry) dd.mapOf hw (h w' _ (I.tok _) rw')
 ·subst ey;cases (show u=bG b from ry)
  obtain ⟨z,hd,xs,rel,dd⟩:=Bw I.hok e;obtain ⟨w',hw,rw'⟩:=rg.some_of (v:=v) (o:=(iR xs k).map (·.2)) (by rw[l];exact rel.val k);obtain ⟨p,hp,hp2⟩:=Option.map_eq_some_iff.mp hw;refine wpAny_getItem_heap (eT hu) `eO dd hp ?_;rw[hp2];exact h w' _ (I.tok _) rw'
theorem d_in {Q:aD→aF→Prop} (hu:A.units+1 < cLine) (I:Inv X pins σ H s) (g:e9 H a y o) (ry:RelV y u) (h:∀s',Inv X pins σ H s'→Q (.bool o.isSome) s'):
  aI `d A (cG .In u `p) Q E s:=by
 rcases g with ⟨kvs,k,e,ey,l⟩ | ⟨kvs,k,b,e,ey,eb,l⟩
 ·subst ey;obtain ⟨z,hd,vs,rel,dd⟩:=Av I.hok e;refine wpAny_in_of (qk ry) hd dd.mapOf ?_;rw[←(rel.val k).ka,←l];exact h _ (I.tok _)
 ·subst ey;cases (show u=bG b from ry)
  obtain ⟨z,hd,xs,rel,dd⟩:=Bw I.hok e;refine wpAny_in_heap (eT hu) `eO hd dd ?_;have q:=(rel.val k).ka;rw[acv] at q;rw[←q,←l];exact h _ (I.tok _)
theorem Tf {Q:aD→aF→Prop} (hu:A.units+1 < cLine) (I:Inv X pins σ H s) (g:e9 H a y o) (ry:RelV y u) (h:∀s',Inv X pins σ H s'→Q (.bool (!o.isSome)) s'):
  aI `d A (cG .NotIn u `p) Q E s:=by
 rcases g with ⟨kvs,k,e,ey,l⟩ | ⟨kvs,k,b,e,ey,eb,l⟩
 ·subst ey;obtain ⟨z,hd,vs,rel,dd⟩:=Av I.hok e;refine wpAny_notIn_of (qk ry) hd dd.mapOf ?_;rw[←(rel.val k).ka,←l];exact h _ (I.tok _)
 ·subst ey;cases (show u=bG b from ry)
  obtain ⟨z,hd,xs,rel,dd⟩:=Bw I.hok e;refine wpAny_notIn_heap (eT hu) `eO hd dd ?_;have q:=(rel.val k).ka;rw[acv] at q;rw[←q,←l];exact h _ (I.tok _)
theorem Ds {h':Heap} {t':Nat} {ob:HO} (I:Inv X pins σ H s) (mu:Mut (H a)) (hs:bE a s.heap h') (he:∃q,h'.get? a=aA q) (new:cj X.prog X.w (upd H a ob) h' a ob):
  Inv X pins σ (upd H a ob) { s with heap:=h',toks:=t' }:=
 I.write (x:=a) (e:=a) mu `W (λb q hb z=>(hs.2 b hb).trans z) he new
theorem R9 {P:aX} {w:aZ} {H':Hp} {h':Heap} {kvs:List (Key×V)} {vs:List (Key×aD)} (z:kvs.length≤sizeLine) (hd:(a==cE)=false) (rel:KV kvs vs) (dd:h'.DictOf `c4 a vs):
  cj P w H' h' a `aU:=⟨z,hd,vs,rel,dd⟩
theorem Nw {H':Hp} {Q:Unit→aF→Prop} (hu:A.units+1 < cLine) (I:Inv X pins σ H s) (g:va H a y v H') (ry:RelV y u) (rv:RelV v r) (h:∀s',Inv X pins σ H' s'→Q () s'):
  aI `d A (setItem `p u r) Q E s:=by
 rcases g with ⟨kvs,k,e,ey,l,eH⟩ | ⟨kvs,k,b,e,ey,eb,l,eH⟩
 ·subst ey eH;obtain ⟨z,hd,vs,rel,dd⟩:=dk_of I.hok e;have hz:vs.length≤sizeLine:=by rw[←rel.length];exact z
  have hl:(putK kvs k v).length≤sizeLine:=by have:=ib kvs k v;omega
  refine wpAny_setItem_pairs (hsz:=hz) (qk ry) dd λh' dd' hs=>h _ ?_;have he:∃q,h'.get? a=aA q:=let ⟨q,_,_,hq,_⟩:=dd';⟨q,hq⟩
  exact Ds I (by rw[e];exact True.intro) hs he (R9 hl hd (rel.put k rv) dd')
 ·subst ey eH;cases (show u=bG b from ry)
  obtain ⟨z,hd,xs,rel,dd⟩:=dt_of I.hok e;have hz:xs.length≤sizeLine:=by rw[←iF rel];exact z
  have hl:(putK kvs k v).length≤sizeLine:=by have:=ib kvs k v;omega
  refine wpAny_setItem_heap (hsz:=hz) (eT hu) `eO dd λh' dd' hs=>h _ ?_;obtain ⟨q,es,ep,hq,h2,h3,h4,_,h5⟩:=dd';refine Ds I (by rw[e];exact True.intro) hs ⟨q,hq⟩ ⟨hl,hd,_,(rel.put k eb rv).keeps λc ys ec=>?_,q,es,ep,hq,h2,h3,h4,h5⟩;rw[ah (mx ec e (λz=>nomatch z))];exact ec
end
def NoSl (i:Expr):Prop:=∀ov iv,jY i false ov iv=operate [ov,iv] (fB ov iv)
theorem U8 {prog:aX} {w:aZ} {A:bJ} {E:aD→aF→Prop} {s:aF} {env:Env} {value slice:Expr} {pos:Pos} {T id:String} {Q:aD→aF→Prop}
  (hl:dY `du "__getitem__"=pure (aA `b7)) (hs:NoSl slice)
  (h:aI `f A (eval value env) (λo s₁=>aI `f A (eval slice env) (λi s₂=>s₂.TypeIs o T∧aI `f A (fB o i) Q E s₂) E s₁) E s):
  aI `f A (eval (.Subscript value slice pos) env) Q E s:=by
 refine lL (bM h (λo s₁ h₁=>bM h₁ (λi s₂ h₂=>?_) λ_ _ x=>x) λ_ _ x=>x);obtain ⟨hT,h₂⟩:=h₂;unfold iI;refine aC ?_;rw[getitemInPython_of_ne hT.not_modules];refine aC (fQ hT hl ?_);have fin:aI `f A (jY slice false o i) (λr s₃=>aI `f A (letTemporaryGo value o r >>=λ_=>pure r) Q E s₃) E s₂:=by
  rw[hs o i];exact wpAny_operating (bM h₂ (λr s₃ h₃=>aC (wpAny_letTemporaryGo (aH h₃))) λ_ _ x=>x)
 first
  | exact aH (aC fin)
  | exact aC (aH (aC fin))
  | exact aC fin
theorem Gk {X:Cx} {pins:List (Addr×Obj)} {σ:St} {H:Hp} {s:aF} {a:Addr} {y:V} {o:Option V} (I:Inv X pins σ H s) (g:e9 H a y o):s.TypeIs `p "dict":=by
 rcases g with ⟨kvs,k,e,_,_⟩ | ⟨kvs,k,b,e,_,_,_⟩
 ·obtain ⟨_,_,vs,_,dd⟩:=Av I.hok e;exact dd.typeIs
 ·obtain ⟨_,_,xs,_,dd⟩:=Bw I.hok e;exact dd.typeIs
def tDGet (td ty:TE):TE:=λσ H Q=>td σ H λx H1=>ty σ H1 λy H2=>∃a v,x=.ref a∧e9 H2 a y (aA v)∧Q v H2
def tDIn (ty td:TE):TE:=λσ H Q=>ty σ H λy H1=>td σ H1 λx H2=>∃a o,x=.ref a∧e9 H2 a y o∧Q (.bl o.isSome) H2
def K1 (ty td:TE):TE:=λσ H Q=>ty σ H λy H1=>td σ H1 λx H2=>∃a o,x=.ref a∧e9 H2 a y o∧Q (.bl (!o.isSome)) H2
def sDPut (td ty tv:TE):TS:=λD σ H=>tv σ H λv H1=>td σ H1 λx H2=>ty σ H2 λy H3=>∃a H4,x=.ref a∧va H3 a y v H4∧D.nx σ H4
section
variable {X:Cx} {o i e value:Expr} {pos pos' tpos:Pos} {td ty tv:TE}
theorem Tx (hu:X.A.units+1 < cLine) (ho:PE X o td) (hi:PE X i ty) (hs:NoSl i):PE X (.Subscript o i pos) (tDGet td ty):=by
 intro pins s σ H Q I h;refine U8 PySem.F.slot_dict_getitem.lookup hs (thn `di λu s1 ⟨x,H1,I1,rx,q1⟩=>thn (hi pins s1 σ H1 _ I1 q1) λiv s2 ⟨y,H2,I2,ry,a,v,ex,g,q2⟩=>?_);subst ex;obtain rfl:u=bG a:=rx;exact ⟨Gk I2 g,Mj hu I2 g ry λw' s3 I3 rw'=>⟨v,H2,I3,rw',q2⟩⟩
theorem Qf (hu:X.A.units+1 < cLine) (hi:PE X i ty) (ho:PE X o td):PC X .In i o (tDIn ty td):=by
 intro pins s σ H Q I h;refine thn `bE λiv s1 ⟨y,H1,I1,ry,q1⟩=>thn `d3 λu s2 ⟨x,H2,I2,rx,a,ov,ex,g,q2⟩=>?_;subst ex;obtain rfl:u=bG a:=rx;exact d_in hu I2 g ry λs3 I3=>⟨.bl ov.isSome,H2,I3,rfl,q2⟩
theorem wg (hu:X.A.units+1 < cLine) (hi:PE X i ty) (ho:PE X o td):PC X .NotIn i o (K1 ty td):=by
 intro pins s σ H Q I h;refine thn `bE λiv s1 ⟨y,H1,I1,ry,q1⟩=>thn `d3 λu s2 ⟨x,H2,I2,rx,a,ov,ex,g,q2⟩=>?_;subst ex;obtain rfl:u=bG a:=rx;exact Tf hu I2 g ry λs3 I3=>⟨.bl (!ov.isSome),H2,I3,rfl,q2⟩
theorem V5 (hu:X.A.units+1 < cLine) (ho:PE X o td) (hi:PE X i ty) (hv:PE X value tv) (hs:mM value (aA (.Subscript o i pos')) pos.line X.env=pure false):
  PS X (.Assign [.Subscript o i pos'] value pos) (sDPut td ty tv):=by
 intro pins s σ H D I h;refine wpAny_Assign_Subscript (thn (hv pins s σ H _ I h) λr s1 ⟨v,H1,I1,rv,q1⟩=>thn `d3 λu s2 ⟨x,H2,I2,rx,q2⟩=>thn (hi pins s2 σ H2 _ I2 q2) λiv s3 ⟨y,H3,I3,ry,a,H4,ex,g,q3⟩=>?_) hs;subst ex;obtain rfl:u=bG a:=rx;exact Nw hu I3 g ry rv λs4 I4=>⟨σ,H4,I4,q3⟩
end
theorem Ff {P:aX} {w:aZ} {H:Hp} (h:Heap) (hb:cE < h.objs.size):cj P w H `ev h.objs.size `bU:=
 ⟨aai _,beq_eq_false_iff_ne.mpr (cT (aam hb)),[],.nil,jP h⟩
theorem Qq {P:aX} {w:aZ} {H:Hp} (h:Heap) (hb:cE < h.objs.size):cj P w H `ev h.objs.size (.dT []):=
 ⟨aai _,beq_eq_false_iff_ne.mpr (cT (aam hb)),[],.nil,_,#[],0,aJ _ rfl,⟨rfl,rfl,rfl⟩,rfl,rfl,acx⟩
def Oj:TE:=λ_ H Q=>∀p,H p=none→Q `aW (upd H p `bU)
def Se:TE:=λ_ H Q=>∀p,H p=none→Q `aW (upd H p (.dT []))
section
variable {X:Cx} {pos:Pos}
theorem yz:PE X (.Dict [] [] pos) Oj:=λpins s σ H Q I h=>
 wpAny_Dict_empty ⟨.ref s.heap.objs.size,_,I.laid (a:=s.heap.objs.size) (o:=.dK []) (t':=s.toks) (λ_ _ q=>aE _ q) (aa3 _) (Ff s.heap I.big),rfl,h _ `au⟩
theorem Of:PE X (.Dict [] [] pos) Se:=λpins s σ H Q I h=>
 wpAny_Dict_empty ⟨.ref s.heap.objs.size,_,I.laid (a:=s.heap.objs.size) (o:=.dT []) (t':=s.toks) (λ_ _ q=>aE _ q) (aa3 _) (Qq s.heap I.big),rfl,h _ `au⟩
end
def vh:List (TE×TE)→St→Hp→(List (V×V)→Hp→Prop)→Prop
 | [],_,H,Q=>Q [] H
 | (tk,tv)::r,σ,H,Q=>tk σ H λx H1=>tv σ H1 λy H2=>vh r σ H2 λps H3=>Q ((x,y)::ps) H3
abbrev VV:List (V×V)→List (aD×aD)→Prop:=Paired λp q=>RelV p.1 q.1∧RelV p.2 q.2
def PPs (X:Cx) (pos:Pos) (keys:List (Option Expr)) (values:List Expr) (trs:List (TE×TE)):Prop:=
 ∀(pins:List (Addr×Obj)) (s:aF) (σ:St) (H:Hp) (Q:List (V×V)→Hp→Prop),Inv X pins σ H s→vh trs σ H Q→
  aI `d X.A (evalPairs (pairTrees keys values X.env pos)) (λvs s'=>∃ps H',Inv X pins σ H' s'∧VV ps vs∧Q ps H') X.xe s
theorem El {X:Cx} {pos:Pos}:PPs X pos [] [] []:=λpins s σ H Q I h=>pairTrees_nil_walk ⟨[],H,I,.nil,h⟩
theorem Oi {X:Cx} {pos:Pos} {k v:Expr} {ks:List (Option Expr)} {vs:List Expr} {tk tv:TE} {trs:List (TE×TE)} (hk:PE X k tk) (hv:PE X v tv) (hr:PPs X pos ks vs trs):
  PPs X pos (aA k::ks) (v::vs) ((tk,tv)::trs):=λpins s σ H Q I h=>
 pairTrees_cons_walk (thn (hk pins s σ H _ I h) λu s1 ⟨x,H1,I1,rx,q1⟩=>thn (hv pins s1 σ H1 _ I1 q1) λw2 s2 ⟨y,H2,I2,ry,q2⟩=>
  thn (hr pins s2 σ H2 _ I2 q2) λws s3 ⟨ps,H3,I3,rel,q3⟩=>⟨(x,y)::ps,H3,I3,.cons ⟨rx,ry⟩ rel,q3⟩)
noncomputable def g6 (kvs more:List (Key×V)):List (Key×V):=more.foldl (λacc kv=>putK acc kv.1 kv.2) kvs
theorem KV.merge:∀{more:List (Key×V)} {rs:List (Key×aD)} {kvs:List (Key×V)} {vs:List (Key×aD)},KV more rs→KV kvs vs→KV (g6 kvs more) (jB vs rs):=by
 intro more rs kvs vs r;unfold KV at r;induction r generalizing kvs vs with
 | nil=>intro q;exact q
 | @cons p q ps qs h t ih=>
  intro r0;have e:KV (putK kvs p.1 p.2) (stored vs q.1 q.2):=by
   have:=r0.put p.1 h.2;rw[←h.1];exact this
  exact ih e
theorem qj:∀(more kvs:List (Key×V)),(g6 kvs more).length≤kvs.length+more.length
 | [],kvs=>by show kvs.length≤kvs.length+0;omega
 | p::r,kvs=>by
  have h1:=qj r (putK kvs p.1 p.2);have h2:=ib kvs p.1 p.2;show (g6 (putK kvs p.1 p.2) r).length≤_
  rw[aa8];omega
theorem Al {P:aX} {w:aZ}:∀{kvs:List (Key×V)} {ws:List (aD×aD)},VV (kvs.map λkv=>(kV kv.1,kv.2)) ws→∃rs,Carries `c4 ws rs∧KV kvs rs
 | [],_,r=>by rw[abg] at r;cases r;exact ⟨[],True.intro,.nil⟩
 | p::kvs,_,r=>by
  rw[aas] at r;cases r with
  | @cons a b as bs h t=>
   obtain ⟨rs,c,q⟩:=Al (P:=P) (w:=w) t;obtain ⟨b1,b2⟩:=b;exact ⟨(p.1,b2)::rs,⟨qk h.1,rfl,c⟩,.cons ⟨rfl,h.2⟩ q⟩
def J9 (trs:List (TE×TE)):TE:=λσ H Q=>∀p,H p=none→vh trs σ (upd H p `bU) λps H2=>H2 p=aA `bU∧∃kvs:List (Key×V),ps=kvs.map (λkv=>(kV kv.1,kv.2))∧kvs.length≤15∧Q `aW (upd H2 p (.dK (g6 [] kvs)))
theorem Th {X:Cx} {pos:Pos} {keys:List (Option Expr)} {values:List Expr} {trs:List (TE×TE)} (h:PPs X pos keys values trs) (hall:keys.all (·.isSome)=true) (hl:keys.length=values.length) (h0:keys≠[])
  (h15:keys.length≤15):PE X (.Dict keys values pos) (J9 trs):=by
 intro pins s σ H Q I q;have hn:=I.hok.fresh (aa3 s.heap.objs.size);have I1:=I.laid (a:=s.heap.objs.size) (o:=.dK []) (h':=s.heap.push { cls:=.type "dict",data:=.dict #[] }) (t':=s.toks) (λ_ _ q=>aE _ q) (aa3 _) (Ff s.heap I.big);refine wpAny_Dict_walk (knd:=cm X.prog X.w) hall hl h0 h15 (thn (h pins _ σ _ _ I1 (q _ hn)) λws s2 ⟨ps,H2,I2,rel,e,kvs,ep,lk,q2⟩=>?_);subst ep;obtain ⟨rs,c,rk⟩:=Al (P:=X.prog) (w:=X.w) rel;obtain ⟨z,hd,vs0,r0,dd⟩:=dk_of I2.hok e;cases r0
 refine ⟨rs,c,dd,λh' dd' hs=>⟨.ref s.heap.objs.size,_,?_,rfl,q2⟩⟩;have hz:(g6 [] kvs).length≤sizeLine:=by
  have h1:=qj kvs [];rw[ace] at h1;rw[aV];omega
 have he:∃q,h'.get? s.heap.objs.size=aA q:=let ⟨q,_,_,hq,_⟩:=dd';⟨q,hq⟩
 exact Ds I2 (by rw[e];exact True.intro) hs he (R9 hz hd (rk.merge .nil) dd')
structure M2 (X:Cx) (o:Expr) (m:Str) (apos:Pos) (e f:Expr) (cpos:Pos):Prop where
 base:iJ o m X.env `ek=eval o X.env
 few:((cJ cpos (bB [e,f] X.env)).all (λx=>!x.1)&&(gM cpos (eU [] X.env)).all (λx=>x.1.isSome)
  &&decide (([e,f]:List Expr).length+([]:List iV).length+(if ([]:List iV).isEmpty then 0 else 1) < 30))=true
 line:(apos.endLine==cpos.line)=true
 trees:cJ cpos (bB [e,f] X.env)=[(false,eval e X.env),(false,eval f X.env)]
section
variable {κ:Type} [DecidableEq κ]
theorem Od {kvs:List (κ×V)} {k:κ} (h:bf kvs k=none):¬k∈kvs.map (·.1):=by
 intro m;obtain ⟨p,hp,e⟩:=List.mem_map.mp m;have q:(kvs.any λkv=>decide (kv.1=k))=true:=List.any_eq_true.mpr ⟨p,hp,decide_eq_true e⟩;rw[g9,h] at q;exact absurd q `c
theorem K8:∀{l:List κ} {k:κ},l.Nodup→¬k∈l→(l++[k]).Nodup
 | [],k,_,_=>by simp
 | a::r,k,h,hk=>by
  obtain ⟨h1,h2⟩:=List.nodup_cons.mp h;show (a::(r++[k])).Nodup
  refine List.nodup_cons.mpr ⟨λm=>?_,K8 h2 λm=>hk (List.mem_cons.mpr (ab5 m))⟩;rcases List.mem_append.mp m with q | q
  ·exact h1 q
  ·exact hk (List.mem_cons.mpr (ab6 (List.mem_singleton.mp q).symm))
theorem Ts {kvs:List (κ×V)} {k:κ} (v:V) (hn:(kvs.map (·.1)).Nodup) (h:bf kvs k=none):((putK kvs k v).map (·.1)).Nodup:=by
 rw[Gp v h,aab];exact K8 hn (Od h)
end
def uc (i:Nat):TE:=λσ H Q=>match σ[i]? with | some (aA v)=>Q v H | _=>False
theorem pvD {X:Cx} (i:Nat) {x:Str} {pos:Pos} (hN:X.N[i]?=aA x) (hv:Vis X.env.scope x) (hd:(x==("__debug__":Str))=false) (hcd:(x==("__classdict__":Str))=false):PE X `bp (uc i):=λpins s σ H Q I h=>pv i hN hv hd hcd pins s σ H Q I (by
 unfold uc at h;split at h
 ·exact ⟨_,‹_›,h⟩
 ·exact h.elim)
theorem pl {X:Cx} (i:Nat) {x:Str} {pos:Pos} (hN:X.N[i]?=aA x) (hv:X.env.scope.names.lookup x=aA .local) (hd:(x==("__debug__":Str)||x==("__classdict__":Str))=false):PE X `bp (uc i):=pvD i hN (.inl hv) (Bool.or_eq_false_iff.mp hd).1 (Bool.or_eq_false_iff.mp hd).2
theorem pk {X:Cx} (i:Nat) {x:Str} {pos:Pos} (hN:X.N[i]?=aA x) (hv:X.env.scope.names.lookup x=aA .cell) (hd:(x==("__debug__":Str)||x==("__classdict__":Str))=false):PE X `bp (uc i):=pvD i hN (.inr (.inl hv)) (Bool.or_eq_false_iff.mp hd).1 (Bool.or_eq_false_iff.mp hd).2
theorem pj {i:Nat} {σ:L2.St} {H:Hp} {Q:VK}:uc i σ H Q=∃v,σ[i]?=aA (aA v)∧Q v H:=by
 unfold uc;refine propext ⟨λh=>?_,λ⟨v,e,h⟩=>?_⟩
 ·split at h
  ·exact ⟨_,‹_›,h⟩
  ·exact h.elim
 ·rw[e];exact h
theorem Nv {α:Type} {a:α} {x y:List α}:(a::x=a::y)=(x=y):=propext ⟨λh=>(abl h).2,λh=>by rw[h]⟩
theorem Ud {α:Type} {a b:α}:([a]=[b])=(a=b):=propext ⟨λh=>(abl h).1,λh=>by rw[h]⟩
theorem Ur {α:Type} {a b c d:α}:([a,c]=[b,d])=(a=b∧c=d):=propext ⟨λh=>⟨(abl h).1,(abl (abl h).2).1⟩,λ⟨h,k⟩=>by rw[h,k]⟩
theorem Vz {α:Type} {a b c d e f:α}:([a,c,e]=[b,d,f])=(a=b∧c=d∧e=f):=propext ⟨λh=>⟨(abl h).1,(abl (abl h).2).1,(abl (abl (abl h).2).2).1⟩,λ⟨h,k,l⟩=>by rw[h,k,l]⟩
theorem int_ex {a:Int} {p:Int→Prop}:(∃x,V.int a=V.int x∧p x)=p a:=propext ⟨λ⟨x,e,h⟩=>by cases e;exact h,λh=>⟨a,rfl,h⟩⟩
theorem ref_ex {a:Addr} {p:Addr→Prop}:(∃x,V.ref a=V.ref x∧p x)=p a:=propext ⟨λ⟨x,e,h⟩=>by cases e;exact h,λh=>⟨a,rfl,h⟩⟩
theorem bl_ex {a:Bool} {p:Bool→Prop}:(∃x,V.bl a=V.bl x∧p x)=p a:=propext ⟨λ⟨x,e,h⟩=>by cases e;exact h,λh=>⟨a,rfl,h⟩⟩
theorem Te {a b:Int} {p:Int→Int→Prop}:(∃x y,V.int a=V.int x∧V.int b=V.int y∧p x y)=p a b:=propext ⟨λ⟨x,y,e,e2,h⟩=>by cases e;cases e2;exact h,λh=>⟨a,b,rfl,rfl,h⟩⟩
theorem ifY {c:Prop} [Decidable c] {A B:Prop} (hc:c) (h:A):if c then A else B:=by rw[if_pos hc];exact h
theorem ifN {c:Prop} [Decidable c] {A B:Prop} (hc:¬c) (h:B):if c then A else B:=by rw[if_neg hc];exact h
theorem us0 {α:Type} {P:List α→Prop} {us:List α} (hl:us.length=0) (h:P []):P us:=by
 rw[List.length_eq_zero_iff.mp hl];exact h
theorem usS {α:Type} {P:List α→Prop} {us:List α} {n:Nat} (hl:us.length=n+1) (h:∀a us,us.length=n→P (a::us)):P us:=by
 cases us with
 | nil=>exact absurd hl.symm (Nat.succ_ne_zero n)
 | cons a l=>exact h a l (acy hl)
theorem us1 {α:Type} {P:List α→Prop} {us:List α} (hl:us.length=1) (h:∀a,P [a]):P us:=usS hl λa us hl=>us0 (P:=λus=>P (a::us)) hl (h a)
theorem us2 {α:Type} {P:List α→Prop} {us:List α} (hl:us.length=2) (h:∀a b,P [a,b]):P us:=usS hl λa us hl=>us1 (P:=λus=>P (a::us)) hl (h a)
theorem us3 {α:Type} {P:List α→Prop} {us:List α} (hl:us.length=3) (h:∀a b c,P [a,b,c]):P us:=usS hl λa us hl=>us2 (P:=λus=>P (a::us)) hl (h a)
theorem us4 {α:Type} {P:List α→Prop} {us:List α} (hl:us.length=4) (h:∀a b c d,P [a,b,c,d]):P us:=usS hl λa us hl=>us3 (P:=λus=>P (a::us)) hl (h a)
theorem us5 {α:Type} {P:List α→Prop} {us:List α} (hl:us.length=5) (h:∀a b c d e,P [a,b,c,d,e]):P us:=usS hl λa us hl=>us4 (P:=λus=>P (a::us)) hl (h a)
def Ba (g:Int→Int→V):R2:=λx y H Q=>match x,y with | .int i,.int j=>Q (g i j) H | _,_=>False
def rID (C:Int→Int→Prop) (g:Int→Int→V):R2:=λx y H Q=>match x,y with | .int i,.int j=>C i j∧Q (g i j) H | _,_=>False
def rUD (g:Int→V):V→Hp→VK→Prop:=λx H Q=>match x with | .int i=>Q (g i) H | _=>False
def tBD (t:TE):TT:=λσ H Q=>t σ H λx H1=>match x with | .bl c=>Q c H1 | _=>False
def Ir (t:TE):TO:=λσ H Q=>t σ H λx H1=>match x with | .int i=>Q (aA i) H1 | _=>False
theorem i6:@Ba=@rI0:=by
 funext g x y H Q
 refine propext ⟨λh=>?_,λ⟨i,j,e,f,h⟩=>by subst e;subst f;exact h⟩;unfold Ba at h;split at h
 ·exact ⟨_,_,rfl,rfl,h⟩
 ·exact h.elim
theorem C6:@rID=@rI:=by
 funext C g x y H Q
 refine propext ⟨λh=>?_,λ⟨i,j,e,f,h⟩=>by subst e;subst f;exact h⟩;unfold rID at h;split at h
 ·exact ⟨_,_,rfl,rfl,h⟩
 ·exact h.elim
theorem rUD_eq:@rUD=@rU:=by
 funext g x H Q
 refine propext ⟨λh=>?_,λ⟨i,e,h⟩=>by subst e;exact h⟩;unfold rUD at h;split at h
 ·exact ⟨_,rfl,h⟩
 ·exact h.elim
theorem blD {x:V} {Q:Bool→Prop}:(match x with | .bl c=>Q c | _=>False)=∃c,x=.bl c∧Q c:=by
 refine propext ⟨λh=>?_,λ⟨i,e,h⟩=>by subst e;exact h⟩;split at h
 ·exact ⟨_,rfl,h⟩
 ·exact h.elim
theorem qz:@tBD=@tB:=by
 funext t σ H Q
 exact congrArg (t σ H) (funext λx=>funext λH1=>blD)
theorem Mr:@Ir=@Qb:=by
 funext t σ H Q
 refine congrArg (t σ H) (funext λx=>funext λH1=>propext ⟨λh=>?_,λ⟨i,e,h⟩=>by subst e;exact h⟩);split at h
 ·exact ⟨_,rfl,h⟩
 ·exact h.elim
variable {X:Cx}
theorem U9:OpR X (bY .Add) (Ba λi j=>.int (i+j)):=i6 ▸ op_add
theorem Ub:OpR X (bY .Sub) (Ba λi j=>.int (i - j)):=i6 ▸ op_sub
theorem Dg:OpR X (cG .Lt) (Ba λi j=>.bl (decide (i < j))):=i6 ▸ op_lt
theorem ko:OpR X (cG .Gt) (Ba λi j=>.bl (decide (j < i))):=i6 ▸ op_gt
theorem Jz:OpR X (cG .GtE) (Ba λi j=>.bl (decide (j≤i))):=i6 ▸ op_ge
theorem ju:OpR X (bY .Mult) (rID zx λi j=>.int (i*j)):=C6 ▸ op_mul
theorem Qy:OpR X (bY .FloorDiv) (rID CDiv λi j=>.int (i / j)):=C6 ▸ Uw
theorem Vi:OpR X (bY .Mod) (rID (λ_ j=>0 < j) λi j=>.int (i % j)):=C6 ▸ op_mod
theorem Ux:OpR X (bY .Pow) (rID CPow λi j=>.int (i ^ j.toNat)):=C6 ▸ op_pow
theorem jt:UnR X (unaryOp .USub) (rUD λi=>.int (-i)):=rUD_eq ▸ Pr
theorem V0 {e:Expr} {t:TE} (h:PE X e t) (he:∀whole,mK e X.env whole=(do let v ←whole;standAt e.pos;iU [v] (truthy v))):PT X e (tBD t):=qz ▸ pt_val h he
theorem So {a b:Expr} {pos:Pos} {op:jM} {t:TE} (h:PC X op a b t) (h1:cU op b=false):PT X `bS (tBD t):=qz ▸ pt_cmp h h1
theorem Gg {a b:Expr} {ta tb:TE} {pos:Pos} {op:jM} {r:R2} (ho:OpR X (cG op) r) (ha:PE X a ta) (hb:PE X b tb) (hm:cU op b=false):PT X `bS (tBD `eP):=qz ▸ Vd ho ha hb hm
theorem Ri {e:Expr} {te:TE} (h:PE X e te):PO X (aA e) (Ir te):=Mr ▸ V3 h
def Ci (K:aG):List V→Hp→VK→Prop:=λxs H Q=>match xs with | [.ref p]=>∃ys,(SqL K H p ys∨SqT K H p ys)∧Q (.int ys.length) H | _=>False
def Rc (K:aG):List V→Hp→VK→Prop:=λxs H Q=>match xs with | [.ref p]=>∃ys,(SqL K H p ys∧∀l,H l=none→Q `B (upd H l `dX))∨(SqT K H p ys∧Q `aW H) | _=>False
def Q4:List V→Hp→VK→Prop:=λxs H Q=>match xs with | [.int i]=>Q `cj H | [.bl k]=>Q (.int (if k then 1 else 0)) H | _=>False
theorem Bg:fo X `cN (Ci X.K):=by
 refine Eq.mp (congrArg _ ?_) tm;funext xs H Q
 refine propext ⟨λ⟨p,ys,e,h⟩=>by subst e;exact ⟨ys,h⟩,λh=>?_⟩;unfold Ci at h;split at h
 ·exact h.elim λys h=>⟨_,ys,rfl,h⟩
 ·exact h.elim
theorem Ac:fo X `dV (Rc X.K):=by
 refine Eq.mp (congrArg _ ?_) qm;funext xs H Q
 refine propext ⟨λ⟨p,ys,e,h⟩=>by subst e;exact ⟨ys,h⟩,λh=>?_⟩;unfold Rc at h;split at h
 ·exact h.elim λys h=>⟨_,ys,rfl,h⟩
 ·exact h.elim
theorem As:fo X (.type "int") Q4:=by
 refine Eq.mp (congrArg _ ?_) Ls;funext xs H Q
 refine propext ⟨λh=>?_,λh=>?_⟩
 ·rcases h with ⟨i,e,h⟩ | ⟨k,e,h⟩ <;> subst e <;> exact h
 unfold Q4 at h;split at h
 ·exact .inl ⟨_,rfl,h⟩
 ·exact .inr ⟨_,rfl,h⟩
 ·exact h.elim
end L2
namespace Pc
section
variable {κ:Type} [DecidableEq κ]
noncomputable def Jp (g:κ→Option Int) (k:κ) (v:Int):κ→Option Int:=λx=>if x=k then aA v else g x
theorem vv {g:κ→Option Int} {k:κ} {v:Int}:Jp g k v k=aA v:=if_pos rfl
theorem yd {g:κ→Option Int} {k x:κ} {v:Int} (h:x≠k):Jp g k v x=g x:=if_neg h
end
end Pc
namespace L2
open PySem PySem.Spec PyProof.Rows
theorem lookup_mem {α:Type} {x:Str} {c:α}:∀{l:List (Str×α)},l.lookup x=aA c→(x,c)∈l
 | [],h=>by cases h
 | (y,d)::r,h=>by
  rw[aco] at h;cases e:x==y with
  | true=>
   rw[e] at h;have e':x=y:=eq_of_beq e;cases h
   subst e';exact aa6
  | false=>
   rw[e] at h;exact aa9 _ (lookup_mem h)
noncomputable def m7 (ix:List Nat) (σ:St):St:=ix.map λj=>(σ[j]?).getD none
def SubP (cs:List (Str×Addr)):List (Str×Addr)→Prop
 | []=>True
 | p::r=>cs.lookup p.1=aA p.2∧SubP cs r
theorem SubP.of {cs:List (Str×Addr)}:∀{cl:List (Str×Addr)},SubP cs cl→∀p∈cl,cs.lookup p.1=aA p.2
 | [],_,_,h=>by cases h
 | p::r,⟨h1,h2⟩,q,hq=>by
  rcases List.mem_cons.mp hq with e | e
  ·rw[e];exact h1
  ·exact SubP.of h2 q e
def Eh (X:Cx) (scope:Scope):List Str→List Nat→Prop
 | [],[]=>True
 | x::fr,j::ix=>(X.N[j]?=aA x∧X.env.kindOf x=aA .cell∧(cY scope X.env).names.lookup x=aA .cell)∧Eh X scope fr ix
 | _,_=>False
theorem Eh.len {X:Cx} {scope:Scope}:∀{fr:List Str} {ix:List Nat},Eh X scope fr ix→fr.length=ix.length
 | [],[],_=>rfl
 | x::fr,j::ix,h=>by rw[aa8,aa8,Eh.len h.2]
 | [],_::_,h=>h.elim
 | _::_,[],h=>h.elim
theorem Eh.get {X:Cx} {scope:Scope}:∀{fr:List Str} {ix:List Nat},Eh X scope fr ix→∀(k j:Nat),ix[k]?=aA j→∃x,fr[k]?=aA x∧X.N[j]?=aA x∧X.env.kindOf x=aA .cell∧(cY scope X.env).names.lookup x=aA .cell
 | [],[],_,k,j,e=>by simp at e
 | x::fr,i::ix,h,0,j,e=>by
  have e':i=j:=by simpa using e
  subst e';exact ⟨x,rfl,h.1⟩
 | x::fr,i::ix,h,k+1,j,e=>by
  obtain ⟨y,hy,r⟩:=Eh.get h.2 k j (by simpa using e);exact ⟨y,by simpa using hy,r⟩
 | [],_::_,h,_,_,_=>h.elim
 | _::_,[],h,_,_,_=>h.elim
structure mz (X:Cx) (scope:Scope) (own fr:List Str) (ix:List Nat) (cl:List (Str×Addr)):Prop where
 clos:closureFor scope X.env=pure cl
 kind:scope.kind=.function
 nocell:(scope.names.all λy=>decide (y.2≠.cell))=true
 names:(scope.names.all λy=>decide (y.2≠.local)||decide (scope.names.lookup y.1=aA .local))=true
 sub:SubP X.env.cells cl
 has:((cY scope X.env).names.all λy=>!(decide (y.2=.cell)||decide (y.2=.free))||(cl.lookup y.1).isSome)=true
 out':Eh X scope fr ix
section
variable {X:Cx} {scope:Scope} {own fr:List Str} {ix:List Nat} {cl:List (Str×Addr)}
theorem mz.len (C:mz X scope own fr ix cl):fr.length=ix.length:=C.out'.len
theorem mz.out (C:mz X scope own fr ix cl):∀(k j:Nat),ix[k]?=aA j→∃x,fr[k]?=aA x∧X.N[j]?=aA x∧Vis X.env.scope x∧X.env.kindOf x≠aA .local∧(cY scope X.env).names.lookup x≠aA .local:=λk j e=>by
 obtain ⟨x,h1,h2,h3,h4⟩:=C.out'.get k j e;exact ⟨x,h1,h2,.inr (.inl h3),(by rw[h3];intro z;cases z),(by rw[h4];intro z;cases z)⟩
theorem mz.Sq (C:mz X scope own fr ix cl):∀x∈scope.names,x.2≠.cell:=λx hx=>of_decide_eq_true (List.all_eq_true.mp C.nocell x hx)
theorem mz.Dq (C:mz X scope own fr ix cl):∀x∈scope.names,x.2=.local→scope.names.lookup x.1=aA .local:=λx hx e=>by
 have h:=List.all_eq_true.mp C.names x hx;rw[acs] at h;rcases h with h | h
 ·exact absurd e (of_decide_eq_true h)
 ·exact of_decide_eq_true h
theorem mz.ui (C:mz X scope own fr ix cl):∀x c,cl.lookup x=aA c→X.env.cells.lookup x=aA c:=λx c h=>C.sub.of _ (lookup_mem h)
theorem mz.has' (C:mz X scope own fr ix cl):∀x,((cY scope X.env).names.lookup x=aA .cell∨(cY scope X.env).names.lookup x=aA .free)→∃c,cl.lookup x=aA c:=λx hx=>by
 have key:∀k,(cY scope X.env).names.lookup x=aA k→(k=.cell∨k=.free)→∃c,cl.lookup x=aA c:=λk e hk=>by
  have h:=List.all_eq_true.mp C.has (x,k) (lookup_mem e);rw[acs] at h;rcases h with h | h
  ·rcases hk with rfl | rfl
   ·simp at h
   ·simp at h
  ·exact Option.isSome_iff_exists.mp h
 rcases hx with h | h
 ·exact key _ h `W
 ·exact key _ h (.inr rfl)
end
noncomputable def cxC (X:Cx) (scope:Scope) (cl:List (Str×Addr)) (ns:List Str) (fp:List Addr) (s:aF) (H:Hp):Cx where
 prog:=X.prog
 w:=X.w
 K:=X.K
 mg:=X.mg
 base:=X.base
 A:=X.A
 N:=ns
 s₀:=s
 H₀:=H
 env:=nL scope cl s.heap.objs.size X.env
 outer:=X.stack
 stack:=X.stack
 ex:=fp
 fn:=λ_=>false
 calm:=X.calm
 pn:=[]
 xe:=λ_ _=>False
section
variable {X:Cx} {scope:Scope} {own fr:List Str} {ix:List Nat} {cl:List (Str×Addr)} {pins:List (Addr×Obj)} {σ:St} {H:Hp} {s:aF} {fp:List Addr}
theorem cxC_ok (C:mz X scope own fr ix cl) (I:Inv X pins σ H s) (f:∀b∈fp,ma X pins H b) (lt:∀b∈fp,b < s.heap.objs.size):(cxC X scope cl (own++fr) fp s H).Ok where
 mod:=I.ok.mod
 kind:=C.kind
 glob:=I.ok.glob
 blt:=I.ok.blt
 above:=aa3 _
 inj:=λx y c h1 h2=>I.ok.inj x y c (C.ui x c h1) (C.ui y c h2)
 has:=λx hx=>C.has' x hx
 cab:=λx c h _=>Bool.noConfusion h
 hd:=I.ok.hd
 frames:=I.ok.frames
 stk:=.inl rfl
 exf:=λb hb=>⟨aam (lt b hb),λx c e=>(f b hb).2.2.2.2.1 x c (C.ui x c e)⟩
 bs:=λb o e=>I.bs b o e
 bsz:=ab4 I.ok.bsz I.sz
 noex:=λb o e hb=>by
  rcases (f b hb).2.2.2.1 with z | z
  ·exact I.ok.noex b o e z
  ·exact absurd (aao (aK e) (ab4 I.ok.bsz z)) (abi _)
 exfs:=λb hb z=>by
  rcases List.mem_cons.mp (I.Dj b z) with q | q
  ·exact (f b hb).2.1 q
  ·exact (f b hb).2.2.1 q
 vb:=I.stack
 frf:=I.Ea
theorem Om (C:mz X scope own fr ix cl) (I:Inv X pins σ H s) (f:∀b∈fp,ma X pins H b) (lt:∀b∈fp,b < s.heap.objs.size) {h₁:Heap} {t:Nat} {m:Str→Option aD}
  (hns:h₁.Ns s.heap.objs.size m) (k:∀b o,s.heap.get? b=aA o→h₁.get? b=aA o):
  Inv `E [] (abc own.length none++m7 ix σ) H { s with heap:=h₁,toks:=t } where
 ok:=cxC_ok C I f lt
 os:=rfl
 bare:=I.bare
 base:=Un.kept k
 loc:=⟨m,hns,λi x v e1 e2 e3=>by
  have e1:(own++fr)[i]?=aA x:=e1;by_cases hi:i < own.length
  ·rw[aag (by simpa using hi),ae9] at e2;rw[if_pos hi] at e2;cases e2
  ·have hi':own.length≤i:=aew hi;rw[aad (by simpa using hi')] at e2;rw[aad hi'] at e1;rw[aba] at e2;unfold m7 at e2;rw[aa5] at e2;cases q:ix[i - own.length]? with
   | none=>rw[q] at e2;cases e2
   | some j=>
    rw[q] at e2;have e2':(σ[j]?).getD none=aA v:=aaa e2;obtain ⟨x',hx',hN,hv,hk,hl'⟩:=C.out _ j q;rw[e1] at hx';cases hx'
    have e4:σ[j]?=aA (aA v):=by
     cases z:σ[j]? with
     | none=>rw[z] at e2';cases e2'
     | some w=>rw[z] at e2';exact congrArg aA e2'
    obtain ⟨mX,hnX,hl⟩:=I.loc;obtain ⟨u,r,l⟩:=hl j x v hN e4 hv;rcases l with ⟨kl,_⟩ | ⟨kk,c,ec,z⟩
    ·exact absurd kl hk
    ·have kY:(cY scope X.env).names.lookup x=aA .cell∨(cY scope X.env).names.lookup x=aA .free:=by
      rcases e3 with e3 | e3 | e3
      ·exact absurd e3 hl'
      ·exact .inl e3
      ·exact .inr e3
     obtain ⟨c',hc'⟩:=C.has' x kY;have hcc:=C.ui x c' hc';rw[ec] at hcc;cases hcc
     obtain ⟨o,ho,hd⟩:=z;exact ⟨u,r,.inr ⟨kY,c,hc',⟨o,k c o ho,hd⟩⟩⟩⟩
 cell:=λx c e=>by
  obtain ⟨v,o,ho,hd⟩:=I.cell x c (C.ui x c e);exact ⟨v,o,k c o ho,hd⟩
 free:=I.hok.fresh (aa3 _)
 freeC:=λx c e=>I.freeC x c (C.ui x c e)
 pin:=λp hp=>by cases hp
 hok:=I.hok.kept k
 len:=by
  show (abc own.length none++m7 ix σ).length=(own++fr).length
  rw[aa1,aa1,aba,C.len];unfold m7;rw[aa0]
theorem Rm (I:Inv X pins σ H s) (f:∀b∈fp,ma X pins H b) {ns:List Str} {τ:St} {H':Hp} {s':aF} {pins':List (Addr×Obj)} (J:Inv (cxC X scope cl ns fp s H) pins' τ H' s'):Inv X pins σ H' s':=
 I.call' (ch:=fp) J.os J.base J.hok J.bare λb hb=>⟨(f b hb).2.2.2.1,(f b hb).2.1,(f b hb).2.2.2.2.1,(f b hb).2.2.2.2.2⟩
theorem Ar {σ':St} (I:Inv X pins σ H s) {H':Hp} {s':aF} {h':Heap} (J:Inv X pins σ' H' s') (free:H' s.heap.objs.size=none) (sb:bE s.heap.objs.size s'.heap h'):Inv X pins σ' H' { s' with heap:=h' }:=
 J.turned (it:=s.heap.objs.size) (t':=s'.toks) (λb o hb e=>(sb.2 b hb).trans e) free (ab2 I.lt) (.inr I.sz)
  (λx c e z=>by
   obtain ⟨v,q⟩:=I.cell x c e;exact absurd (z ▸ q.lt) (abi _))
  (λp hp z=>absurd (z ▸ aK (I.pin p hp).1) (abi _))
end
section
variable {prog:aX} {w:aZ} {A:bJ} {R:iC→aF→Prop} {s:aF}
theorem uo {elt target iter:Expr} {ifs:List Expr} {scope:Scope} {pos:Pos} {it acc:aD} {env:Env} (I:Nat→aF→Prop)
  (turn:∀n s,I n s→aI `f A (cS it) (λr s₁=>match r with
   | none=>R (.ok .next) s₁
   | aA v=>aI `f A (eQ target it v) (λ_ s₁'=>aI `f A (iA target env v) (λ_ s₂=>
     aI `f A (forIn ifs true λc r=>if r=true then do let ok ←mK c env (eval c env);pure (gU ok) else pure (gU r)) (λok s₃=>
      if ok=true then aI `f A (eval elt env) (λx s₄=>
       aI `f A (call (.builtin "list.append") [acc,x]) (λ_ s₅=>∃m,m < n∧I m s₅) (kU `f A env λe s'=>R `dP s') s₄) (kU `f A env λe s'=>R `dP s') s₃
      else ∃m,m < n∧I m s₃) (kU `f A env λe s'=>R `dP s') s₂) (kU `f A env λe s'=>R `dP s') s₁') (kU `f A env λe s'=>R `dP s') s₁)
    (kU `f A env λe s'=>R `dP s') s)
  (n:Nat) (h:I n s):
  dO `f A (.compLoop `dZ 0 it acc env) R s:=by
 refine codeAny_loop rfl I (λn s hI=>?_) n h;show aI _ A ((compTurn `dZ 0 it acc env).onRaise (λx=>do noteFrame x env;theTreesLotGoes x)) _ _ s
 refine wpAny_noted ?_;rw[compTurn_list];refine aC (iH (aC (bM (turn n s hI) (λr s₁ h₁=>?_) λ_ _ h'=>h')));cases r with
 | none=>exact aH h₁
 | some v=>
  refine aC (bM h₁ (λ_ s₁' h₁'=>?_) λ_ _ h'=>h');refine aC (bM h₁' (λ_ s₂ h₂=>aC (bM h₂ (λok s₃ h₃=>?_) λ_ _ h'=>h')) λ_ _ h'=>h');cases ok with
  | false=>exact aH ⟨rfl,h₃⟩
  | true=>
   exact aC (aC (bM h₃ (λx s₄ h₄=>aC (bM h₄ (λ_ s₅ h₅=>aH (aH ⟨rfl,h₅⟩)) λ_ _ h'=>h')) λ_ _ h'=>h'))
end
def Jd (X:Cx) (ifs:List Expr) (t:TT):Prop:=
 ∀(pins:List (Addr×Obj)) (s:aF) (σ:St) (H:Hp) (Q:Bool→Hp→Prop),Inv X pins σ H s→t σ H Q→
  aI `d X.A (forIn ifs true λc r=>if r=true then do let ok ←mK c X.env (eval c X.env);pure (gU ok) else pure (gU r)) (TP X pins σ Q) X.xe s
def tNoIf:TT:=λ_ H Q=>Q true H
theorem xj {X:Cx}:Jd X [] tNoIf:=λpins s σ H Q I h=>wpAny_tests_nil ⟨H,I,h⟩
theorem pif1 {X:Cx} {c:Expr} {t:TT} (h:PT X c t):Jd X [c] t:=λpins s σ H Q I q=>wpAny_tests_one (h pins s σ H Q I q)
def LC (n:Nat) (fr:St) (g:TG) (tc:TT) (te:TE) (J:It) (D:Addr) (H1:Hp) (Q:Hp→Prop):Prop:=
 ∃W:Nat→Nat→Hp→Prop,(∃m,W 0 m (upd H1 D `ai))∧∀i m H,W i m H→
  (J.stop i H∧Q H)∨(J.go i H∧∀(τ:St) x H',τ.length=n→J.yld i H x H'→g x (τ++fr) H' λσ2 H2=>(∃τ':St,τ'.length=n∧σ2=τ'++fr)∧tc σ2 H2 λb H3=>
   if b=true then te σ2 H3 λy H4=>∃ys,H4 D=aA `aS∧ys.length < sizeLine∧∃m',m' < m∧W (i+1) m' (upd H4 D (.lst (ys++[y]))) else ∃m',m' < m∧W (i+1) m' H3)
def tLC (n:Nat) (ix:List Nat) (wi:TI) (g:TG) (tc:TT) (te:TE):TE:=λσ H Q=>wi σ H λJ H1=>∀D,H1 D=none→LC n (m7 ix σ) g tc te J D H1 λH'=>Q (.ref D) H'
section
variable {X:Cx} {scope:Scope} {own fr:List Str} {ix:List Nat} {cl:List (Str×Addr)} {elt iter tg:Expr} {ifs:List Expr} {pos:Pos} {wi:TI} {g:TG} {tc:TT} {te:TE}
theorem zu {E:aD→aF→Prop} {RR:aD→Addr→iC→aF→Prop} (C:mz X scope own fr ix cl) (hc:X.calm=true)
  (hg:∀fp s H,PG `E tg g) (ht:∀fp s H,Jd `E ifs tc) (he:∀fp s H,PE `E elt te)
  {pins:List (Addr×Obj)} {σ:St} {H2:Hp} {s2:aF} {it:Addr} {fp:List Addr} {tn:Nat→Heap→Prop} {J:It} {Q:Hp→Prop} (I2:Inv X pins σ H2 s2) (T:Turn X.prog X.w X.K tg J fp it tn) (st2:tn 0 s2.heap) (f2:∀b∈fp,ma X pins H2 b)
  (q:LC own.length (m7 ix σ) g tc te J s2.heap.objs.size H2 Q)
  (hRR:∀(s3 s':aF) (H3 H':Hp) (τ:St),Inv X pins σ H3 s3→Inv X pins σ H' s'→H' s3.heap.objs.size=none→(∃m,s'.heap.Ns s3.heap.objs.size m)→Q H'→RR `aq s3.heap.objs.size (.ok .next) s'):
  aI `d X.A (newList []) (λacc s₃=>aI `d X.A `c3 (λcenv s₄=>
   dO `d X.A `dg (RR acc cenv.locals) s₄) E s₃) E s2:=by
 refine cI ?_;have I3:Inv X pins σ `g { s2 with heap:=s2.heap.push { cls:=.type "list",dict:=none,data:=.seq ([]:List aD).toArray } }:=I2.lnew (t':=s2.toks) (its:=[]) .nil (aai _);have lt2:∀b∈fp,b < s2.heap.objs.size:=λb hb=>by
  obtain ⟨o,e,_⟩:=T.obj 0 _ st2 b hb;exact aK e
 have fneD:∀b∈fp,b≠s2.heap.objs.size:=λb hb=>aam (lt2 b hb);generalize hs3:({ s2 with heap:=s2.heap.push { cls:=.type "list",dict:=none,data:=.seq ([]:List aD).toArray } }:aF)=s3 at I3 ⊢;have hsz:s3.heap.objs.size=s2.heap.objs.size+1:=by rw[←hs3];exact bD ..
 have kp23:∀b o,s2.heap.get? b=aA o→s3.heap.get? b=aA o:=λb o e=>by rw[←hs3];exact aE _ e
 have f3:∀b∈fp,ma X pins `g b:=λb hb=>by
  obtain ⟨f0,fr⟩:=f2 b hb;exact ⟨by rw[ah (fneD b hb)];exact f0,fr⟩
 have lt3:∀b∈fp,b < s3.heap.objs.size:=λb hb=>by rw[hsz];exact acj (lt2 b hb)
 refine wpAny_newFunctionEnv C.Sq (by intro y hy;simp at hy) (λh₁ hns₁ hsb₁=>?_) C.kind;have k34:∀b o,s3.heap.get? b=aA o→h₁.get? b=aA o:=λb o e=>
  (hsb₁.2 b `d9).trans (aE _ e)
 have I4:=Om C I3 f3 lt3 (t:=s3.toks+([]:List (Str×aD)).length) hns₁ k34;have st4:tn 0 h₁:=T.keep 0 _ _ st2 λb _ o e=>k34 b o (kp23 b o e);obtain ⟨W,⟨m0,w0⟩,turn⟩:=q;have loop:∀s4:aF,s4={ s3 with heap:=h₁,toks:=s3.toks+([]:List (Str×aD)).length }→
   dO `d X.A (.compLoop `r 0 `bv `aq (nL scope cl s3.heap.objs.size X.env)) (RR `aq s3.heap.objs.size) s4:=by
  rintro s4 rfl;have stat:∀{H':Hp},(∀b∈fp,H' b=none)→∀b∈fp,ma `ax [] H' b:=λ{H'} hn b hb=>
   ⟨hn b hb,aam (lt3 b hb),I4.ok.exfs b hb,.inl hb,(I4.ok.exf b hb).2,λp hp=>by cases hp⟩
  refine uo (λn s'=>∃i τ H',τ.length=own.length∧Inv `ax [] (τ++m7 ix σ) H' s'∧tn i s'.heap∧(∀b∈fp,H' b=none)∧W i n H') ?_ m0
   ⟨0,abc own.length none,_,aba,I4,st4,λb hb=>(f3 b hb).1,w0⟩
  rintro n s5 ⟨i,τ,H5,hτ,I5,st5,fr5,w5⟩;rcases turn i n H5 w5 with ⟨stop,qn⟩ | ⟨go,step⟩
  ·refine bM (T.done `ax rfl rfl rfl hc i [] s5 _ H5 (λ_ _=>False) I5 (stat fr5) st5 stop) (λr s6 ⟨hr,I6⟩=>?_) λ_ _ z=>z.elim;subst hr;obtain ⟨mm,hmm,_⟩:=I6.loc;exact hRR s3 s6 _ H5 τ I3 (Rm I3 f3 I6) I6.free ⟨mm,hmm⟩ qn
  ·refine bM (T.item `ax rfl rfl rfl hc i [] s5 _ H5 (λ_ _=>False) I5 (stat fr5) st5 go) (λr s6 ⟨u,hr,h6⟩=>?_) λ_ _ z=>z.elim;subst hr;refine bM h6 (λ_ s7 ⟨x,H7,I7,r7,y7,st7,fr7⟩=>?_) λ_ _ z=>z.elim;have I7':=I7.pinned (stat fr7) (T.obj _ _ st7);refine bM `dt (λ_ s8 ⟨σ8,H8,I8,⟨τ',hτ',e8⟩,q8⟩=>?_) λ_ _ z=>z.elim;have fin:∀{H9:Hp} {s9:aF},Inv `ax ([]++vx fp s7.heap) σ8 H9 s9→(∃m',m' < n∧W (i+1) m' H9)→
     ∃m,m < n∧∃i τ H',τ.length=own.length∧Inv `ax [] (τ++m7 ix σ) H' s9∧tn i s9.heap∧(∀b∈fp,H' b=none)∧W i m H':=λ{H9 s9} I9 hw=>by
    obtain ⟨m',hm,w9⟩:=hw;refine ⟨m',hm,i+1,τ',H9,hτ',e8 ▸ I9.og,T.keep _ _ _ st7 λb hb o e=>(I9.pin (b,o) `bl).1,λb hb=>?_,w9⟩;obtain ⟨o,e,d⟩:=T.obj _ _ st7 b hb;exact (I9.pin (b,o) `bl).2.1
   refine bM (ht fp s3 _ _ s8 σ8 H8 _ I8 q8) (λok s9 ⟨H9,I9,q9⟩=>?_) λ_ _ z=>z.elim;cases ok with
   | false=>exact fin I9 q9
   | true=>
    refine bM (he fp s3 _ _ s9 σ8 H9 _ I9 q9) (λy s10 ⟨v10,H10,I10,r10,ys,hD,hz,q10⟩=>?_) λ_ _ z=>z.elim;refine bM (vm (X:=cxC X scope cl (own++fr) fp s3 `g) _ s10 σ8 H10 `aq [v10] _ [y] (λ_ H'=>∃m',m' < n∧W (i+1) m' H') I10 rfl (.cons r10 .nil) ⟨_,ys,v10,rfl,rfl,hD,hz,q10⟩) (λ_ s11 ⟨_,H11,I11,_,q11⟩=>?_) λ_ _ z=>z.elim;exact fin I11 q11
 exact kB (loop _ rfl) (T.self _ 0 _ _ _ st4 (loop _ rfl))
theorem pe_lc (C:mz X scope own fr ix cl) (hc:X.calm=true) (hi:PI X tg iter wi) (hg:∀fp s H,PG `E tg g)
  (ht:∀fp s H,Jd `E ifs tc) (he:∀fp s H,PE `E elt te)
  (hs:∀x,gE iter X.env x=pure x:=by intro _;rfl):PE X `r (tLC own.length ix wi g tc te):=by
 intro pins s σ H Q I h;rw[eval_ListComp];refine fV (use:=none) rfl hs C.clos C.kind C.Dq (thn `bE λv s1 h1=>thn h1 λitv s2 h2=>?_);obtain ⟨it,fp,tn,J,H2,e,I2,T,st2,f2,q⟩:=h2;subst e;refine zu (RR:=λacc D=>compPost `d X.A X.xe none `ag acc D) C hc hg ht he I2 T st2 f2 (q _ `dj) λs3 s' H3 H' τ I3 I' hn hm q'=>?_;obtain ⟨m,hm⟩:=hm;exact ⟨m,hm,λh' sb=>⟨.ref s2.heap.objs.size,H',Ar I3 I' hn sb,rfl,q'⟩⟩
def O8 (i n:Nat) (ix:List Nat) (wi:TI) (g:TG) (tc:TT) (te:TE):TS:=λD σ H=>wi σ H λJ H1=>∀l,H1 l=none→LC n (m7 ix σ) g tc te J l H1 λH'=>D.nx (σ.set i (aA `B)) H'
theorem Sf {i:Nat} {x:Str} {px spos:Pos} (hN:X.N.Nodup) (hx:X.N[i]?=aA x) (hl:Loc X.env.scope x) (C:mz X scope own fr ix cl) (hc:X.calm=true) (hi:PI X tg iter wi)
  (hg:∀fp s H,PG `E tg g) (ht:∀fp s H,Jd `E ifs tc) (he:∀fp s H,PE `E elt te)
  (hsw:mM `r (aA (.Name x px)) spos.line X.env=pure true:=by rfl)
  (hs:∀x,gE iter X.env x=pure x:=by intro _;rfl) (hf:X.fn x=true∨X.env.scope.names.lookup x=aA .local:=by first | exact .inl rfl | exact .inr rfl | assumption):
  PS X (.Assign [.Name x px] `r spos) (O8 i own.length ix wi g tc te):=by
 intro pins s σ H D I h;rw[exec_Assign_Name_used _ _ _ _ hsw];refine aC (iH (aC ?_));show aI _ X.A (do let _ ←comprehension `r scope X.env _ (newList []) false (eval iter X.env) (aA `eU)) _ _ s
 refine aC (bM (fV (use:=aA `eU) (Q:=λ_ s'=>SP X pins D .next s') rfl hs C.clos C.kind C.Dq
  (thn `bE λv s1 h1=>thn h1 λitv s2 h2=>?_)) (λ_ s' hq=>aH (aH hq)) λ_ _ e=>e)
 obtain ⟨it,fp,tn,J,H2,e,I2,T,st2,f2,q⟩:=h2;subst e;refine zu (RR:=λacc C=>compPost `d X.A X.xe (aA `eU) (λ_ s'=>SP X pins D .next s') acc C) C hc hg ht he I2 T st2 f2 (q _ `dj) λs3 s' H3 H' τ I3 I' hn hm q'=>?_;obtain ⟨m,hm⟩:=hm;show aI _ X.A (iA (.Name x px) X.env `aq) _ _ _
 refine nD (Br I' hN hx hl (v:=.ref s2.heap.objs.size) rfl (λs'' I'' hsb=>?_) hf);obtain ⟨a,sba,ha⟩:=hsb;have hne:s3.heap.objs.size≠a:=by
  rcases ha with rfl | ha
  ·exact ab2 I3.lt
  ·obtain ⟨v,qv⟩:=I3.cell x a ha;exact ab2 qv.lt
 exact ⟨m,hm.sameBut sba hne,λh' sb=>⟨_,H',Ar I3 I'' hn sb,q'⟩⟩
end
noncomputable def Its (z:Str):It:=⟨λi _=>i < z.cps.size,λi H x H'=>H'=H∧∃c,z.cps[i]?=aA c∧x=.str ⟨#[c]⟩,λi _=>i=z.cps.size⟩
def iStr (tl:TE):TI:=λσ H R=>tl σ H λx H1=>∃z,x=.str z∧R (Its z) H1
theorem range_all (bs:List Bool) (tr:Nat→Bool) (h:∀(i:Nat) b,bs[i]?=aA b→tr i=b):(abh bs.length).all tr=bs.all id:=by
 apply Bool.eq_iff_iff.mpr
 constructor
 ·intro h1;refine List.all_eq_true.mpr λb hb=>?_;obtain ⟨i,hi⟩:=ab7 hb;have hl:i < bs.length:=(List.getElem?_eq_some_iff.mp hi).1;have:=List.all_eq_true.mp h1 i (List.mem_range.mpr hl);rw[h i b hi] at this;exact this
 ·intro h1;refine List.all_eq_true.mpr λi hi=>?_;have hl:i < bs.length:=List.mem_range.mp hi;have hg:bs[i]?=aA bs[i]:=aa2 hl;rw[h i _ hg];exact List.all_eq_true.mp h1 _ (aaj hl)
section
variable {X:Cx}
theorem qo (hc:X.calm=true):fo X (.builtin "all") (λxs H Q=>∃p bs,xs=[.ref p]∧SqL X.K H p (ael V.bl bs)∧Q (.bl (bs.all id)) H):=by
 intro pins s σ H xs us Q I r h;obtain ⟨p,bs,rfl,hq,q⟩:=h;obtain ⟨u,rfl,rx⟩:=vals1 r;cases rx
 obtain ⟨its,rv,pl,hz⟩:=I.list hq;have hlen:bs.length=its.length:=by rw[←rv.length,aa0]
 refine call_all_walk (dI pl.isList ?_);have hne:p≠s.heap.objs.size:=by
  obtain ⟨o,n,e,_⟩:=pl;exact aam (aK e)
 have I1:Inv X pins σ H { s with heap:=s.heap.push { cls:=.type "list_iterator",data:=.fields #[.ref p,.int 0 0] } }:=I.kept (t':=s.toks) λb o e=>aE _ e;have fp:=I.nu (H':=H) (aa3 s.heap.objs.size) `au;obtain ⟨f0,f1,f2,f3,f4,f5⟩:=fp;refine ⟨s.heap.objs.size,_,_,its.toArray.size,_,_,λi=>(bs[i]?).getD false,rfl,Walks.list (A:=X.A.in1) (by show X.A.handled=none;exact I.ok.hd hc) s.heap.objs.size p hne its.toArray,⟨⟨_,aJ _ rfl,rfl,rfl⟩,?_⟩,?_,λh' tk kk=>?_⟩
 ·obtain ⟨o,ho,r⟩:=pl.isList;exact ⟨o,aE _ ho,r⟩
 ·intro i v s' Q' E' hv hQ;have hv':its[i]?=aA v:=by simpa using hv
  have hi:i < bs.length:=by rw[hlen];exact (List.getElem?_eq_some_iff.mp hv').1
  have hb:(bs.map V.bl)[i]?=aA (V.bl bs[i]):=by rw[aa5,aa2 hi];rfl
  obtain ⟨u',hu',ru'⟩:=rv.get hb;rw[hv'] at hu';cases hu'
  cases ru'
  dsimp only at hQ;rw[aa2 hi] at hQ;exact dH hQ
 ·rw[aae,←hlen,range_all bs _ (λi b e=>by rw[e];rfl)];exact ⟨.bl _,H,I1.turned (it:=s.heap.objs.size) (λb o hb e=>kk b o (by simpa using hb) e) f0 f1 f3 f4 f5,rfl,q⟩
end
noncomputable def cutS (z:Str) (lo hi:Option Int):Str:=⟨((z.cps.toList.drop (HT.sIx z.length 0 lo)).take (HT.sIx z.length z.length hi - HT.sIx z.length 0 lo)).toArray⟩
section
variable {X:Cx}
def rSlS:V→Option Int→Option Int→Hp→VK→Prop:=λx lo hi H Q=>∃z,x=.str z∧z.length≤sizeLine∧Q (.str (cutS z lo hi)) H
noncomputable def u5 (z:Str) (n:Nat):Str:=⟨(abc n z.cps.toList).flatten.toArray⟩
theorem Bs (x:List Nat):∀(n:Nat) (acc:Array Nat),(abc n x.toArray).foldl (·++·) acc=acc++(abc n x).flatten.toArray
 | 0,acc=>by simp
 | n+1,acc=>by
  rw[ad3,aal,Bs x n,ad3,aeu];apply Array.toList_inj.mp
  simp
theorem Ui (z:Str) (n:Int) (h:0≤n):Txt.mul z n=u5 z n.toNat:=by
 unfold Txt.mul u5;by_cases h1:n < 1
 ·rw[if_pos h1];have e:n.toNat=0:=by omega
  rw[e];rfl
 ·rw[if_neg h1];by_cases h2:(n==1||z.length==0)=true
  ·rw[if_pos h2];rw[acs] at h2;rcases h2 with h2 | h2
   ·have e:n=1:=eq_of_beq h2;subst e;show z=⟨(abc 1 z.cps.toList).flatten.toArray⟩
    simp
   ·have e:z.length=0:=eq_of_beq h2;have e0:z.cps=#[]:=Array.eq_empty_of_size_eq_zero e;cases z with
    | mk c=>cases e0;simp
  ·rw[if_neg h2];have e:=Bs z.cps.toList n.toNat #[];have e3:z.cps.toList.toArray=z.cps:=by simp
   rw[e3] at e;rw[e];simp
theorem Ag:OpR X (bY .Mult) (λx y H Q=>∃z n,x=.str z∧y=.int n∧0≤n∧n≤1000∧z.length≤1000∧Q (.str (u5 z n.toNat)) H):=by
 intro pins s σ H x y v u Q I rx ry h;obtain ⟨z,n,rfl,rfl,h0,h1,h2,q⟩:=h;obtain ⟨t,rfl⟩:=rx;obtain ⟨t',rfl⟩:=ry;have hb:z.length*n.toNat≤1000*1000:=ade h2 (by omega);refine SB.mul ⟨by rw[Bool.or_eq_false_iff];exact ⟨decide_eq_false (by omega),decide_eq_false (by omega)⟩,λhn1 _=>?_,λ_ _=>?_⟩ λt' k=>⟨.str _,H,I.tok _,⟨_,rfl⟩,by rw[Ui z n h0];exact q⟩
 ·have hp:0 < n:=by omega
  have h3:(z.length:Int)*n≤1000*n:=Int.mul_le_mul_of_nonneg_right (by omega) h0;have h4:(z.length:Int)≤(2 ^ 63 - 1) / n:=Int.le_ediv_of_mul_le hp (by omega);omega
 ·unfold Builtin.Str.tooLong;exact decide_eq_false (by have:=aV;omega)
theorem ig:fo X `e6 (λxs H Q=>∃x n t b,xs=[x,.ty n]∧wb X.K H x t∧PySem.W.kitOne X.K t (.type n)=aA b∧Q (.bl b) H):=by
 intro pins s σ H xs us Q I r h;obtain ⟨x,n,t,b,rfl,ty,e,q⟩:=h;obtain ⟨u,u2,rfl,r1,r2⟩:=vals2 r;cases (show u2=dA n from r2)
 exact Me I r1 ty e λtk=>⟨.bl b,H,I.tok tk,rfl,q⟩
end
theorem ab {H:Hp} {p:Addr} (h:H p=none) (o:HO):ag H (upd H p o):=λb u q=>by rw[ah (ao q h)];exact q
theorem ag.upd {H H':Hp} {p:Addr} (e:ag H H') (h:H p=none) (o:HO):ag H (L2.upd H' p o):=λb u q=>by rw[ah (ao q h)];exact e b u q
theorem ag.tup {K:aG} {H H':Hp} {a:Addr} {xs:List V} (e:ag H H') (h:SqT K H a xs):SqT K H' a xs:=by
 rcases h with (h | ⟨o,h⟩) | h
 ·exact .inl (.inl (e _ _ h))
 ·exact .inl (.inr ⟨o,e _ _ h⟩)
 ·exact .inr h
def Has (P:aX) (w:aZ) (K:aG) (mg:Str→Option aD) (base:Heap) (k:Nat) (x:Str) (ps:List Str) (sp:Sp):Prop:=
 ∃(f:Addr) (fd:cV),uf P w K mg base CX0 k f fd ps sp∧Binds K fd ps []∧aQ K `db=true∧mg x=aA `db
theorem Has.up {P:aX} {w:aZ} {K:aG} {mg:Str→Option aD} {base:Heap} {j k:Nat} {x:Str} {ps:List Str} {sp:Sp} (h:Has P w K mg base j x ps sp) (l:j≤k):Has P w K mg base k x ps sp:=by
 obtain ⟨f,fd,F,r⟩:=h;exact ⟨f,fd,F.mono l,r⟩
def Def (K:aG) (mg:Str→Option aD) (x:Str) (st:Stmt) (ps:List Str):Prop:=
 ∃(f:Addr) (fd:cV),Fun K x x st f fd∧Binds K fd ps []∧mg x=aA `db
theorem Def.has {P:aX} {w:aZ} {K:aG} {mg:Str→Option aD} {base:Heap} {k:Nat} {x:Str} {st:Stmt} {N ps:List Str} {sp:Sp} (D:Def K mg x st ps) (S:av N ps (ae st)) (len:∀vs H Q E,sp vs H Q E→vs.length=ps.length)
  (hbody:∀(f:Addr) (cdv:aD) (A:bJ) (outer:List Env) (s:aF) (H:Hp) (vs:List V) (Q:VK) (E:XK),j9 k (A.deeper (gR x (ae st) s.heap.objs.size f cdv))→sp vs H Q E→
   ∃t,PSs (xg CX0 P w K mg base N x (ae st) f cdv A outer s H E).nox (aq st) t∧t { nx:=λ_ H'=>Q .non H',rt:=Q } `d5 H):Has P w K mg base (k+1) x ps sp:=by
 obtain ⟨f,fd,F,b,m⟩:=D;exact ⟨f,fd,F.ok S len λcdv A outer s H vs Q E hr h=>hbody f cdv A outer s H vs Q E hr h,b,F.kp,m⟩
section
variable {X:Cx} {k:Nat} {ps:List Str} {sp:Sp} {x:Str} {p pos:Pos} {e:Expr} {es:List Expr} {t:TA}
theorem pe_has (h:Has X.prog X.w X.K X.mg X.base k x ps sp) (hr:j9 k X.A) (ha:PA X (e::es) t) (hg:Gl X x:=by rfl) (hdb:(x==("__debug__":Str))=false:=by decide+kernel)
  (he:bB (e::es) X.env=(false,eval e X.env)::bB es X.env:=by rfl) (hpl:(cJ pos `cs).any (·.1)=false:=by rfl):
  PE X `bI (Oc sp [] E0 t):=by
 obtain ⟨f,fd,F,b,kp,m⟩:=h;exact Vy F hr hg m kp b .nil pass0 ha hdb he hpl
end
theorem Ia {J:It} {fr:St} {tc:TT} {te:TE} {D:Addr} {H1:Hp} {Q:Hp→Prop} (n:Nat) (item:Nat→V) (P:Nat→List V→Prop) (hn:n < sizeLine) (hD:H1 D=none)
  (hgo:∀i H,i < n→ag H1 H→J.go i H) (hyld:∀i H x H',i < n→ag H1 H→J.yld i H x H'→H'=H∧x=item i) (hstop:∀H,ag H1 H→J.stop n H)
  (h0:P 0 [])
  (step:∀i ys H (G:Hp→Prop) (K':V→Hp→Prop),i < n→P i ys→ys.length≤i→ag H1 H→(∀H3,ag H H3→P (i+1) ys→G H3)→(∀y H4,ag H H4→P (i+1) (ys++[y])→K' y H4)→tc ([aA (item i)]++fr) H λb H3=>if b=true then te ([aA (item i)]++fr) H3 K' else G H3)
  (done:∀ys H,P n ys→ys.length≤n→ag H1 H→H D=aA `aS→Q H):LC 1 fr (gh 0) tc te J D H1 Q:=by
 refine ⟨λi m H=>m=n - i∧i≤n∧∃ys,H D=aA `aS∧P i ys∧ys.length≤i∧ag H1 H,⟨n,by simp,aai _,[],aa,h0,aa3 _,ab hD _⟩,?_⟩;rintro i m H ⟨rfl,hi,ys,hys,hP,hl,hS⟩;by_cases hlt:i < n
 ·refine .inr ⟨hgo i H hlt hS,λτ x H' hτ hy=>?_⟩;obtain ⟨e1,e2⟩:=hyld i H x H' hlt hS hy;subst e1 e2;obtain ⟨a,rfl⟩:∃a,τ=[a]:=List.length_eq_one_iff.mp hτ;refine ⟨⟨[aA (item i)],rfl,rfl⟩,step i ys H' (λH3=>∃m',m' < n - i∧m'=n - (i+1)∧i+1≤n∧∃ys,H3 D=aA `aS∧P (i+1) ys∧ys.length≤i+1∧ag H1 H3)
   (λy H4=>∃zs,H4 D=aA (.lst zs)∧zs.length < sizeLine∧∃m',m' < n - i∧m'=n - (i+1)∧i+1≤n∧∃ys,upd H4 D (.lst (zs++[y])) D=aA `aS∧P (i+1) ys∧ys.length≤i+1∧ag H1 (upd H4 D (.lst (zs++[y])))) hlt hP hl hS (λH3 q1 q2=>?_) (λy H4 q1 q2=>?_)⟩
  ·exact ⟨n - (i+1),by omega,rfl,hlt,ys,q1 _ _ hys,q2,adf hl,hS.trans q1⟩
  ·refine ⟨ys,q1 _ _ hys,by omega,n - (i+1),by omega,rfl,hlt,ys++[y],aa,q2,?_,(hS.trans q1).upd hD _⟩;rw[aa1,aa4];omega
 ·have e:i=n:=by omega
  subst e;exact .inl ⟨hstop H hS,done ys H hP hl hS hys⟩
theorem yb {K:aG} {a:Addr} {xs:List V} {fr:St} {tc:TT} {te:TE} {D:Addr} {H1:Hp} {Q:Hp→Prop} (P:Nat→List V→Prop) (hS:SqL K H1 a xs) (hn:xs.length < sizeLine) (hD:H1 D=none) (h0:P 0 [])
  (step:∀i x ys H (G:Hp→Prop) (K':V→Hp→Prop),xs[i]?=aA x→P i ys→ys.length≤i→ag H1 H→(∀H3,ag H H3→P (i+1) ys→G H3)→(∀y H4,ag H H4→P (i+1) (ys++[y])→K' y H4)→tc ([aA x]++fr) H λb H3=>if b=true then te ([aA x]++fr) H3 K' else G H3)
  (done:∀ys H,P xs.length ys→ys.length≤xs.length→ag H1 H→H D=aA `aS→Q H):LC 1 fr (gh 0) tc te (Itl K a) D H1 Q:=by
 have at':∀i,i < xs.length→xs[i]?=aA (xs.getD i .non):=λi hi=>by
  rw[aa7,aa2 hi];rfl
 exact Ia xs.length (λi=>xs.getD i .non) P hn hD (λi H hi hs=>⟨xs,_,hs.seq hS,at' i hi⟩)
  (λi H x H' hi hs hy=>⟨hy.1,aaa ((hy.2 xs (hs.seq hS)).symm.trans (at' i hi))⟩) (λH hs=>⟨xs,hs.seq hS,aa3 _⟩) h0
  (λi ys H G K' hi hp hl hs hG hK=>step i _ ys H G K' (at' i hi) hp hl hs hG hK) done
theorem lz {K:aG} {a:Addr} {xs:List V} {fr:St} {tc:TT} {te:TE} {D:Addr} {H1:Hp} {Q:Hp→Prop} (P:Nat→List V→Prop) (hS:SqT K H1 a xs) (hn:xs.length < sizeLine) (hD:H1 D=none) (h0:P 0 [])
  (step:∀i x ys H (G:Hp→Prop) (K':V→Hp→Prop),xs[i]?=aA x→P i ys→ys.length≤i→ag H1 H→(∀H3,ag H H3→P (i+1) ys→G H3)→(∀y H4,ag H H4→P (i+1) (ys++[y])→K' y H4)→tc ([aA x]++fr) H λb H3=>if b=true then te ([aA x]++fr) H3 K' else G H3)
  (done:∀ys H,P xs.length ys→ys.length≤xs.length→ag H1 H→H D=aA `aS→Q H):LC 1 fr (gh 0) tc te (Itt K a) D H1 Q:=by
 have at':∀i,i < xs.length→xs[i]?=aA (xs.getD i .non):=λi hi=>by
  rw[aa7,aa2 hi];rfl
 exact Ia xs.length (λi=>xs.getD i .non) P hn hD (λi H hi hs=>⟨xs,_,hs.tup hS,at' i hi⟩)
  (λi H x H' hi hs hy=>⟨hy.1,aaa ((hy.2 xs (hs.tup hS)).symm.trans (at' i hi))⟩) (λH hs=>⟨xs,hs.tup hS,aa3 _⟩) h0
  (λi ys H G K' hi hp hl hs hG hK=>step i _ ys H G K' (at' i hi) hp hl hs hG hK) done
theorem Fe {lo:Int} {n:Nat} {fr:St} {tc:TT} {te:TE} {D:Addr} {H1:Hp} {Q:Hp→Prop} (P:Nat→List V→Prop) (hn:n < sizeLine) (hD:H1 D=none) (h0:P 0 [])
  (step:∀(i:Nat) ys H (G:Hp→Prop) (K':V→Hp→Prop),i < n→P i ys→ys.length≤i→ag H1 H→(∀H3,ag H H3→P (i+1) ys→G H3)→(∀y H4,ag H H4→P (i+1) (ys++[y])→K' y H4)→tc ([aA (.int (lo+i))]++fr) H λb H3=>if b=true then te ([aA (.int (lo+i))]++fr) H3 K' else G H3)
  (done:∀ys H,P n ys→ys.length≤n→ag H1 H→H D=aA `aS→Q H):LC 1 fr (gh 0) tc te (Itr lo n) D H1 Q:=
 Ia n (λi=>.int (lo+i)) P hn hD (λi H hi _=>hi) (λi H x H' hi hs hy=>hy) (λH hs=>aa3 _) h0 step done
section
variable {X:Cx} {x:Str} {pos:Pos}
theorem Kt {a:Addr} (hm:X.mg x=aA `p) (hg:Gl X x:=by rfl) (hd:(x==("__debug__":Str))=false:=by decide+kernel):PE X `bp (tC `p):=Td hg hm rfl hd
theorem pe_gty {T:String} (hm:X.mg x=none) (hv:bO x=aA `du) (hg:Gl X x:=by rfl) (hn:x≠"__name__":=by decide+kernel) (hd:(x==("__debug__":Str))=false:=by decide+kernel):PE X `bp (tC (.ty T)):=V1 hg hm hv rfl hn hd
end
theorem dg:bO "len"=aA `cN:=by decide+kernel
theorem b_all:bO "all"=aA (.builtin "all"):=by decide+kernel
theorem gm:bO "isinstance"=aA `e6:=by decide+kernel
theorem Gz:bO "int"=aA (.type "int"):=by decide+kernel
theorem Hj:bO "str"=aA (.type "str"):=by decide+kernel
theorem Ik:bO "list"=aA `cD:=by decide+kernel
theorem fz:bO "tuple"=aA `dV:=by decide+kernel
theorem Jb:bO "dict"=aA `cc:=by decide+kernel
theorem cxOf_K {CX:CXT} {P:aX} {w:aZ} {K:aG} {mg:Str→Option aD} {base:Heap} {N:List Str} {qual:Str} {scope:Scope} {f:Addr} {cd:aD} {A:bJ} {outer:List Env} {s:aF} {H:Hp} {E:XK}:(xg CX P w K mg base N qual scope f cd A outer s H E).K=K:=rfl
theorem nox_K {X:Cx}:X.nox.K=X.K:=rfl
inductive Eb:List Expr→List V→Prop where
 | nil:Eb [] []
 | str {x:Str} {j:Nat} {pos:Pos} {es:List Expr} {vs:List V} (h:Eb es vs):Eb (.Constant (.str x) j pos::es) (.str x::vs)
 | int {i:Int} {j:Nat} {pos:Pos} {es:List Expr} {vs:List V} (h:Eb es vs):Eb (.Constant `cj j pos::es) (.int i::vs)
def tVals (vs:List V):TA:=λ_ H Q=>Q vs H
theorem N2 {X:Cx} {es:List Expr} {vs:List V} (h:Eb es vs):PA X es (tVals vs):=by
 induction h with
 | nil=>exact O4
 | str _ ih=>exact Ed Q7 ih
 | int _ ih=>exact Ed Je ih
def Dc (g:TG) (tb:TS) (D:Ends) (J:It) (σ:St) (H1:Hp):Prop:=∃W:Nat→Nat→St→Hp→Prop,(∃m,W 0 m σ H1)∧∀i m σ H,W i m σ H→
 (J.stop i H∧D.nx σ H)∨(J.go i H∧∃N:St→Hp→Prop,(∀σ' H',N σ' H'→∃m',m' < m∧W (i+1) m' σ' H')∧∀x H',J.yld i H x H'→g x σ H' λσ2 H2=>tb { D with nx:=N,ct:=N,bk:=D.nx } σ2 H2)
theorem T8 (wi:TI) (g:TG) (tb:TS) (D:Ends) (σ:St) (H:Hp):tFor wi g tb D σ H=wi σ H λJ H1=>Dc g tb D J σ H1:=rfl
section
variable {K:aG} {a:Addr} {xs:List V} {g:TG} {tb:TS} {D:Ends} {σ:St} {H:Hp}
theorem i9 (Pv:Nat→St→Hp→Prop) (h0:Pv 0 σ H) (hl:∀i σ H,i≤xs.length→Pv i σ H→SqL K H a xs)
  (hs:∀i x σ H,xs[i]?=aA x→Pv i σ H→g x σ H λσ2 H2=>tb { D with nx:=Pv (i+1),ct:=Pv (i+1),bk:=D.nx } σ2 H2) (hd:∀σ H,Pv xs.length σ H→D.nx σ H):Dc g tb D (Itl K a) σ H:=Oe Pv h0 hl hs hd
theorem ic (Pv:Nat→St→Hp→Prop) (h0:Pv 0 σ H) (hl:∀i σ H,i≤xs.length→Pv i σ H→SqT K H a xs)
  (hs:∀i x σ H,xs[i]?=aA x→Pv i σ H→g x σ H λσ2 H2=>tb { D with nx:=Pv (i+1),ct:=Pv (i+1),bk:=D.nx } σ2 H2) (hd:∀σ H,Pv xs.length σ H→D.nx σ H):Dc g tb D (Itt K a) σ H:=Ss Pv h0 hl hs hd
theorem rq {lo:Int} {n:Nat} (Pv:Nat→St→Hp→Prop) (h0:Pv 0 σ H)
  (hs:∀i σ H,i < n→Pv i σ H→g (.int (lo+i)) σ H λσ2 H2=>tb { D with nx:=Pv (i+1),ct:=Pv (i+1),bk:=D.nx } σ2 H2) (hd:∀σ H,Pv n σ H→D.nx σ H):Dc g tb D (Itr lo n) σ H:=Nr Pv h0 hs hd
end
end L2
namespace L2
open PySem PySem.Spec PyProof.Rows Builtin Builtin.Str
def ModD (w:aZ) (K:aG) (a:Addr) (kvs:List (Key×V)):Prop:=
 (a==cE)=false∧∀(P:aX) (h:Heap),K.In h→∃vs,KV kvs vs∧h.DictOf `c4 a vs
abbrev Lo:=Int×Str×Tok×Int×Tok
noncomputable def siE (e:Lo):DictEntry:=⟨e.1,.str e.2.1 e.2.2.1,.int e.2.2.2.1 e.2.2.2.2⟩
theorem Gd (P:aX) (w:aZ):∀es:List Lo,Pairs `c4 (es.map siE) (es.map λe=>((aM e.2.1:Key),hX e.2.2.2.1 e.2.2.2.2))
 | []=>.nil
 | e::r=>.cons (nj P w e.2.1 e.2.2.1) rfl (Gd P w r)
theorem si_kv:∀es:List Lo,KV (es.map λe=>((aM e.2.1:Key),V.int e.2.2.2.1)) (es.map λe=>((aM e.2.1:Key),hX e.2.2.2.1 e.2.2.2.2))
 | []=>.nil
 | e::r=>.cons ⟨rfl,⟨_,rfl⟩⟩ (si_kv r)
theorem Ti {w:aZ} {K:aG} {a:Addr} {ep:Nat} (es:List Lo) (hl:K.lookup a=aA ⟨.type "dict",none,.dict (es.map siE).toArray ep,#[]⟩) (ha:(a==cE)=false)
  (hh:∀e∈es,e.1=kN w e.2.1) (nd:(es.map λe=>(aM e.2.1:Key)).Nodup):ModD w K a (es.map λe=>(aM e.2.1,V.int e.2.2.2.1)):=by
 refine ⟨ha,λP h hk=>⟨_,si_kv es,_,_,ep,hk a _ hl,⟨rfl,rfl,rfl⟩,rfl,λe he=>?_,by simpa using Gd P w es,?_⟩⟩
 ·have he':e∈es.map siE:=List.mem_toArray.mp he;obtain ⟨r,hr,rfl⟩:=List.mem_map.mp he';exact ⟨aM r.2.1,nj P w r.2.1 r.2.2.1,hh r hr⟩
 ·rw[abd];exact nd
section
variable {X:Cx} {a:Addr} {kvs:List (Key×V)}
def Rq (kvs:List (Key×V)) (ty tx:TE):TE:=λσ H Q=>ty σ H λy H2=>tx σ H2 λz H3=>∃k,y=kV k∧Q ((bf kvs k).getD z) H3
theorem Pl {o e f:Expr} {apos cpos:Pos} {ty tx:TE} (ho:PE X o (tC `p)) (md:ModD X.w X.K a kvs) (he:PE X e ty) (hf:PE X f tx) (m:M2 X o "get" apos e f cpos):PE X (.Call (.Attribute o "get" apos) [e,f] [] cpos) (Rq kvs ty tx):=by
 intro pins s σ H Q I h;refine wpAny_Call_method m.base m.few m.line jF dP kW (thn (ho pins s σ H (λx H1=>x=.ref a∧H1=H) I ⟨rfl,rfl⟩) λu s1 ⟨x,H1,I1,rx,ex,eH⟩=>?_);subst ex eH;obtain rfl:u=bG a:=rx;obtain ⟨vs,rel,dd⟩:=md.2 X.prog _ I1.kIn;refine ⟨dd.typeIs,λb q=>?_,?_⟩
 ·cases q
  obtain ⟨ob,_,_,h1,h2,_⟩:=dd;exact ⟨ob,h1,h2.2.1⟩
 rw[m.trees];refine gJ rfl (lM (dM (thn (he pins s1 σ H1 _ I1 h) λiv s2 ⟨y,H2,I2,ry,q2⟩=>
  dM (thn (hf pins s2 σ H2 _ I2 q2) λfv s3 ⟨z,H3,I3,rz,k,ek,q3⟩=>eX ?_))))
 subst ek;obtain ⟨vs',rel',dd'⟩:=md.2 X.prog _ I3.kIn;refine mS dP dd'.typeIs gK (gD _ _ _) (kH (cm X.prog X.w) a (qk ry) md.1 fv) ⟨_,dd'.mapOf,⟨_,H3,I3.tok _,?_,q3⟩⟩;exact (rel'.val k).getD rz
noncomputable def Fz:V→Str
 | .str z=>z
 | .int i=>(toString i:String)
 | _=>iB
def wordV:V→Prop
 | .str _=>True
 | .int i=>i.natAbs.log2 < 1920
 | _=>False
theorem me:fo X (.type "str") (λxs H Q=>∃x,xs=[x]∧wordV x∧Q (.str (Fz x)) H):=by
 intro pins s σ H xs us Q I r h;obtain ⟨x,rfl,hw,q⟩:=h;obtain ⟨u,rfl,rx⟩:=vals1 r;cases x with
 | str z=>obtain ⟨t,rfl⟩:=rx;exact PySem.P.str_of_str ⟨.str z,H,I,⟨t,rfl⟩,q⟩
 | int i=>obtain ⟨t,rfl⟩:=rx;exact PySem.P.str_of_int hw ⟨.str _,H,I.tok _,⟨_,rfl⟩,q⟩
 | _=>exact hw.elim
end
end L2
namespace L2
open PySem PySem.Spec PyProof.Rows
section
variable {X:Cx} (K:aG) (hK:X.K=K)
include hK
theorem Gr:IxR X (rIxL K):=by subst hK;exact J1
theorem Ej:IxR X (rIxT K):=by subst hK;exact Ol
theorem Bb:fo X `cN (λxs H Q=>∃p ys,xs=[.ref p]∧(SqL K H p ys∨SqT K H p ys)∧Q (.int ys.length) H):=by subst hK;exact tm
theorem zm:fo X `dV (λxs H Q=>∃p ys,xs=[.ref p]∧((SqL K H p ys∧∀l,H l=none→Q `B (upd H l `dX))∨(SqT K H p ys∧Q `aW H))):=by subst hK;exact qm
theorem yg:OpR X (cG .In) (rIn K false):=by subst hK;exact ja
theorem Qn {tg l:Expr} {tl:TE} (hl:PE X l tl):PI X tg l (Rv K tl):=by subst hK;exact Lk hl
theorem Ll {tg l:Expr} {tl:TE} (hl:PE X l tl):PI X tg l (iTup K tl):=by subst hK;exact Ob hl
theorem pe_bmK {o e:Expr} {es:List Expr} {to:TE} {t:TA} {name:Str} {apos cpos:Pos} {T id:String} {r:V→List V→Hp→VK→Prop} (pa:nR T) (slot:Slot T name id) (hty:typeOf `b7=pure `dW) (hm:MtR X id r) (ho:PE X o to) (ha:PA X (e::es) t)
  (hbase:iJ o name X.env `ek=eval o X.env:=by rfl)
  (hfew:((cJ cpos (bB (e::es) X.env)).all (λx=>!x.1)&&(gM cpos (eU [] X.env)).all (λx=>x.1.isSome)
   &&decide ((e::es).length+([]:List iV).length+(if ([]:List iV).isEmpty then 0 else 1) < 30))=true:=by rfl)
  (hline:(apos.endLine==cpos.line)=true:=by rfl) (hs:bB (e::es) X.env=(false,eval e X.env)::bB es X.env:=by rfl) (hplain:(cJ cpos `cs).any (·.1)=false:=by rfl):
  PE X `eg (tBM K T r to t):=by
 subst hK;exact pe_bm pa slot hty hm ho ha hbase hfew hline hs hplain
end
def tMid (t u:TS):TS:=λD σ H=>∃M:St→Hp→Prop,t { D with nx:=M } σ H∧∀σ' H',M σ' H'→u D σ' H'
theorem g7 {t u:TS} {D:Ends} {σ:St} {H:Hp} (M:St→Hp→Prop) (h1:t { D with nx:=M } σ H) (h2:∀σ' H',M σ' H'→u D σ' H'):tMid t u D σ H:=⟨M,h1,h2⟩
section
variable {X:Cx} {st:Stmt} {rest:List Stmt} {t u:TS}
theorem Vo (h1:PS X st t) (h2:PSs X rest u):PSs X (st::rest) (tMid t u):=by
 intro pins s σ H D I h;obtain ⟨M,h,hM⟩:=h;refine iY (thn (h1 pins s σ H { D with nx:=M } I h) λf s1 q=>?_);cases f with
 | next=>
  obtain ⟨σ',H',I',q⟩:=q;exact h2 pins s1 σ' H' D I' (hM σ' H' q)
 | ret v=>exact q
 | brk=>exact q
 | cont=>exact q
end
theorem Sv {K:aG} {z:Str} {H:Hp}:tyV K "str" (.str z) H=True:=eq_true rfl
theorem bj {K:aG} {a:Addr} {xs:List V} {H:Hp} (h:H a=aA `ab):tyV K "list" (.ref a) H:=.inl ⟨rfl,xs,SqL.of h⟩
theorem Rw {K:aG} {a:Addr} {kvs:List (Key×V)} {H:Hp} (h:H a=aA `aU):tyV K "dict" (.ref a) H:=.inr (.inr (.inl ⟨rfl,.inl ⟨kvs,h⟩⟩))
theorem af {K:aG} {H:Hp} {t:Addr} {xs:List V} {i:Int} {v:V} {Q:VK} (h:H t=aA `aA) (hv:atI xs i=aA v) (q:Q v H):rIxT K `I `cj H Q:=⟨t,xs,i,v,rfl,rfl,SqT.of h,hv,q⟩
theorem ax {K:aG} {H:Hp} {t:Addr} {xs:List V} {i:Int} {v:V} {Q:VK} (h:H t=aA `ab) (hv:atI xs i=aA v) (q:Q v H):rIxL K `I `cj H Q:=⟨t,xs,i,v,rfl,rfl,SqL.of h,hv,q⟩
theorem Em {H:Hp} {a b:Addr} {xs ys:List V} {Q:VK} (h1:H a=aA `ab) (h2:H b=aA `aS) (hz:xs.length+ys.length≤sizeLine) (q:∀p,H p=none→Q `aW (upd H p (.lst (xs++ys)))):rCat `p `aJ H Q:=⟨a,b,xs,ys,rfl,rfl,h1,h2,hz,q⟩
theorem cb {K:aG} {H:Hp} {l:Addr} {xs:List V} {y:V} {Q:VK} (h:H l=aA `ab) (hz:xs.length < sizeLine) (q:Q .non (upd H l (.lst (xs++[y])))):tyV K "list" (.ref l) H∧ou `B [y] H Q:=
 ⟨bj h,l,xs,y,rfl,rfl,h,hz,q⟩
end L2
namespace HT
open PySem PySem.Spec PyProof.Rows L2
section
variable {prog:aX} {w:aZ} {A:bJ} {E:aD→aF→Prop} {s:aF}
theorem R0 {t b:Addr} {vs ws:List aD} {Q:aD→aF→Prop} (ht:iP s.heap t vs.toArray) (hb:iP s.heap b ws.toArray) (hv:vs=[]) (h1:Q `aJ s):aI `f A (bY .Add `I `aJ) Q E s:=by
 obtain ⟨⟨cls,dd,data,sl⟩,ho,hc,n,hd⟩:=id ht;obtain ⟨⟨cls2,dd2,data2,sl2⟩,ho2,hc2,n2,hd2⟩:=id hb;simp only at hc hd hc2 hd2;subst hc hd hc2 hd2;exact mO ⟨_,ho,rfl⟩ ⟨_,ho2,rfl⟩ jA lT gI gC (fT _ _)
  (tuple_addW0 t b vs.toArray ws.toArray n n2 dd dd2 sl sl2 (by simp[hv])) ⟨ho,ho2,h1⟩
theorem qf {t sl:Addr} {items:Array aD} {vl vu:aD} {lo hi:Option Int} {Q:aD→aF→Prop} (ht:iP s.heap t items) (hs:s.heap.IsSliceOf sl vl vu .none) (pl:gS vl lo) (pu:gS vu hi)
  (hw:sIx items.size 0 lo=0∧sIx items.size items.size hi=items.size) (h:Q `I s) (hsz:items.size≤sizeLine):aI `f A (fB `I `bZ) Q E s:=by
 obtain ⟨os,hos,hcs,hds⟩:=id hs;have hTs:s.TypeIs `bZ "slice":=⟨os,hos,hcs⟩;unfold fB;try with_reducible refine bI ?_
 first | refine aC (aH ?_) | skip
 refine aC (iO ht.typeIs `a ?_);refine aC (bK (name:=aB "__getitem__") ht.typeIs bT
  (bN bT ht.typeIs gV ?_ (iD _ _)))
 show aI _ _ (fI `I >>=_) _ _ s
 refine aC (lU ht ?_);refine aC (dC hTs ?_);rw[if_pos `a];refine aC (kf hs pl pu ?_);have hyes:((((sIx items.size 0 lo:Nat):Int)==0&&(1:Int)==1&&(sIx items.size items.size hi - sIx items.size 0 lo)==items.size)=true):=by
  rw[hw.1,hw.2];simp
 show aI _ _ (if (((sIx items.size 0 lo:Nat):Int)==0&&(1:Int)==1&&(sIx items.size items.size hi - sIx items.size 0 lo)==items.size)=true then _ else _) _ _ s
 rw[if_pos hyes];refine aC ?_;show aI _ _ (typeOf `I >>=λv=>pure (v==.type "tuple")) _ _ s
 refine aC (dC ht.typeIs (aH ?_));rw[if_pos `a];refine aC (dZ ?_);first
  | exact aC (aH `bq)
  | exact aH ⟨_,rfl,aH h⟩
  | exact aC `bq
end
end HT
namespace L2
open PySem PySem.Spec PyProof.Rows
section
variable {X:Cx}
def Le:R2:=λx y H Q=>∃a b xs ys,x=.ref a∧y=.ref b∧H a=aA `aA∧H b=aA `dX∧xs.length+ys.length≤sizeLine∧∀p H',ag H H'→H' p=aA (.tup (xs++ys))→Q `aW H'
theorem Um:OpR X (bY .Add) Le:=by
 intro pins s σ H x y v u Q I rx ry h;obtain ⟨a,b,xs,ys,rfl,rfl,ha,hb,hz,q⟩:=h;by_cases hx:xs=[]
 ·subst hx;cases rx
  cases ry
  obtain ⟨its,r1,p1,_⟩:=I.tuple (SqT.of ha);obtain ⟨its2,r2,p2,_⟩:=I.tuple (SqT.of hb);exact HT.R0 p1 p2 (r1.yc.mpr rfl) ⟨.ref b,H,I,rfl,q b H (ag.refl H) hb⟩
 ·refine Vf pins s σ H _ _ v u Q I rx ry ⟨a,b,xs,ys,rfl,rfl,SqT.of ha,SqT.of hb,hx,hz,λe=>?_,λ_ p hp=>q p _ (λc o h=>by rw[ah (ao h hp)];exact h) aa⟩;subst e;exact q a H (ag.refl H) (by rw[ab3];exact ha)
theorem jj {H:Hp} {a b:Addr} {xs ys:List V} {Q:VK} (ha:H a=aA `aA) (hb:H b=aA `dX) (hz:xs.length+ys.length≤sizeLine) (q:∀p H',ag H H'→H' p=aA (.tup (xs++ys))→Q `aW H'):Le `p `aJ H Q:=⟨a,b,xs,ys,rfl,rfl,ha,hb,hz,q⟩
def rSlU:V→Option Int→Option Int→Hp→VK→Prop:=λx lo hi H Q=>∃a xs,x=.ref a∧H a=aA `aA∧∀p H',ag H H'→H' p=aA (.tup `dK)→Q `aW H'
theorem Sk {xs:List V} {lo hi:Option Int} (h:HT.sIx xs.length 0 lo=0∧HT.sIx xs.length xs.length hi=xs.length):jk xs lo hi=xs:=by
 unfold jk;rw[h.1,h.2,acn,aes,ad2]
theorem pf:SlR X rSlU:=by
 intro pins s σ H x v vl vu lo hi sl Q I rx hs pl pu h;obtain ⟨a,xs,rfl,ha,q⟩:=h;by_cases hw:HT.sIx xs.length 0 lo=0∧HT.sIx xs.length xs.length hi=xs.length
 ·cases rx
  obtain ⟨its,r,ht,hz⟩:=I.tuple (SqT.of ha);have hlen:its.toArray.size=xs.length:=by rw[aae];exact r.length.symm
  exact ⟨"tuple",_,PyProof.Rows.slot_tuple_getitem.lookup,ht.typeIs,HT.qf ht hs pl pu (by rw[hlen];exact hw) ⟨.ref a,H,I,rfl,q a H (ag.refl H) (by rw[Sk hw];exact ha)⟩ (by rw[hlen];exact hz)⟩
 ·exact sl_tup pins s σ H _ v vl vu lo hi sl Q I rx hs pl pu ⟨a,xs,rfl,SqT.of ha,hw,λp hp=>q p _ (λc o h=>by rw[ah (ao h hp)];exact h) aa⟩
theorem mi {H:Hp} {a:Addr} {xs:List V} {lo hi:Option Int} {Q:VK} (ha:H a=aA `aA) (q:∀p H',ag H H'→H' p=aA (.tup `dK)→Q `aW H'):rSlU `p lo hi H Q:=⟨a,xs,rfl,ha,q⟩
theorem Uh (k:Key):kh (kV k)=true:=by cases k <;> rfl
end
section
variable {X:Cx} {k:Nat} {ps:List Str} {sp:Sp} {x:Str} {p pos:Pos} {e:Expr} {es:List Expr} {t:TA}
def FnV (P:aX) (w:aZ) (K:aG) (mg:Str→Option aD) (base:Heap) (k:Nat) (ps:List Str) (sp:Sp) (v:V):Prop:=
 ∃(f:Addr) (fd:cV),v=.ref f∧uf P w K mg base CX0 k f fd ps sp∧Binds K fd ps []∧aQ K `db=true
def tCallV (P:aX) (w:aZ) (K:aG) (mg:Str→Option aD) (base:Heap) (k:Nat) (ps:List Str) (i:Nat) (t:TA):TE:=λσ H Q=>∃v sp,σ[i]?=aA (aA v)∧FnV P w K mg base k ps sp v∧t σ H λvs H1=>sp vs H1 Q E0
end
noncomputable def Itv (K:aG) (a:Addr) (n:Nat):It:=
 ⟨λi H=>i < n∧∃xs,SqL K H a xs∧xs.length=n,λi H x H'=>H'=H∧∀xs,SqL K H a xs→xs[n - 1 - i]?=aA x,λi H=>i=n⟩
def iRev (K:aG) (ta:TA):TI:=λσ H R=>ta σ H λvs H1=>∃a xs,vs=[.ref a]∧SqL K H1 a xs∧R (Itv K a xs.length) H1
theorem Jr:bO "reversed"=aA (.type "reversed"):=by decide+kernel
section
variable {CX:CXT} {P:aX} {w:aZ} {K:aG} {mg:Str→Option aD} {base:Heap} {N:List Str} {qual:Str} {scope:Scope} {f:Addr} {cd:aD} {A:bJ} {outer:List Env} {s:aF} {H:Hp} {E:XK}
theorem cxOf_P:(xg CX P w K mg base N qual scope f cd A outer s H E).prog=P:=rfl
theorem cxOf_w:(xg CX P w K mg base N qual scope f cd A outer s H E).w=w:=rfl
theorem Vp:(xg CX P w K mg base N qual scope f cd A outer s H E).mg=mg:=rfl
theorem cxOf_b:(xg CX P w K mg base N qual scope f cd A outer s H E).base=base:=rfl
end
theorem wm {K:aG} {H:Hp} {l:Addr} {xs:List V} {y:V} {Q:VK} (h:H l=aA (.lst (xs++[y]))) (q:Q y (upd H l `ab)):tyV K "list" (.ref l) H∧rPop `B [] H Q:=
 ⟨bj h,l,xs++[y],y,rfl,rfl,h,by rw[aa1,aa4,adw,aad (aa3 _),abz];rfl,by rw[List.dropLast_concat];exact q⟩
def Po:V→List V→Hp→VK→Prop:=λx xs H Q=>∃a y z o,x=.ref a∧xs=[y,z]∧e9 H a y o∧Q (o.getD z) H
section
variable {X:Cx}
theorem Ot (hu:X.A.units+1 < cLine):MtR X "dict.get" Po:=by
 intro pins s σ H x xs v us Q I rx r h;obtain ⟨a,y,z,o,rfl,rfl,g,q⟩:=h;cases (show v=bG a from rx)
 cases r with
 | cons ry rr=>
  cases rr with
  | cons rz rr=>
   cases rr
   rename_i u1 u2
   rcases g with ⟨kvs,k,e,ey,l⟩ | ⟨kvs,k,b,e,ey,eb,l⟩
   ·subst ey;obtain ⟨_,hd,vs,rel,dd⟩:=Av I.hok e;refine mS dP dd.typeIs gK (gD _ _ _) (kH (cm X.prog X.w) a (qk ry) hd u2) ⟨_,dd.mapOf,⟨_,H,I.tok _,?_,q⟩⟩;rw[l];exact rg.getD (rel.val k) rz
   ·subst ey;cases (show u1=bG b from ry)
    obtain ⟨_,hd,xs,rel,dd⟩:=Bw I.hok e;have rv:=rel.val k;rw[←l] at rv;refine bN dP dd.typeIs gK ?_ (gD _ _ _);show aI _ _ (dictGet a `aJ >>=_) _ _ s
    refine aC (wpAny_dictGet_heap (eT hu) `eO dd ?_);have g:=rg.getD rv rz;cases hf:iR xs k with
    | some p=>
     rw[hf] at g;exact aH ⟨p.2,rfl,⟨_,H,I.tok _,g,q⟩⟩
    | none=>
     rw[hf] at g;show aI _ _ (Builtin.Dict.missed a `aJ >>=_) _ _ _
     exact aC (wpAny_missed_other hd (aH ⟨u2,rfl,⟨_,H,I.tok _,g,q⟩⟩))
end
section
variable {X:Cx}
theorem Dk:fo X `cc (λxs H Q=>∃p kvs,xs=[.ref p]∧Rd H p `aU∧∀l,H l=none→Q `B (upd H l `aU)):=by
 intro pins s σ H xs us Q I r h;obtain ⟨p,kvs,rfl,hp,q⟩:=h;obtain ⟨u,rfl,rx⟩:=vals1 r;cases rx
 obtain ⟨z,hd,vs,rv,dd⟩:=Av I.hok hp;refine kt_call_dict hd dd (by rw[←rv.length];exact z) λh' dd' sb=>?_;have hf:H s.heap.objs.size=none:=I.hok.fresh (aa3 _);have hs:(s.heap.objs.size==cE)=false:=beq_eq_false_iff_ne.mpr (ab2 I.big);exact ⟨.ref s.heap.objs.size,_,I.laid (t':=s.toks) (λb o e=>(sb.2 b `d9).trans (aE _ e)) (aa3 _) (show cj X.prog X.w _ h' _ `aU from ⟨z,hs,vs,rv,dd'⟩),rfl,q _ hf⟩
theorem wz:∀{xs:List V} {us:List aD},xs.length=us.length→(∀(i:Nat) (x:V),xs[i]?=aA x→∃u,us[i]?=aA u∧RelV x u)→Vals xs us
 | [],[],_,_=>.nil
 | x::xs,u::us,hl,h=>by
  refine .cons ?_ (wz (by simpa using hl) λi y hy=>?_)
  ·obtain ⟨u',e,r⟩:=h 0 x rfl;cases e
   exact r
  ·obtain ⟨u',e,r⟩:=h (i+1) y (by simpa using hy);exact ⟨u',by simpa using e,r⟩
 | [],_::_,hl,_=>by simp at hl
 | _::_,[],hl,_=>by simp at hl
end
theorem Inv.tf {X:Cx} {pins:List (Addr×Obj)} {σ:St} {H:Hp} {s:aF} {h':Heap} {t':Nat} {fp:List Addr} (I:Inv X pins σ H s) (k:∀b o,b∉fp→s.heap.get? b=aA o→h'.get? b=aA o) (hf:∀b∈fp,ma X pins H b):Inv X pins σ H { s with heap:=h',toks:=t' }:=by
 have nfp:∀b u,H b=aA u→b∉fp:=λb u e z=>by rw[(hf b z).1] at e;cases e
 refine I.step (g':=s.gens) (d':=s.drawn) (ch:=fp) (λb hb=>?_) (λb o _ _ hc e _=>k b o hc e) (λb o _ _ hc e _=>⟨o.slots,k b o hc e⟩) (λ_ _ _ _ n=>n)
  (λb o hc e=>⟨o,k b o hc e⟩) (λ_ _ e=>e) (λ_ _ _ e=>e) (λb ps e=>⟨#[],by rw[e];simp⟩) (λm hm=>?_) (λb u e=>?_) I.bare
 ·obtain ⟨f0,f1,f2,f3,f4,f5⟩:=hf b hb;exact ⟨f3,f1,f4,f5⟩
 ·exact hm.at λo e=>k _ o (λz=>(hf _ z).2.1 rfl) e
 ·exact (I.hok b u e).Hy (λc v hc q=>k c v (by
   rcases hc with rfl | hc
   ·exact nfp _ u e
   ·exact nfp _ _ hc) q) (λ_ q=>q) λ_ _ q=>q
noncomputable def Ite (K:aG) (a:Addr):It:=
 ⟨λi H=>∃xs x,SqL K H a xs∧xs[i]?=aA x,λi H x H'=>∃p y,(∀xs,SqL K H a xs→xs[i]?=aA y)∧H p=none∧x=.ref p∧H'=upd H p (.tup [.int (i:Nat),y]),λi H=>∃xs,SqL K H a xs∧xs.length≤i⟩
theorem Lz {P:aX} {w:aZ} {K:aG} {elts:List Expr} {x1} {tpos:Pos} (a it e:Addr) (hne:e≠it):Turn P w K `cq (Ite K a) [e,it] e (λi h=>(∃old,IsEnum h e it ((i:Nat):Int) old)∧h.IsListIter it a i) where
 mem:=by simp
 obj:=λi h st b hb=>by
  obtain ⟨⟨old,he⟩,o',e',c',d'⟩:=st;rcases List.mem_cons.mp hb with z | z
  ·subst z;exact ⟨_,he,λv z=>by cases z⟩
  ·have z:=List.mem_singleton.mp z;subst z;exact ⟨o',e',λv z=>by rw[d'] at z;cases z⟩
 keep:=λi h h' st k=>⟨by
  obtain ⟨old,he⟩:=st.1;exact ⟨old,k e `c _ he⟩,st.2.at λo' e'=>k it `c o' e'⟩
 item:=by
  intro X hP hw hK hc i pins s σ H E I hf st hg;subst hP hw hK;obtain ⟨xs,x,hq,hx⟩:=hg;obtain ⟨⟨old,he⟩,st2⟩:=st;obtain ⟨its,rv,p,hz⟩:=I.list hq;obtain ⟨u,hu,ru⟩:=rv.get hx;have le:e < s.heap.objs.size:=aK he;have li:it < s.heap.objs.size:=by
   obtain ⟨o',e',_⟩:=st2;exact aK e'
  refine wpAny_pyNext_enum_item he st2 p.isList (x:=u) (by simpa using hu) hne λh1 heo hit1 ht1 hz1 hk1=>⟨_,rfl,?_⟩;refine fJ heo λh2 he2 sb=>?_;have sb:bE e h1 h2:=sb;have hfr:H s.heap.objs.size=none:=I.hok.fresh (aa3 _);have I1:Inv X pins σ (upd H s.heap.objs.size `c9) { s with heap:=s.heap.push { cls:=.type "tuple",data:=.seq #[.int i s.toks,u] },toks:=s.toks+1 }:=
   I.laid (λb o' e'=>aE _ e') (aa3 _) (show cj X.prog X.w _ _ _ `c9 from ⟨by show (2:Nat)≤sizeLine;decide,[.int i s.toks,u],.cons ⟨_,rfl⟩ (.cons ru .nil),⟨_,aJ _ rfl,rfl,_,rfl,rfl⟩⟩)
  have nup:∀b,b < s.heap.objs.size→(upd H s.heap.objs.size `c9) b=H b:=λb hb=>ah (aam hb);have fpl:∀b∈[e,it],b < s.heap.objs.size:=λb hb=>by
   rcases List.mem_cons.mp hb with z | z
   ·rw[z];exact le
   ·rw[List.mem_singleton.mp z];exact li
  have I2:=Inv.tf (h':=h2) (t':=s.toks+1) (fp:=[e,it]) I1 (λb o' hb e'=>by
   have be:b≠e:=λz=>hb (by simp[z]);have bi:b≠it:=λz=>hb (by simp[z]);have e':(s.heap.push { cls:=.type "tuple",data:=.seq #[.int i s.toks,u] }).get? b=aA o':=e';by_cases hbs:b=s.heap.objs.size
   ·subst hbs;rw[aJ _ rfl] at e';cases e'
    exact (sb.2 _ be).trans ht1
   ·rw[gF _ _ _ hbs] at e';exact (sb.2 _ be).trans (hk1 b o' be bi e')) λb hb=>by
   obtain ⟨f0,f⟩:=hf b hb;exact ⟨by rw[nup b `dN];exact f0,f⟩
  have ei:(((i+1:Nat):Int))=(i:Int)+1:=by omega
  refine ⟨.ref s.heap.objs.size,_,I2,rfl,⟨_,x,λys hy=>by rw[I.tj hy hq];exact hx,hfr,rfl,rfl⟩,⟨⟨u,?_⟩,hit1.at λo' e'=>(sb.2 _ hne.symm).trans e'⟩,λb hb=>by rw[nup b `dN];exact (hf b hb).1⟩;rw[ei];exact he2
 done:=by
  intro X hP hw hK hc i pins s σ H E I hf st hg;subst hP hw hK;obtain ⟨xs,hq,hx⟩:=hg;obtain ⟨⟨old,he⟩,st2⟩:=st;obtain ⟨its,rv,p,hz⟩:=I.list hq;have hl:=rv.length;obtain ⟨f0,f1,f2,f3,f4,f5⟩:=hf it `c;exact wpAny_pyNext_enum_end `aH he st2 p.isList (by simp;omega) λh' eb=>⟨rfl,I.turned (t':=s.toks) (λb o' hb e'=>eb b o' hb e') f0 f1 f3 f4 f5⟩
 self:=λ_ _ _ _ _ st h=>by
  obtain ⟨⟨old,he⟩,_⟩:=st;exact dW he h
def iEnum (K:aG) (ta:TA):TI:=λσ H R=>ta σ H λvs H1=>∃a xs,vs=[.ref a]∧SqL K H1 a xs∧R (Ite K a) H1
theorem xc:bO "enumerate"=aA `cQ:=by decide+kernel
section
variable {X:Cx}
theorem Vn {a:Expr} {ta:TA} {p pos tpos:Pos} {elts:List Expr} {x1} (hg:Gl X "enumerate") (hm:X.mg "enumerate"=none) (ha:PA X [a] ta) (hs:bB [a] X.env=[(false,eval a X.env)]:=by rfl):PI X `cq (.Call (.Name "enumerate" p) [a] [] pos) (iEnum X.K ta):=by
 intro pins s σ H R I h;refine Call_ (gj I hg hm xc (bL (thn `aw λus s1 ⟨vs,H1,I1,r1,q1⟩=>?_) hs rfl));obtain ⟨l,xs,e,hq,q⟩:=q1;subst e;cases r1 with
 | cons r rr=>
  cases rr
  cases (show _=bG l from r)
  obtain ⟨its,rv,pl,hz⟩:=I1.list hq;refine call_enumerate_list pl.isList λh' he hit hsz hk=>?_;refine dW he ?_;have I2:Inv X pins σ H1 { s1 with heap:=h' }:=I1.kept (t':=s1.toks) hk;refine ⟨s1.heap.objs.size+1,[s1.heap.objs.size+1,s1.heap.objs.size],_,_,H1,rfl,I2,Lz l _ _ (ae3 _),⟨⟨_,he⟩,hit⟩,λb hb=>?_,q⟩;rcases List.mem_cons.mp hb with z | z
  ·subst z;exact I1.nu (abe _) (I1.hok.fresh (abe _))
  ·rw[List.mem_singleton.mp z];exact I1.nu (aa3 _) `aL
end
theorem Cs {K:aG} {a:Addr} {xs:List V} {g:TG} {tb:TS} {D:Ends} {σ:St} {H:Hp} (Pv:Nat→St→Hp→Prop) (h0:Pv 0 σ H) (hl:∀i σ H,i≤xs.length→Pv i σ H→SqL K H a xs)
  (hs:∀i x σ H p,xs[i]?=aA x→Pv i σ H→H p=none→g `aW σ (upd H p `c9) λσ2 H2=>tb { D with nx:=Pv (i+1),ct:=Pv (i+1),bk:=D.nx } σ2 H2) (hd:∀σ H,Pv xs.length σ H→D.nx σ H):Dc g tb D (Ite K a) σ H:=by
 refine ⟨λi m σ H=>m=xs.length - i∧i≤xs.length∧Pv i σ H,⟨xs.length,by simp,aai _,h0⟩,?_⟩;rintro i m σ H ⟨rfl,hi,p⟩;have q:=hl i σ H hi p;by_cases hlt:i < xs.length
 ·refine .inr ⟨⟨xs,_,q,aa2 hlt⟩,Pv (i+1),λσ' H' p'=>⟨xs.length - (i+1),by omega,rfl,hlt,p'⟩,λx H' y=>?_⟩;obtain ⟨t,v,hv,hn,rfl,rfl⟩:=y;exact hs i v σ H t (hv xs q) p hn
 ·have e:i=xs.length:=by omega
  subst e;exact .inl ⟨⟨xs,q,aa3 _⟩,hd σ H p⟩
end L2
namespace Pc
open PySem PySem.Spec L2 PyProof.Rows
theorem vg {α:Type} (l:List α) (k:Int) (h0:0≤k) (h1:k < (l.length:Int)):∃c,atI l k=aA c∧c∈l:=by
 have hk:k.toNat < l.length:=by omega
 have e:k=((k.toNat:Nat):Int):=by omega
 have q:atI l ((k.toNat:Nat):Int)=aA l[k.toNat]:=bb (aa2 hk);rw[←e] at q;exact ⟨_,q,aaj hk⟩
end Pc
namespace Pc
noncomputable def eat:Nat→List Nat→Option Nat
 | 0,_=>aA 0
 | _+1,[]=>none
 | l+1,a::r=>(eat (l+a) r).map (·+1)
noncomputable def pend:Nat→List Nat→Option Nat
 | l,[]=>aA l
 | 0,_::_=>none
 | l+1,a::r=>pend (l+a) r
noncomputable def starts:Nat→List Nat→List Nat
 | _,[]=>[]
 | p,a::r=>p::(starts (p+1) r).drop a
theorem jd (r:List Nat):eat 0 r=aA 0:=by cases r <;> rfl
theorem ff (l a:Nat) (r:List Nat):eat (l+1) (a::r)=(eat (l+a) r).map (·+1):=rfl
theorem zz:∀(xs ys:List Nat) (l:Nat),pend l (xs++ys)=(pend l xs).bind λm=>pend m ys
 | [],ys,l=>by cases l <;> rfl
 | a::r,ys,0=>rfl
 | a::r,ys,l+1=>by
  show pend (l+a) (r++ys)=(pend (l+a) r).bind _
  exact zz r ys (l+a)
theorem Pd (l a:Nat) (h:0 < l):pend l [a]=aA (l - 1+a):=by
 cases l with
 | zero=>omega
 | succ l=>show aA (l+a)=aA (l+1 - 1+a);rw[adw]
theorem L6 (xs:List Nat) (a l d:Nat) (h:pend l xs=aA d) (hd:0 < d):pend l (xs++[a])=aA (d - 1+a):=by
 rw[zz,h];exact Pd d a hd
theorem rh:∀(r:List Nat) (l n:Nat),eat l r=aA n→n≤r.length
 | r,0,n,h=>by rw[jd] at h;cases h;exact aai _
 | [],l+1,n,h=>by cases h
 | a::r,l+1,n,h=>by
  rw[ff] at h;obtain ⟨m,hm,rfl⟩:=Option.map_eq_some_iff.mp h;have:=rh r (l+a) m hm;rw[aa8];omega
theorem gc:∀(r:List Nat) (l:Nat),pend l r=aA 0→eat l r=aA r.length
 | [],l,h=>by
  cases h
  rfl
 | a::r,0,h=>by cases h
 | a::r,l+1,h=>by
  rw[ff,gc r (l+a) h];rfl
theorem pd (r:List Nat) (l:Nat) (h:pend l r=aA 0) (p:Nat):∃m,pend m (r.drop p)=aA 0:=by
 have e:r=r.take p++r.drop p:=(adk p r).symm;rw[e,zz] at h;cases q:pend l (r.take p) with
 | none=>rw[q] at h;cases h
 | some m=>rw[q] at h;exact ⟨m,h⟩
theorem Fn {m:Nat} {r:List Nat} (h:pend m r=aA 0) (hr:r≠[]):0 < m:=by
 cases r with
 | nil=>exact absurd rfl hr
 | cons a r=>
  cases m with
  | zero=>cases h
  | succ m=>omega
theorem wu:∀(r:List Nat) (l n p:Nat),eat l r=aA n→(starts p r).drop l=starts (p+n) (r.drop n)
 | r,0,n,p,h=>by rw[jd] at h;cases h;rfl
 | [],l+1,n,p,h=>by cases h
 | a::r,l+1,n,p,h=>by
  rw[ff] at h;obtain ⟨m,hm,rfl⟩:=Option.map_eq_some_iff.mp h;show ((starts (p+1) r).drop a).drop l=starts (p+(m+1)) (r.drop m)
  rw[acz,ae4 a l,wu r (l+a) m (p+1) hm];congr 1
  omega
theorem yx:∀(r:List Nat) (l p:Nat),pend l r=aA 0→(starts p r).length=l
 | [],l,p,h=>by
  have:l=0:=aaa h;rw[this];rfl
 | a::r,0,p,h=>by cases h
 | a::r,l+1,p,h=>by
  have ih:=yx r (l+a) (p+1) h;show ((starts (p+1) r).drop a).length+1=l+1
  rw[aau,ih];omega
theorem xa (r:List Nat) (p:Nat) (h:r≠[]):∃t,starts p r=p::t:=by
 cases r with
 | nil=>exact absurd rfl h
 | cons a r=>exact ⟨_,rfl⟩
noncomputable def az (ar:List Nat) (p:Nat):List Nat:=(starts (p+1) `cn).take `eW
theorem Nn (ar:List Nat) (p:Nat) (h:p < ar.length):starts p `aa=p::(starts (p+1) `cn).drop `eW:=by
 rw[aaw h];have e:ar.getD p 0=ar[p]:=by rw[aa7,aa2 h];rfl
 rw[e];rfl
end Pc
namespace Pc
open PySem PySem.Spec L2 PyProof.Rows
noncomputable abbrev parts:List (Key×V):=[(aM "add",.int 2),(aM "sub",.int 2),(aM "mul",.int 2),(aM "neg",.int 1)]
noncomputable def arS (z:Str):Nat:=if z="add" then 2 else if z="sub" then 2 else if z="mul" then 2 else if z="neg" then 1 else 0
noncomputable def arV:V→Nat
 | .str z=>arS z
 | _=>0
def isW (v:V):Prop:=∃k:Key,v=kV k
theorem Nc (k:Key):(bf parts k).getD (.int 0)=.int (arV (kV k)):=by
 cases k with
 | inl i=>rfl
 | inr z=>
  show (bf parts (aM z)).getD (.int 0)=.int (arS z)
  unfold arS;by_cases h1:z="add"
  ·subst h1;rw[de rfl,if_pos rfl];rfl
  rw[cz (λe=>h1 (eB e).symm),if_neg h1];by_cases h2:z="sub"
  ·subst h2;rw[de rfl,if_pos rfl];rfl
  rw[cz (λe=>h2 (eB e).symm),if_neg h2];by_cases h3:z="mul"
  ·subst h3;rw[de rfl,if_pos rfl];rfl
  rw[cz (λe=>h3 (eB e).symm),if_neg h3];by_cases h4:z="neg"
  ·subst h4;rw[de rfl,if_pos rfl];rfl
  rw[cz (λe=>h4 (eB e).symm),if_neg h4];rfl
theorem arS_le (z:Str):arS z≤2:=by
 unfold arS;repeat' split
 all_goals decide
theorem Rk (v:V):arV v≤2:=by cases v <;> first | exact arS_le _ | exact aai _
theorem fk {z:Str} (h:0 < arS z):z="add"∨z="sub"∨z="mul"∨z="neg":=by
 unfold arS at h;by_cases h1:z="add"
 ·exact .inl h1
 by_cases h2:z="sub"
 ·exact .inr (.inl h2)
 by_cases h3:z="mul"
 ·exact .inr (.inr (.inl h3))
 by_cases h4:z="neg"
 ·exact .inr (.inr (.inr h4))
 rw[if_neg h1,if_neg h2,if_neg h3,if_neg h4] at h;exact absurd h `a
def isTerm (ws:List V):Prop:=pend 1 (ws.map arV)=aA 0
theorem isTerm.ne {ws:List V} (h:isTerm ws):ws≠[]:=by
 intro e;rw[e] at h;cases h
def An:Sp:=λvs H Q _=>∃v,vs=[v]∧isW v∧Q (.int (arV v)) H
def gu (d:Addr) (H H':Hp):Prop:=∀b o,b≠d→H b=aA o→H' b=aA o
theorem gu.trans {d:Addr} {H H1 H2:Hp} (a:gu d H H1) (b:gu d H1 H2):gu d H H2:=λc o n h=>b c o n (a c o n h)
theorem gu.of {d:Addr} {H H':Hp} (a:ag H H'):gu d H H':=λb o _ h=>a b o h
noncomputable def Aj (H:Hp) (p:Addr):Nat:=match H p with | some (.lst ws)=>ws.length | _=>0
theorem ke {H:Hp} {p:Addr} {ws:List V} (h:H p=aA (.lst ws)):Aj H p=ws.length:=by unfold Aj;rw[h]
theorem oy {z:Str}:∀{xs:List V},inV `J xs=true→.str z∈xs:=by
 intro xs h;unfold inV at h;obtain ⟨y,hy,e⟩:=List.any_eq_true.mp h;cases y with
 | str x=>
  have e':x=z:=by simpa [eqV] using e
  exact e' ▸ hy
 | _=>simp[eqV] at e
theorem Ip (z:Str) (n:Nat):(u5 z n).cps.toList=(abc n z.cps.toList).flatten:=by unfold u5;simp
theorem yn:arS "neg"=1:=by decide+kernel
noncomputable def opN (z:Str) (a b:Int):Int:=if z="add" then a+b else if z="sub" then a - b else if z="mul" then a*b else -a
def He:V→Prop
 | .int _=>True
 | .str z=>0 < arS z
 | _=>False
noncomputable def ni (w:V) (st:List Int):List Int:=match w with
 | .int i=>i::st
 | .str z=>opN z (st.getD 0 0) (st.getD 1 0)::st.drop (arS z)
 | _=>0::st
noncomputable def runN (ws:List V):List Int:=ws.foldr ni []
theorem ox (w:V) (r:List V):runN (w::r)=ni w (runN r):=rfl
theorem ue:∀(ws:List V) (l:Nat),(∀v∈ws,He v)→pend l (ws.map arV)=aA 0→(runN ws).length=l
 | [],l,_,h=>by
  have:l=0:=aaa h;rw[this];rfl
 | w::r,0,_,h=>by cases h
 | w::r,l+1,hw,h=>by
  have ih:=ue r (l+arV w) (λv hv=>hw v (aa9 _ hv)) h;rw[ox];have hn:=hw w aa6;cases w with
  | int i=>
   show (i::runN r).length=l+1
   rw[aa8,ih];rfl
  | str z=>
   show (_::(runN r).drop (arS z)).length=l+1
   rw[aa8,aau,ih];show l+arS z - arS z+1=l+1
   omega
  | _=>exact hn.elim
theorem Gi:∀(xs ys:List V) (l:Nat),(∀v∈xs,He v)→pend l (xs.map arV)=aA 0→runN (xs++ys)=runN xs++runN ys
 | [],ys,_,_,_=>rfl
 | w::r,ys,0,_,h=>by cases h
 | w::r,ys,l+1,hw,h=>by
  have hr:∀v∈r,He v:=λv hv=>hw v (aa9 _ hv);have ih:=Gi r ys (l+arV w) hr h;have hlen:=ue r (l+arV w) hr h;have hn:=hw w aa6;rw[ad1,ox,ox,ih];cases w with
  | int i=>rfl
  | str z=>
   have ha:0 < arS z:=hn;have hz:(runN r).length=l+arS z:=hlen;show opN z ((runN r++runN ys).getD 0 0) ((runN r++runN ys).getD 1 0)::(runN r++runN ys).drop (arS z)=opN z ((runN r).getD 0 0) ((runN r).getD 1 0)::((runN r).drop (arS z)++runN ys)
   rw[List.drop_append_of_le_length (by omega)];have e0:(runN r++runN ys).getD 0 0=(runN r).getD 0 0:=by
    rw[aa7,aa7,aag (by omega)]
   rw[e0];by_cases h2:arS z=2
   ·have e1:(runN r++runN ys).getD 1 0=(runN r).getD 1 0:=by
     rw[aa7,aa7,aag (by omega)]
    rw[e1]
   ·have hneg:z="neg":=by
     rcases fk ha with rfl | rfl | rfl | rfl
     ·exact absurd `b h2
     ·exact absurd `b h2
     ·exact absurd `b h2
     ·rfl
    subst hneg;have:∀a b b':Int,opN "neg" a b=opN "neg" a b':=λa b b'=>by
     have n1:¬("neg":Str)="add":=by decide+kernel
     have n2:¬("neg":Str)="sub":=by decide+kernel
     have n3:¬("neg":Str)="mul":=by decide+kernel
     unfold opN;rw[if_neg n1,if_neg n2,if_neg n3,if_neg n1,if_neg n2,if_neg n3]
    rw[this]
  | _=>exact hn.elim
noncomputable def mag (x:Int):Nat:=max x.natAbs 2
noncomputable def qi (st:List Int):Nat:=st.foldr (λx p=>mag x*p) 1
theorem mag2 (x:Int):2≤mag x:=Nat.le_max_right _ _
theorem Bm:∀st:List Int,1≤qi st
 | []=>aa3 _
 | x::r=>by
  show 1≤mag x*qi r
  have:=mag2 x;have h:=Bm r;exact ab4 (by omega) (acp (mag x) h)
theorem Ji (x:Int) (r:List Int):qi (x::r)=mag x*qi r:=rfl
theorem mag_le:∀(st:List Int) (x:Int),x∈st→mag x≤qi st
 | y::r,x,h=>by
  rw[Ji];rcases List.mem_cons.mp h with rfl | h
  ·exact acp _ (Bm r)
  ·exact ab4 (mag_le r x h) (aec _ (by have:=mag2 y;omega))
theorem Io {u v:Nat} (hu:2≤u) (hv:2≤v):u+v≤u*v:=by
 obtain ⟨a,rfl⟩:∃a,u=a+2:=⟨u - 2,by omega⟩;obtain ⟨b,rfl⟩:∃b,v=b+2:=⟨v - 2,by omega⟩;have:(a+2)*(b+2)=a*b+2*a+2*b+4:=by
  rw[Nat.add_mul,aed,aed];omega
 omega
theorem Ov (z:Str) (a b:Int):mag `dQ≤mag a*mag b∧(z="neg"→mag `dQ=mag a):=by
 have ha:=mag2 a;have hb:=mag2 b;have hs:=Io ha hb;have la:a.natAbs≤mag a:=ado _ _;have lb:b.natAbs≤mag b:=ado _ _;have le:∀n:Nat,n≤mag a*mag b→max n 2≤mag a*mag b:=λn h=>Nat.max_le.mpr ⟨h,by omega⟩;constructor
 ·unfold opN;split
  ·exact le _ (by have:=Int.natAbs_add_le a b;omega)
  split
  ·exact le _ (by have:=Int.natAbs_sub_le a b;omega)
  split
  ·refine le _ ?_;rw[Int.natAbs_mul];exact ade la lb
  ·refine le _ ?_;rw[adv];have:mag a≤mag a*mag b:=acp _ (by omega);omega
 ·intro e;have n1:¬("neg":Str)="add":=by decide+kernel
  have n2:¬("neg":Str)="sub":=by decide+kernel
  have n3:¬("neg":Str)="mul":=by decide+kernel
  subst e;unfold opN;rw[if_neg n1,if_neg n2,if_neg n3];show max (-a).natAbs 2=max a.natAbs 2
  rw[adv]
def uj:V→Prop
 | .int i=>mag i≤2 ^ 200
 | _=>True
theorem runN_size:∀(ws:List V) (l:Nat),(∀v∈ws,He v∧uj v)→pend l (ws.map arV)=aA 0→qi (runN ws)≤2 ^ (200*ws.length)
 | [],_,_,_=>aa3 _
 | w::r,0,_,h=>by cases h
 | w::r,l+1,hw,h=>by
  have hr:∀v∈r,He v∧uj v:=λv hv=>hw v (aa9 _ hv);have ih:=runN_size r (l+arV w) hr h;have hlen:=ue r (l+arV w) (λv hv=>(hr v hv).1) h;have hn:=hw w aa6;have e:200*(w::r).length=200+200*r.length:=by rw[aa8];omega
  rw[ox,e,Nat.pow_add];have hp:1≤2 ^ 200:=ad9;cases w with
  | int i=>
   show mag i*qi (runN r)≤_
   exact ade hn.2 ih
  | str z=>
   have ha:0 < arS z:=hn.1;have hz:(runN r).length=l+arS z:=hlen;show mag (opN z ((runN r).getD 0 0) ((runN r).getD 1 0))*qi ((runN r).drop (arS z))≤_
   refine ab4 ?_ (ab4 ih (aec _ hp));by_cases hneg:z="neg"
   ·have h1:arS z=1:=by rw[hneg];exact yn
    rw[h1] at hz ⊢;obtain ⟨a,t,et⟩:∃a t,runN r=a::t:=aci (by intro q;rw[q] at hz;simp at hz);rw[et,(Ov z _ _).2 hneg];exact aa3 _
   ·have h2:arS z=2:=by
     rcases fk ha with rfl | rfl | rfl | rfl
     ·decide+kernel
     ·decide+kernel
     ·decide+kernel
     ·exact absurd rfl hneg
    rw[h2] at hz ⊢;obtain ⟨a,t,et⟩:∃a t,runN r=a::t:=aci (by intro q;rw[q] at hz;simp at hz);rw[et] at hz ⊢;obtain ⟨b,t',et'⟩:∃b t',t=b::t':=aci (by intro q;rw[q] at hz;simp at hz);rw[et'];show mag `dQ*qi t'≤mag a*(mag b*qi t')
    rw[←Nat.mul_assoc];exact Nat.mul_le_mul_right _ (Ov z a b).1
  | _=>exact hn.1.elim
end Pc
namespace L2
open PySem PySem.Spec PyProof.Rows
def jh (i:Int):Prop:=∃n,n≤1000000∧i.natAbs < 2 ^ n
theorem jh.le {i:Int} (h:jh i):lX i≤2 ^ 20:=by
 obtain ⟨n,hn,hi⟩:=h;unfold lX;split
 ·exact aai _
 ·rename_i h0
  have hne:i.natAbs≠0:=by
   intro e;exact h0 (by rw[Int.natAbs_eq_zero.mp e];rfl)
  have:=(Nat.log2_lt hne).mpr hi;have e:(2:Nat) ^ 20=1048576:=rfl;omega
def CBits (i j:Int):Prop:=jh i∧jh j
theorem Ee {X:Cx}:OpR X (bY .Mult) (rI CBits λi j=>.int (i*j)):=opI λ_ _ _ _ _ _ _ hc q=>mul_int q (IntMulOk.of_bits hc.1.le hc.2.le)
end L2
namespace Pc
open PySem PySem.Spec L2 PyProof.Rows
theorem Gu {ws:List V} {l:Nat} (hw:∀v∈ws,He v∧uj v) (h:pend l (ws.map arV)=aA 0) (hl:ws.length≤1000) {x:Int} (hx:x∈runN ws):jh x:=by
 refine ⟨200*ws.length+1,by omega,?_⟩;have h1:=mag_le _ _ hx;have h2:=runN_size ws l hw h;have h3:x.natAbs≤mag x:=ado _ _;rw[ae5];have h4:1≤2 ^ (200*ws.length):=ad9;omega
def vd (H:Hp) (a:Addr) (ρ:Str→Option Int):Prop:=∃kvs:List (Key×V),H a=aA `aU∧∀z,bf kvs (aM z)=(ρ z).map V.int
theorem vd.same {H H':Hp} {a:Addr} {ρ:Str→Option Int} (h:vd H a ρ) (s:ag H H'):vd H' a ρ:=by
 obtain ⟨kvs,h1,h2⟩:=h;exact ⟨kvs,s _ _ h1,h2⟩
noncomputable def jz (ρ:Str→Option Int):V→V
 | .str z=>if 0 < arS z then .str z else .int ((ρ z).getD 0)
 | v=>v
def hasV (ρ:Str→Option Int):V→Prop
 | .str z=>0 < arS z∨(ρ z).isSome=true
 | _=>True
theorem O6 (ρ:Str→Option Int) (v:V):arV `ew=arV v:=by
 cases v with
 | str z=>
  show arV (if 0 < arS z then V.str z else V.int _)=arS z
  split
  ·rfl
  ·show 0=arS z
   omega
 | _=>rfl
theorem xp (ρ:Str→Option Int) (ws:List V):(ws.map (jz ρ)).map arV=ws.map arV:=by
 rw[abd];exact adu λv _=>O6 ρ v
theorem ph {ρ:Str→Option Int} {v:V} (h:isW v):He `ew:=by
 obtain ⟨k,rfl⟩:=h;cases k with
 | inl i=>exact True.intro
 | inr z=>
  show He (if 0 < arS z then V.str z else V.int _)
  by_cases h:0 < arS z
  ·rw[if_pos h];exact h
  ·rw[if_neg h];exact True.intro
noncomputable def sd (ρ:Str→Option Int) (ws:List V):Int:=(runN (ws.map (jz ρ))).getD 0 0
def xy:Sp:=λvs H Q _=>∃(z:Str) (pl:Addr) (xs:List Int),vs=[.str z,.ref pl]∧0 < arS z∧H pl=aA (.lst (ael V.int xs))∧xs.length=arS z∧(∀x∈xs,jh x)∧Q (.int (opN z (xs.getD 0 0) (xs.getD 1 0))) H
theorem Dh:∀(r:List Nat) (l:Nat),pend l r=aA 0→l≤r.length
 | [],l,h=>by
  have:l=0:=aaa h;omega
 | a::r,0,h=>by cases h
 | a::r,l+1,h=>by
  have:=Dh r (l+a) h;rw[aa8];omega
theorem uy:∀(r:List Nat) (j k:Nat),eat (j+k) r=(eat j r).bind λs=>(eat k (r.drop s)).map (s+·)
 | r,0,k=>by
  rw[jd,abu];show eat k r=(eat k r).map (0+·)
  cases eat k r with
  | none=>rfl
  | some n=>show aA n=aA (0+n);rw[abu]
 | [],j+1,k=>by
  rw[show j+1+k=(j+k)+1 by omega];rfl
 | a::r,j+1,k=>by
  rw[show j+1+k=(j+k)+1 by omega,ff,ff,show j+k+a=j+a+k by omega,uy r (j+a) k];cases eat (j+a) r with
  | none=>rfl
  | some s=>
   show ((eat k (r.drop s)).map (s+·)).map (·+1)=(eat k (r.drop s)).map (s+1+·)
   cases eat k (r.drop s) with
   | none=>rfl
   | some n=>show aA (s+n+1)=aA (s+1+n);congr 1;omega
theorem Hd:∀(r:List Nat) (k n:Nat),eat k r=aA n→pend k (r.take n)=aA 0
 | r,0,n,h=>by rw[jd] at h;cases h;rfl
 | [],k+1,n,h=>by cases h
 | a::r,k+1,n,h=>by
  rw[ff] at h;obtain ⟨m,hm,rfl⟩:=Option.map_eq_some_iff.mp h;show pend (k+a) (r.take m)=aA 0
  exact Hd r (k+a) m hm
theorem xr:∀(r:List Nat) (k n:Nat),eat (k+1) r=aA n→0 < n
 | [],k,n,h=>by cases h
 | a::r,k,n,h=>by
  rw[ff] at h;obtain ⟨m,hm,rfl⟩:=Option.map_eq_some_iff.mp h;omega
theorem Mm {ws:List V} {p n:Nat} (h:eat 1 `H=aA n):isTerm ((ws.drop p).take n):=by
 have:=Hd _ _ _ h;rw[←adh] at this;exact this
noncomputable def iz (ρ:Str→Option Int) (ws:List V):List Int:=runN (ws.map (jz ρ))
theorem O7 {ρ:Str→Option Int} {xs ys:List V} {l:Nat} (hx:∀v∈xs,isW v) (h:pend l (xs.map arV)=aA 0):iz ρ (xs++ys)=iz ρ xs++iz ρ ys:=by
 unfold iz;rw[aab];refine Gi _ _ l (λv hv=>?_) (by rw[xp];exact h);obtain ⟨u,hu,rfl⟩:=List.mem_map.mp hv;exact ph (hx u hu)
theorem Au {ρ:Str→Option Int} {xs:List V} {l:Nat} (hx:∀v∈xs,isW v) (h:pend l (xs.map arV)=aA 0):(iz ρ xs).length=l:=by
 refine ue _ l (λv hv=>?_) (by rw[xp];exact h);obtain ⟨u,hu,rfl⟩:=List.mem_map.mp hv;exact ph (hx u hu)
theorem Ge {ρ:Str→Option Int} {xs:List V} (hx:∀v∈xs,isW v) (h:isTerm xs):iz ρ xs=[sd ρ xs]:=by
 have hl:=Au (ρ:=ρ) hx h;have e:sd ρ xs=(iz ρ xs).getD 0 0:=rfl;rw[e];match iz ρ xs,hl with
 | [x],_=>rfl
theorem uk (ws:List V) (p:Nat) (h:p≤ws.length):jk ws none (aA (p:Int))=ws.take p:=by
 unfold jk;rw[HT.K4,HT.Hh,ad7 h];rfl
theorem Am (ws:List V) (p n:Nat) (h:p+n≤ws.length):jk ws (aA ((p:Int)+(n:Int))) none=ws.drop (p+n):=by
 unfold jk;rw[show (p:Int)+(n:Int)=((p+n:Nat):Int) by omega,HT.K4,HT.Hh,ad7 h];apply ab0
 rw[aau];omega
theorem Ij {ws:List V} (h:isTerm ws) {p:Nat} {x:V} (hx:ws[p]?=aA x):∃m,pend (m+arV x) ((ws.drop (p+1)).map arV)=aA 0:=by
 have hp:p < ws.length:=(List.getElem?_eq_some_iff.mp hx).1;have hd:ws.drop p=x::ws.drop (p+1):=by
  rw[aaw hp];congr 1
  rw[aa2 hp] at hx;exact aaa hx
 obtain ⟨m,hm⟩:=pd _ 1 h p;rw[←ac6,hd] at hm;cases m with
 | zero=>cases hm
 | succ m'=>exact ⟨m',hm⟩
theorem Ft {x:V} (hx:isW x):(inV x [V.str "add",V.str "sub",V.str "mul"]=true)↔arV x=2:=by
 obtain ⟨k,rfl⟩:=hx;cases k with
 | inl i=>
  constructor
  ·intro h;exact absurd h (by simp[inV,eqV,kV])
  ·intro h;exact absurd h (by show ¬(0=2);decide)
 | inr z=>
  show (inV `J _=true)↔arS z=2
  constructor
  ·intro h;have:=oy h;simp only[aan,aac,or_false,V.str.injEq] at this;rcases this with rfl | rfl | rfl <;> decide+kernel
  ·intro h;rcases fk (z:=z) (by omega) with rfl | rfl | rfl | rfl
   ·decide+kernel
   ·decide+kernel
   ·decide+kernel
   ·rw[yn] at h;exact absurd h `a
theorem neg_is {x:V} (hx:isW x) (h:¬arV x=2):x=.str "neg"↔arV x=1:=by
 constructor
 ·intro e;rw[e];exact yn
 ·intro e;cases x with
  | str z=>
   have e:arS z=1:=e;have h:¬arS z=2:=h;rcases fk (z:=z) (by omega) with rfl | rfl | rfl | rfl
   ·exact absurd `b h
   ·exact absurd `b h
   ·exact absurd `b h
   ·rfl
  | _=>exact absurd e (by show ¬(0=1);decide)
noncomputable def intAt (σ:L2.St) (i:Nat):Nat:=match σ[i]? with | some (aA (.int x))=>x.toNat | _=>0
def yv (K:aG):Sp:=λvs H Q _=>∃(t:Addr) (ws:List V) (p n:Nat),vs=[.ref t,.int (p:Int)]∧SqT K H t ws∧(∀v∈ws,isW v)∧ws.length≤1000∧eat 1 `H=aA n∧∀H',ag H H'→Q (.int ((p:Int)+(n:Int))) H'
section
variable {κ:Type} [DecidableEq κ]
theorem nd_put {kvs:List (κ×V)} {k:κ} (v:V) (hn:(kvs.map (·.1)).Nodup):((putK kvs k v).map (·.1)).Nodup:=by
 cases h:bf kvs k with
 | none=>exact Ts v hn h
 | some y=>
  have e:(putK kvs k v).map (·.1)=kvs.map (·.1):=by
   unfold putK;rw[if_pos (by rw[g9,h];rfl),abd];apply adu
   intro p _;show (if p.1=k then (p.1,v) else p).1=p.1
   split <;> rfl
  rw[e];exact hn
end
inductive gw (vals kvs:List (Key×V)):List V→Int→Int→Prop
 | put (b n:Int):gw vals kvs [.str "put",.int b,.int n] b n
 | load (b:Int) (z:Str) (n:Int) (h:bf vals (aM z)=aA `ef):gw vals kvs [.str "load",.int b,.str z] b n
 | neg (b x m:Int) (h:bf kvs (bA x)=aA (.int m)) (b1:jh m):gw vals kvs [.str "neg",.int b,.int x] b (-m)
 | bin (z:Str) (b x y m n:Int) (hz:arS z=2) (h1:bf kvs (bA x)=aA (.int m)) (h2:bf kvs (bA y)=aA `ef) (b1:jh m) (b2:jh n):gw vals kvs [.str z,.int b,.int x,.int y] b (opN z m n)
theorem gw.at1 {vals kvs:List (Key×V)} {ts:List V} {b n:Int} (h:gw vals kvs ts b n):atI ts 1=aA (.int b):=by cases h <;> rfl
noncomputable def dw (fs:List (Int×Int)):List (Key×V):=fs.foldl (λk p=>putK k (bA p.1) (.int p.2)) []
theorem mq (fs:List (Int×Int)) (b n:Int):dw (fs++[(b,n)])=putK (dw fs) (bA b) `ef:=by
 unfold dw;rw[List.foldl_append];rfl
theorem Cr (fs:List (Int×Int)):(dw fs).length≤fs.length:=by
 have:∀(fs:List (Int×Int)) (kvs:List (Key×V)),(fs.foldl (λk p=>putK k (bA p.1) (.int p.2)) kvs).length≤kvs.length+fs.length:=by
  intro fs;induction fs with
  | nil=>exact λkvs=>aa3 _
  | cons p r ih=>
   intro kvs;have h1:=ih (putK kvs (bA p.1) (.int p.2));have h2:=ib kvs (bA p.1) (.int p.2);show (r.foldl _ (putK kvs (bA p.1) (.int p.2))).length≤_
   rw[aa8];omega
 have h:=this fs [];rw[ace,abu] at h;exact h
def ip (vals:List (Key×V)) (ts:List `o) (fs:List (Int×Int)):Prop:=ts.length=fs.length∧∀(i:Nat) (p:Int×Int),fs[i]?=aA p→∃t,ts[i]?=aA t∧gw vals `a8 t p.1 p.2
theorem ip.nil (vals:List (Key×V)):ip vals [] []:=⟨rfl,λi p h=>by simp at h⟩
theorem ip.snoc {vals:List (Key×V)} {ts:List `o} {fs:List (Int×Int)} (h:ip vals ts fs) {t:List V} {b n:Int} (r:gw vals (dw fs) t b n):ip vals (ts++[t]) (fs++[(b,n)]):=by
 refine ⟨by rw[aa1,aa1,h.1];rfl,λi p hp=>?_⟩;by_cases hi:i < fs.length
 ·rw[aag hi] at hp;obtain ⟨t',h1,h2⟩:=h.2 i p hp;exact ⟨t',by rw[aag (by rw[h.1];exact hi)];exact h1,by rw[List.take_append_of_le_length (ac8 hi)];exact h2⟩
 ·have hl:=(List.getElem?_eq_some_iff.mp hp).1;rw[aa1,aa4] at hl;have e:i=fs.length:=by omega
  subst e;rw[aad (aa3 _),abz] at hp;have e:(b,n)=p:=aaa hp;subst e;refine ⟨t,by rw[aad (by rw[h.1];exact aa3 _),h.1,abz];rfl,?_⟩;rw[List.take_left' rfl];exact r
def Q6 (H:Hp) (rs:List V) (ts:List `o):Prop:=rs.length=ts.length∧∀(i:Nat) (t:List V),ts[i]?=aA t→∃a,rs[i]?=aA `p∧H a=aA (.tup t)
theorem T2 {z:Str} {m n:Int} {e:Nat} (h1:m.natAbs < 2 ^ e) (h2:n.natAbs < 2 ^ e) (he:1≤e):(opN z m n).natAbs < 2 ^ (2*e):=by
 have p2:2 ^ e*2≤2 ^ (2*e):=by rw[←ae5];exact ac4 `a (by omega)
 have pm:m.natAbs*n.natAbs < 2 ^ (2*e):=by
  have:2*e=e+e:=by omega
  rw[this,Nat.pow_add];exact Nat.mul_lt_mul'' h1 h2
 unfold opN;split
 ·omega
 ·split
  ·omega
  ·split
   ·rw[Int.natAbs_mul];exact pm
   ·omega
def xq:Sp:=λvs H Q _=>∃(vl:Addr) (z:Str) (n:Int) (kvs:List (Key×V)),vs=[.str z,.ref vl]∧H vl=aA `aU∧bf kvs (aM z)=aA `ef∧Q `ef H
def wa:Sp:=λvs H Q _=>∃(bx:Addr) (x m:Int) (kvs:List (Key×V)),vs=[.int x,.ref bx]∧H bx=aA `aU∧bf kvs (bA x)=aA (.int m)∧Q (.int m) H
def Aq:Sp:=λvs H Q _=>∃(t bx vl:Addr) (ts:List V) (kvs vals:List (Key×V)) (b n:Int),vs=[.ref t,.ref bx,.ref vl]∧H t=aA (.tup ts)∧H bx=aA `aU∧H vl=aA `cY∧gw vals kvs ts b n∧∀H',ag H H'→Q `ef H'
def N0 (K:aG):Sp:=λvs H Q _=>∃(l vl:Addr) (rs:List V) (ts:List `o) (fs:List (Int×Int)) (vals:List (Key×V)),vs=[.ref l,.ref vl]∧SqL K H l rs∧rs.length≤1000∧Q6 H rs ts∧H vl=aA `cY∧ip vals ts fs∧
 ∀(d:Addr) (H':Hp),ag H H'→H d=none→H' d=aA (.dK (dw fs))→Q `X H'
end Pc
namespace L2
open PySem PySem.Spec PyProof.Rows PySem.SeqAt PySem.MeetsSeq PySem.MeetsSeq2 PySem.MeetsSeq3
open AutoSeq1 (wpAny_loadPart')
end L2
namespace L2
open PySem
theorem Ua:bO "range"=aA (.type "range"):=by decide+kernel
end L2
namespace L2.RvR
open PySem PySem.Spec PySem.Calls PyProof.Rows
end L2.RvR
namespace L2
open PySem PySem.Spec PyProof.Rows RvR
noncomputable def Itd (n:Nat):It:=⟨λi _=>i < n,λi H x H'=>H'=H∧x=.int ((n:Int) - 1 - (i:Int)),λi _=>n≤i⟩
theorem Nq {P:aX} {w:aZ} {K:aG} {tg:Expr} (it:Addr) (n:Nat):Turn P w K tg (Itd n) [it] it (λi h=>jT h it ((n:Int) - 1+(i:Nat)*(-1)) ((n:Int) - (i:Nat)) (-1)) where
 mem:=by simp
 obj:=λi h st b hb=>by
  have e:b=it:=by simpa using hb
  subst e;exact ⟨_,st,λv z=>nomatch (show Data.fields _=Data.cell v from z)⟩
 keep:=λi h h' st k=>k it `c _ st
 item:=by
  intro X hP hw hK hc i pins s σ H E I hf st hg;subst hP hw hK;obtain ⟨f0,f1,f2,f3,f4,f5⟩:=hf it `c;refine (Walks.range (prog:=X.prog) (w:=X.w) `aH it ((n:Int) - 1) (-1) n).item i s _ _ hg st λv h' tk hv st' kk=>?_;obtain ⟨t,rfl⟩:=hv;have I1:Inv X pins σ H { s with heap:=h',toks:=tk }:=I.turned (λb o hb e=>kk b o (by simpa using hb) e) f0 f1 f3 f4 f5;refine ⟨_,rfl,Ks (s:={ s with heap:=h',toks:=tk }) (n:="range_iterator") st' rfl rfl `a ⟨.int ((n:Int) - 1 - (i:Int)),H,I1,⟨t,?_⟩,⟨rfl,rfl⟩,st',λb hb=>(hf b hb).1⟩⟩;congr 1
  omega
 done:=by
  intro X hP hw hK hc i pins s σ H E I hf st hg;subst hP hw hK;obtain ⟨f0,f1,f2,f3,f4,f5⟩:=hf it `c;have hg:n≤i:=hg;exact jU `aH st (by omega) λh' eb=>⟨rfl,I.turned (t':=s.toks) (λb o hb e=>eb b o hb e) f0 f1 f3 f4 f5⟩
 self:=λ_ _ _ _ _ st h=>jV st h
section
variable {X:Cx} {tg:Expr}
theorem Es:fo X (.type "range") (λxs H Q=>∃i j:Int,xs=[.int i,.int j]∧∀l,H l=none→Q `B (upd H l (.rng i j))):=by
 intro pins s σ H xs us Q I r h;obtain ⟨i,j,rfl,q⟩:=h;obtain ⟨u,v,rfl,rx,ry⟩:=vals2 r;obtain ⟨t,rfl⟩:=rx;obtain ⟨t',rfl⟩:=ry;refine call_range_2 ?_;exact ⟨.ref s.heap.objs.size,_,I.laid (λb o e=>aE _ e) (aa3 _) (show cj X.prog X.w _ _ _ (.rng i j) from ⟨_,_,_,aJ _ rfl⟩),rfl,q _ `au⟩
theorem Ah (hc:X.calm=true):fo X `cD (λxs H Q=>∃(p:Addr) (i j:Int),xs=[.ref p]∧H p=aA (.rng i j)∧0≤i∧i≤j∧j≤1000000∧∀l,H l=none→Q `B (upd H l `dH)):=by
 intro pins s σ H xs us Q I r h;obtain ⟨p,i,j,rfl,hp,h0,hij,h1,q⟩:=h;obtain ⟨u,rfl,rx⟩:=vals1 r;cases rx
 have sz:=aV;obtain ⟨t,u,v,e⟩:=(show cj X.prog X.w H s.heap p (.rng i j) from I.hok p _ hp);refine call_list_range (n:=(j - i).toNat) `aH (show IsRange s.heap p i j 1 t u v from e) (small_one (by omega) (by omega) (by omega) (by omega)) (by rw[rangeSize_one];split <;> omega) (by omega) λh' tk acc c' hk hS' hacc=>?_;have rv:Vals ((abh (j - i).toNat).map λk=>V.int (i+(k:Nat))) acc.toList:=by
  refine wz ?_ λm x hx=>?_
  ·rw[aa0,abw,abb,hacc.1]
  ·rw[aa5] at hx;obtain ⟨k,hk',rfl⟩:=Option.map_eq_some_iff.mp hx;obtain ⟨hlt,rfl⟩:=List.getElem?_eq_some_iff.mp hk';rw[abw] at hlt;have hi:m < acc.size:=by rw[hacc.1];exact hlt
   obtain ⟨t',ht'⟩:=hacc.2 m acc[m] (by rw[aax hi]);refine ⟨acc[m],by rw[acd,aax hi],t',?_⟩;rw[ht',List.getElem_range];congr 1
   omega
 refine ⟨.ref s.heap.objs.size,_,I.laid hk (aa3 _) (show cj X.prog X.w _ h' _ `dH from ⟨by rw[aa0,abw];omega,_,c',rv,by simpa using hS'⟩),rfl,q _ `au⟩
end
end L2
namespace L2
open PySem PySem.Spec PyProof.Rows
theorem Sr {K:aG} {a:Addr} {xs:List V} {fr:L2.St} {tc:TT} {te:TE} {D:Addr} {H1:Hp} {Q:Hp→Prop} (P:Nat→List V→Hp→Prop) (mono:∀i ys H H',(∀b o,b≠D→H b=aA o→H' b=aA o)→P i ys H→P i ys H') (hS:SqT K H1 a xs) (hn:xs.length < sizeLine) (hD:H1 D=none) (h0:P 0 [] H1)
  (step:∀i x ys H (G:Hp→Prop) (K':V→Hp→Prop),xs[i]?=aA x→P i ys H→ys.length≤i→ag H1 H→H D=aA `aS→(∀H3,ag H H3→P (i+1) ys H3→G H3)→(∀y H4,ag H H4→P (i+1) (ys++[y]) H4→K' y H4)→tc ([aA x]++fr) H λb H3=>if b=true then te ([aA x]++fr) H3 K' else G H3)
  (done:∀ys H,P xs.length ys H→ys.length≤xs.length→ag H1 H→H D=aA `aS→Q H):LC 1 fr (gh 0) tc te (Itt K a) D H1 Q:=by
 refine ⟨λi m H=>m=xs.length - i∧i≤xs.length∧∃ys,H D=aA `aS∧P i ys H∧ys.length≤i∧ag H1 H,⟨xs.length,by simp,aai _,[],aa,mono _ _ _ _ (λb o hb h=>by rw[ah hb];exact h) h0,aa3 _,ab hD _⟩,?_⟩;rintro i m H ⟨rfl,hi,ys,hys,hP,hl,hs⟩;by_cases hlt:i < xs.length
 ·have hx:xs[i]?=aA xs[i]:=aa2 hlt;refine .inr ⟨⟨xs,_,hs.tup hS,hx⟩,λτ x H' hτ hy=>?_⟩;obtain ⟨e1,e2⟩:=hy;subst e1;obtain rfl:x=xs[i]:=aaa ((e2 xs (hs.tup hS)).symm.trans hx);obtain ⟨c,rfl⟩:∃c,τ=[c]:=List.length_eq_one_iff.mp hτ;refine ⟨⟨[aA xs[i]],rfl,rfl⟩,step i _ ys H' _ _ hx hP hl hs hys (λH3 q1 q2=>?_) (λy H4 q1 q2=>?_)⟩
  ·exact ⟨xs.length - (i+1),by omega,rfl,hlt,ys,q1 _ _ hys,q2,adf hl,hs.trans q1⟩
  ·refine ⟨ys,q1 _ _ hys,by omega,xs.length - (i+1),by omega,rfl,hlt,ys++[y],aa,mono _ _ _ _ (λb o hb h=>by rw[ah hb];exact h) q2,?_,(hs.trans q1).upd hD _⟩;rw[aa1,aa4];omega
 ·obtain rfl:i=xs.length:=by omega
  exact .inl ⟨⟨xs,hs.tup hS,aa3 _⟩,done ys H hP hl hs hys⟩
end L2
namespace Pc
open PySem PySem.Spec L2 PyProof.Rows
noncomputable abbrev plV (q:Nat):V:=V.int ((q:Nat):Int)
def dq (H:Hp) (rs:List Addr) (f:Nat→List Nat):Prop:=∀q,q < rs.length→H (rs.getD q 0)=aA (.lst ((f q).map plV))
theorem getD_mem {rs:List Addr} {q:Nat} (h:q < rs.length):rs.getD q 0∈rs:=by
 rw[aa7,aa2 h];exact aaj h
theorem dq.congr {H:Hp} {rs:List Addr} {f g:Nat→List Nat} (h:dq H rs f) (e:∀q,q < rs.length→g q=f q):dq H rs g:=λq hq=>by
 rw[e q hq];exact h q hq
theorem dq.same {H H':Hp} {rs:List Addr} {f:Nat→List Nat} (h:dq H rs f) (s:ag H H'):dq H' rs f:=λq hq=>s _ _ (h q hq)
theorem dq.other {H:Hp} {rs:List Addr} {f:Nat→List Nat} {b:Addr} {o:HO} (h:dq H rs f) (hb:b∉rs):dq (upd H b o) rs f:=λq hq=>by
 rw[ah λe=>hb (by rw[←e];exact getD_mem hq)];exact h q hq
theorem dq.put {H:Hp} {rs:List Addr} {f:Nat→List Nat} {p:Nat} {xs:List Nat} (h:dq H rs f) (nd:rs.Nodup) (hp:p < rs.length):dq (upd H `dJ (.lst (xs.map plV))) rs (λq=>if q=p then xs else f q):=λq hq=>by
 show upd H `dJ (.lst (xs.map plV)) (rs.getD q 0)=aA (.lst ((if q=p then xs else f q).map plV))
 by_cases e:q=p
 ·subst e;rw[if_pos rfl,aa]
 ·rw[if_neg e,ah]
  ·exact h q hq
  ·intro z;apply e
   rw[aa7,aa7,aa2 hq,aa2 hp] at z;exact (ae1 nd).mp z
theorem dq.out {H:Hp} {rs:List Addr} {f:Nat→List Nat} {b:Addr} (h:dq H rs f) (hb:H b=none):b∉rs:=λm=>by
 obtain ⟨q,hq,e⟩:=List.getElem_of_mem m;have:=h q hq;rw[aa7,aa2 hq,e] at this;rw[show (aA b).getD 0=b from rfl,hb] at this;cases this
theorem dq.snoc {H:Hp} {rs:List Addr} {r:Addr} (h:dq H rs λ_=>[]) (hr:H r=none):dq (upd H r `ai) (rs++[r]) λ_=>[]:=λq hq=>by
 rw[aa1,aa4] at hq;by_cases e:q < rs.length
 ·rw[aa7,aag e,←aa7];exact (h.other (h.out hr)) q e
 ·have e:q=rs.length:=by omega
  subst e;rw[aa7,aad (aa3 _),abz];exact aa
noncomputable def gd:V:=.str (aB "any")
noncomputable def fj:V:=.str `a6
noncomputable def lN:Str:=aB "n"
noncomputable def lV:Str:=aB "v"
noncomputable def lH:Str:=aB "h"
noncomputable def lO:Str:=aB ""
noncomputable def ay (kinds:List Str) (v:V):Str:=if v=gd then lN else if v=fj then lV else if inV v `i=true then lH else lO
noncomputable def isStr:V→Bool
 | .str _=>true
 | _=>false
noncomputable def lies (l:Str) (v x:V):Bool:=if l=lH then true else if l=lN then !isStr x else if l=lV then isStr x&&decide (arV x=0) else decide (v=x)
def ku (K:aG):Sp:=λvs H Q _=>∃(v:V) (kt:Addr) (kinds:List Str),vs=[v,.ref kt]∧isW v∧SqT K H kt `i∧Q (.str `q) H
def Dp:Sp:=λvs H Q _=>∃(l:Str) (v x:V),vs=[.str l,v,x]∧isW v∧isW x∧Q (.bl (lies l v x)) H
theorem isW.sc {v:V} (h:isW v) (z:Str):scal v `J=true:=by
 obtain ⟨k,rfl⟩:=h;cases k <;> rfl
theorem isW.sc2 {v x:V} (h:isW v) (g:isW x):scal v x=true:=by
 obtain ⟨k,rfl⟩:=h;obtain ⟨m,rfl⟩:=g;cases k <;> cases m <;> rfl
theorem isW.flat {v:V} (h:isW v):kh v=true:=by
 obtain ⟨k,rfl⟩:=h;exact Uh k
structure Und where
 hs:List Nat
 ns:List V
 vs:List V
noncomputable def Und.put (u:Und) (l:Str) (p:Nat) (x:V):Und:=if l=lH then ⟨u.hs++[p],u.ns,u.vs⟩ else if l=lN then ⟨u.hs,u.ns++[x],u.vs⟩ else if l=lV then ⟨u.hs,u.ns,u.vs++[x]⟩ else u
noncomputable def endAt (ws:List V) (p:Nat):Nat:=p+(eat 1 `H).getD 0
noncomputable def bu (kinds:List Str) (ws:List V):List V→Nat→Und→Option Und
 | [],_,u=>aA u
 | v::r,p,u=>if lies `q v `aE=true then bu kinds ws r (if ay kinds v=lH then endAt ws p else p+1) (u.put `q p `aE) else none
def j0 (H:Hp) (t:Addr) (u:Und):Prop:=∃t1 t2 t3:Addr,H t=aA (.tup [.ref t1,.ref t2,.ref t3])∧H t1=aA (.tup `eh)∧H t2=aA (.tup u.ns)∧H t3=aA (.tup u.vs)
structure UndOk (u:Und):Prop where
 n:(∀v∈u.ns,isW v)∧u.ns.length≤1000
 v:(∀v∈u.vs,isW v)∧u.vs.length≤1000
 h:u.hs.length≤1000
theorem j0.same {H H':Hp} {t:Addr} {u:Und} (h:j0 H t u) (s:ag H H'):j0 H' t u:=by
 obtain ⟨t1,t2,t3,h1,h2,h3,h4⟩:=h;exact ⟨t1,t2,t3,s _ _ h1,s _ _ h2,s _ _ h3,s _ _ h4⟩
def xi (u:Und):Prop:=(∀v∈u.ns,isW v)∧∀v∈u.vs,isW v
theorem xi.put {u:Und} (h:xi u) {x:V} (hx:isW x) (l:Str) (p:Nat):xi (u.put l p x):=by
 unfold Und.put;have ap:∀{L:List V},(∀v∈L,isW v)→∀v∈L++[x],isW v:=λ{L} hL v hv=>by
  rcases List.mem_append.mp hv with g | g
  ·exact hL v g
  ·rw[List.mem_singleton.mp g];exact hx
 by_cases c1:l=lH
 ·rw[if_pos c1];exact h
 rw[if_neg c1];by_cases c2:l=lN
 ·rw[if_pos c2];exact ⟨ap h.1,h.2⟩
 rw[if_neg c2];by_cases c3:l=lV
 ·rw[if_pos c3];exact ⟨h.1,ap h.2⟩
 rw[if_neg c3];exact h
def Kinds (kinds:List Str):Prop:=∀z∈kinds,arS z=0∧V.str z≠gd∧V.str z≠fj
def told (r:Option Und) (H':Hp) (Q:VK):Prop:=match r with
 | none=>Q .non H'
 | some u=>∀(t:Addr) (H2:Hp),ag H' H2→j0 H2 t u→UndOk u→Q `I H2
theorem Bz {H':Hp} {Q:VK} (h:Q .non H'):told none H' Q:=h
def Ef (K:aG):Sp:=λvs H Q _=>∃(st kt wt:Addr) (sh:List V) (kinds:List Str) (ws:List V) (p n:Nat),vs=[.ref st,.ref kt,.ref wt,.int (p:Int)]∧SqT K H st sh∧SqT K H kt `i∧SqT K H wt ws∧Kinds kinds∧(∀v∈sh,isW v)∧(∀v∈ws,isW v)∧isTerm sh∧eat 1 `H=aA n∧sh.length≤1000∧ws.length≤1000∧∀H',ag H H'→told `bK H' Q
theorem dj {kinds:List Str} {v:V} (hv:isW v):(v=gd∧ay kinds v=lN)∨(v=fj∧ay kinds v=lV)∨((∃z∈kinds,v=.str z)∧ay kinds v=lH)∨(ay kinds v=lO∧inV v `i=false):=by
 unfold ay;by_cases h1:v=gd
 ·exact .inl ⟨h1,if_pos h1⟩
 by_cases h2:v=fj
 ·exact .inr (.inl ⟨h2,by rw[if_neg h1,if_pos h2]⟩)
 cases h3:inV v `i with
 | true=>
  refine .inr (.inr (.inl ⟨?_,by rw[if_neg h1,if_neg h2,if_pos rfl]⟩));obtain ⟨k,rfl⟩:=hv;cases k with
  | inl i=>
   exfalso
   clear h1 h2;induction kinds with
   | nil=>cases h3
   | cons z r ih=>exact ih h3
  | inr z=>
   obtain ⟨y,hy,e⟩:=List.mem_map.mp (oy h3);exact ⟨y,hy,e.symm⟩
 | false=>exact .inr (.inr (.inr ⟨by rw[if_neg h1,if_neg h2,if_neg `a],rfl⟩))
theorem yh:arV gd=0:=by decide+kernel
theorem we:arV fj=0:=by decide+kernel
theorem lets:lN≠lH∧lV≠lH∧lO≠lH∧lV≠lN∧lO≠lN∧lO≠lV:=by decide+kernel
theorem fm {kinds:List Str} {ws r:List V} {v x:V} {q d m:Nat} (hk:Kinds kinds) (hv:isW v) (hx:ws[q]?=aA x) (hxw:isW x) (hp:pend (d+1) (arV v::r.map arV)=aA 0) (he:eat (d+1) `dz=aA m)
  (hl:lies `q v x=true):∃d' m',pend d' `eR=aA 0∧eat d' `af=aA m':=by
 have hq:q < ws.length:=(List.getElem?_eq_some_iff.mp hx).1;have ed:ws.drop q=x::ws.drop (q+1):=by
  rw[aaw hq];congr 1
  rw[aa2 hq] at hx;exact aaa hx
 obtain ⟨e1,e2,e3,e4,e5,e6⟩:=lets;have hp:pend (d+arV v) `eR=aA 0:=hp;have one:arV v=arV x→ay kinds v≠lH→∃d' m',pend d' `eR=aA 0∧eat d' `af=aA m':=λh n=>by
  rw[if_neg n];rw[ed,aas,ff] at he;obtain ⟨k,hk',_⟩:=Option.map_eq_some_iff.mp he;exact ⟨d+arV v,k,hp,by rw[h];exact hk'⟩
 unfold lies at hl;rcases dj (kinds:=kinds) hv with ⟨rfl,h⟩ | ⟨rfl,h⟩ | ⟨⟨z,hz,rfl⟩,h⟩ | ⟨h,_⟩
 ·refine one ?_ (by rw[h];exact e1);rw[h,if_neg e1,if_pos rfl] at hl;rw[yh];obtain ⟨k,rfl⟩:=hxw;cases k with
  | inl i=>rfl
  | inr y=>cases hl
 ·refine one ?_ (by rw[h];exact e2);rw[h,if_neg e2,if_neg e4,if_pos rfl,ac1] at hl;rw[we];exact (of_decide_eq_true hl.2).symm
 ·rw[if_pos h];have a0:arV `J=0:=(hk z hz).1;rw[a0] at hp;rw[show d+1=1+d by omega,uy] at he;cases h1:eat 1 `dz with
  | none=>rw[h1] at he;cases he
  | some n=>
   rw[h1] at he;obtain ⟨k,hk',_⟩:=Option.map_eq_some_iff.mp (show (eat d (((ws.drop q).map arV).drop n)).map (n+·)=aA m from he);refine ⟨d,k,hp,?_⟩;unfold endAt;rw[h1,show (aA n).getD 0=n from rfl,←acz];rw[←ac6] at hk';exact hk'
 ·refine one ?_ (by rw[h];exact e3);rw[h,if_neg e3,if_neg e5,if_neg e6] at hl;rw[of_decide_eq_true hl]
theorem cv {kinds:List Str} {ws:List V} {v:V} {r:List V} {p:Nat} {u:Und}:bu kinds ws (v::r) p u=if lies `q v `aE=true then bu kinds ws r (if ay kinds v=lH then endAt ws p else p+1) (u.put `q p `aE) else none:=rfl
def UAt (H:Hp) (u0 l1 l2 l3:Addr) (u:Und):Prop:=H u0=aA (.dK [(aM lH,.ref l1),(aM lN,.ref l2),(aM lV,.ref l3)])∧H l1=aA (.lst `eh)∧H l2=aA (.lst u.ns)∧H l3=aA (.lst u.vs)
theorem UAt.same {H H':Hp} {u0 l1 l2 l3:Addr} {u:Und} (h:UAt H u0 l1 l2 l3 u) (s:ag H H'):UAt H' u0 l1 l2 l3 u:=⟨s _ _ h.1,s _ _ h.2.1,s _ _ h.2.2.1,s _ _ h.2.2.2⟩
theorem Und.ua (u:Und) (l:Str) (p:Nat) (x:V) {i:Nat} (h:u.hs.length≤i∧u.ns.length≤i∧u.vs.length≤i):(u.put l p x).hs.length≤i+1∧(u.put l p x).ns.length≤i+1∧(u.put l p x).vs.length≤i+1:=by
 obtain ⟨h1,h2,h3⟩:=h;unfold Und.put;by_cases c1:l=lH
 ·rw[if_pos c1];refine ⟨?_,by show u.ns.length≤_;omega,by show u.vs.length≤_;omega⟩;show (u.hs++[p]).length≤_
  rw[aa1,aa4];omega
 rw[if_neg c1];by_cases c2:l=lN
 ·rw[if_pos c2];refine ⟨by show u.hs.length≤_;omega,?_,by show u.vs.length≤_;omega⟩;show (u.ns++[x]).length≤_
  rw[aa1,aa4];omega
 rw[if_neg c2];by_cases c3:l=lV
 ·rw[if_pos c3];refine ⟨by show u.hs.length≤_;omega,by show u.ns.length≤_;omega,?_⟩;show (u.vs++[x]).length≤_
  rw[aa1,aa4];omega
 rw[if_neg c3];exact ⟨by omega,by omega,by omega⟩
theorem UAt.get1 {H:Hp} {u0 l1 l2 l3:Addr} {u:Und} (h:UAt H u0 l1 l2 l3 u):e9 H u0 (.str lH) (aA (.ref l1)):=.inl ⟨_,.inr lH,.inl h.1,rfl,rfl⟩
theorem UAt.get2 {H:Hp} {u0 l1 l2 l3:Addr} {u:Und} (h:UAt H u0 l1 l2 l3 u):e9 H u0 (.str lN) (aA (.ref l2)):=.inl ⟨_,.inr lN,.inl h.1,rfl,rfl⟩
theorem UAt.get3 {H:Hp} {u0 l1 l2 l3:Addr} {u:Und} (h:UAt H u0 l1 l2 l3 u):e9 H u0 (.str lV) (aA (.ref l3)):=.inl ⟨_,.inr lV,.inl h.1,rfl,rfl⟩
theorem UAt.put1 {H:Hp} {u0 l1 l2 l3:Addr} {u:Und} (h:UAt H u0 l1 l2 l3 u) (n10:l1≠u0) (n21:l2≠l1) (n31:l3≠l1) (p:Nat) (x:V):UAt (upd H l1 (.lst (u.hs.map plV++[plV p]))) u0 l1 l2 l3 (u.put lH p x):=by
 unfold Und.put;rw[if_pos rfl];refine ⟨by rw[ah n10.symm];exact h.1,?_,by rw[ah n21];exact h.2.2.1,by rw[ah n31];exact h.2.2.2⟩;rw[aa,aab];rfl
theorem UAt.put2 {H:Hp} {u0 l1 l2 l3:Addr} {u:Und} (h:UAt H u0 l1 l2 l3 u) (n20:l2≠u0) (n21:l2≠l1) (n32:l3≠l2) (p:Nat) (x:V):UAt (upd H l2 (.lst (u.ns++[x]))) u0 l1 l2 l3 (u.put lN p x):=by
 unfold Und.put;rw[if_neg lets.1,if_pos rfl];exact ⟨by rw[ah n20.symm];exact h.1,by rw[ah n21.symm];exact h.2.1,aa,by rw[ah n32];exact h.2.2.2⟩
theorem UAt.put3 {H:Hp} {u0 l1 l2 l3:Addr} {u:Und} (h:UAt H u0 l1 l2 l3 u) (n30:l3≠u0) (n31:l3≠l1) (n32:l3≠l2) (p:Nat) (x:V):UAt (upd H l3 (.lst (u.vs++[x]))) u0 l1 l2 l3 (u.put lV p x):=by
 unfold Und.put;rw[if_neg lets.2.1,if_neg lets.2.2.2.1,if_pos rfl];exact ⟨by rw[ah n30.symm];exact h.1,by rw[ah n31.symm];exact h.2.1,by rw[ah n32.symm];exact h.2.2.1,aa⟩
theorem Und.put0 (u:Und) (p:Nat) (x:V):u.put lO p x=u:=by
 unfold Und.put;rw[if_neg lets.2.2.1,if_neg lets.2.2.2.2.1,if_neg lets.2.2.2.2.2]
theorem Ec {r:List Nat} {d m:Nat} (h:eat (d+1) r=aA m):∃n,eat 1 r=aA n:=by
 rw[show d+1=1+d by omega,uy] at h;cases h1:eat 1 r with
 | none=>rw[h1] at h;cases h
 | some n=>exact ⟨n,rfl⟩
structure Rl where
 name:Str
 kind:Str
 price:Int
 shape:List V
def oh (H:Hp) (a:Addr) (r:Rl):Prop:=∃(sa da:Addr) (ds:List V),H a=aA (.tup [.str r.name,.str r.kind,.int r.price,.ref sa,.ref da])∧H sa=aA (.tup r.shape)∧H da=aA (.tup ds)
theorem oh.same {H H':Hp} {a:Addr} {r:Rl} (h:oh H a r) (s:ag H H'):oh H' a r:=by
 obtain ⟨sa,da,ds,h1,h2,h3⟩:=h;exact ⟨sa,da,ds,s _ _ h1,s _ _ h2,s _ _ h3⟩
def qe (H:Hp) (ra:List Addr) (rs:List Rl):Prop:=ra.length=rs.length∧∀(i:Nat) (r:Rl),rs[i]?=aA r→∃a,ra[i]?=aA a∧oh H a r
theorem qe.same {H H':Hp} {ra:List Addr} {rs:List Rl} (h:qe H ra rs) (s:ag H H'):qe H' ra rs:=⟨h.1,λi r hr=>by
 obtain ⟨a,h1,h2⟩:=h.2 i r hr;exact ⟨a,h1,h2.same s⟩⟩
def qt (H:Hp) (b:Addr) (kinds:List Str) (rs:List Rl):Prop:=∃(kt rt:Addr) (ra:List Addr),H b=aA `cX∧H kt=aA (.tup `i)∧H rt=aA (.tup `bO)∧qe H ra rs
theorem qt.same {H H':Hp} {b:Addr} {kinds:List Str} {rs:List Rl} (h:qt H b kinds rs) (s:ag H H'):qt H' b kinds rs:=by
 obtain ⟨kt,rt,ra,h1,h2,h3,h4⟩:=h;exact ⟨kt,rt,ra,s _ _ h1,s _ _ h2,s _ _ h3,h4.same s⟩
structure Bk (kinds:List Str) (rs:List Rl):Prop where
 kd:Kinds kinds
 nd:(rs.map (·.name)).Nodup
 sh:∀r∈rs,(∀v∈r.shape,isW v)∧isTerm r.shape∧r.shape.length≤100
 len:rs.length≤100
 kn:kinds.Nodup
 kl:kinds.length≤60
 pr:∀r∈rs,1≤r.price
 rk:∀r∈rs,r.kind∈kinds
structure Tw (ws:List V):Prop where
 w:∀v∈ws,isW v∧v≠gd∧v≠fj
 one:isTerm ws
 len:ws.length≤1000
theorem Tw.eat {ws:List V} (h:Tw ws) {p:Nat} (hp:p < ws.length):∃n,eat 1 `H=aA n:=by
 obtain ⟨m,hm⟩:=pd _ 1 h.one p;rw[←ac6] at hm;have hpos:=Fn hm (by intro e;have:=congrArg ac2 e;rw[aa0,aau] at this;simp at this;omega);obtain ⟨d,rfl⟩:∃d,m=d+1:=⟨m - 1,by omega⟩;exact Ec (gc _ _ hm)
theorem Sw {x:V} (hx:isW x):(inV x [V.str "add",V.str "sub",V.str "mul",V.str "neg"]=true)↔0 < arV x:=by
 obtain ⟨k,rfl⟩:=hx;cases k with
 | inl i=>
  constructor
  ·intro h;exact absurd h (by simp[inV,eqV,kV])
  ·intro h;exact absurd h (by show ¬(0 < 0);decide)
 | inr z=>
  show (inV `J _=true)↔0 < arS z
  constructor
  ·intro h;have:=oy h;simp only[aan,aac,or_false,V.str.injEq] at this;rcases this with rfl | rfl | rfl | rfl <;> decide+kernel
  ·intro h;rcases fk (z:=z) h with rfl | rfl | rfl | rfl <;> decide+kernel
theorem Vk {n p:Nat} (h:p < n):ixN n (p:Int)=aA p:=by
 unfold ixN;rw[if_pos (by omega),if_pos (by omega),acu]
theorem Bo:∀(r:List Nat) (p:Nat),(starts p r).length≤r.length
 | [],_=>aa3 _
 | a::r,p=>by
  show (p::(starts (p+1) r).drop a).length≤_
  have:=Bo r (p+1);rw[aa8,aau,aa8];omega
theorem Kinds.out {kinds:List Str} (h:Kinds kinds) {z:Str} (hz:V.str z=gd∨V.str z=fj):inV `J `i=false:=by
 cases e:inV `J `i with
 | false=>rfl
 | true=>
  obtain ⟨y,hy,e2⟩:=List.mem_map.mp (oy e);obtain ⟨_,h1,h2⟩:=h y hy;rcases hz with hz | hz
  ·exact absurd (e2.trans hz) h1
  ·exact absurd (e2.trans hz) h2
theorem letH {kinds:List Str} {v:V} (h:ay kinds v=lH):inV v `i=true:=by
 unfold ay at h;obtain ⟨b1,b2,b3,_,_,_⟩:=lets;by_cases h1:v=gd
 ·rw[if_pos h1] at h;exact absurd h b1
 by_cases h2:v=fj
 ·rw[if_neg h1,if_pos h2] at h;exact absurd h b2
 rw[if_neg h1,if_neg h2] at h;cases e:inV v `i with
 | true=>rfl
 | false=>rw[e,if_neg `a] at h;exact absurd h b3
theorem letO {kinds:List Str} {v:V} (h:ay kinds v=lO):v≠gd∧v≠fj:=by
 obtain ⟨_,_,_,_,b5,b6⟩:=lets;unfold ay at h;refine ⟨λe=>?_,λe=>?_⟩
 ·rw[if_pos e] at h;exact b5 h.symm
 ·subst e;by_cases h1:fj=gd
  ·rw[if_pos h1] at h;exact b5 h.symm
  ·rw[if_neg h1,if_pos rfl] at h;exact b6 h.symm
def nmOk (z:Str):Prop:=arS z=0∧V.str z≠gd∧V.str z≠fj
def twW (v:V):Prop:=isW v∧v≠gd∧v≠fj
theorem twW_int (i:Int):twW `cj:=⟨⟨bA i,rfl⟩,(λe=>nomatch e),λe=>nomatch e⟩
theorem twW_name {z:Str} (h:nmOk z):twW `J:=⟨⟨aM z,rfl⟩,h.2⟩
theorem twW_op {z:Str} (h:0 < arS z):twW `J:=⟨⟨aM z,rfl⟩,λe=>by rw[V.str.inj (show V.str z=V.str (aB "any") from e)] at h;revert h;decide+kernel,λe=>by rw[V.str.inj (show V.str z=V.str `a6 from e)] at h;revert h;decide+kernel⟩
theorem T4 {z:Str} {xs:List V} (h:V.str z∈xs):inV `J xs=true:=List.any_eq_true.mpr ⟨_,h,by simp[eqV]⟩
theorem qp {n:Nat} (h:n≤11):(Fz (.int (n:Int))).length≤2∧wordV (.int (n:Int)):=by
 have a:∀n:Fin 12,(Fz (.int ((n.1:Nat):Int))).length≤2:=by decide+kernel
 have b:∀n:Fin 12,(((n.1:Nat):Int)).natAbs.log2 < 1920:=by decide+kernel
 exact ⟨a ⟨n,by omega⟩,b ⟨n,by omega⟩⟩
theorem Eo (a b:Str):(a++b).cps.toList=a.cps.toList++b.cps.toList:=by
 show (a.cps++b.cps).toList=_
 exact Array.toList_append
def jx (z:Str):Prop:=(∀c∈z.cps.toList,c < 128)∧z.length≤1000
noncomputable abbrev abcS:Str:=aB "abcdefghijklmnopqrstuvwxyz"
noncomputable def ltr (i:Int):Str:=⟨#[97+(i % 26).toNat]⟩
theorem Ck (i:Int):(ltr i).cps.toList=[97+(i % 26).toNat]:=rfl
theorem Ko (i:Int):(ltr i).length=1:=rfl
theorem ltr_at (i:Int):atI abcS.cps.toList (i % 26)=aA (97+(i % 26).toNat):=by
 have a:∀j:Fin 26,abcS.cps.toList[j.1]?=aA (97+j.1):=by decide+kernel
 obtain ⟨j,hj,e⟩:∃j:Nat,j < 26∧i % 26=(j:Int):=⟨(i % 26).toNat,by omega,by omega⟩;rw[e,acu];exact bb (a ⟨j,hj⟩)
theorem Fh {i:Int} {H:Hp} {Q:VK} (q:Q (.str (ltr i)) H):rIxS (.str abcS) (.int (i % 26)) H Q:=
 ⟨abcS,i % 26,_,rfl,rfl,by rw[aV];decide+kernel,ltr_at i,q⟩
theorem wo (i:Int) (n:Nat):(u5 (ltr i) n).cps.toList=abc n (97+(i % 26).toNat):=by
 rw[Ip,Ck];induction n with
 | zero=>rfl
 | succ n ih=>rw[ad3,aeu,ih,ad3];rfl
theorem add_mod {n a b c:Int} (h:(a+b) % n=(a+c) % n):(b - c) % n=0:=by
 have h:=Int.emod_eq_emod_iff_emod_sub_eq_zero.mp h;rw[show a+b - (a+c)=b - c by omega] at h;exact h
theorem Sx {a b:Int} {n:Nat} (hn:0 < n) (h:97+(a % (n:Int)).toNat=97+(b % (n:Int)).toNat):a % (n:Int)=b % (n:Int):=by
 have h1:=ab8 a (show (n:Int)≠0 by omega);have h2:=ab8 b (show (n:Int)≠0 by omega);generalize a % (n:Int)=x at h h1;generalize b % (n:Int)=y at h h2;omega
theorem Kc (i:Int) (n:Nat):(u5 (ltr i) n).length=n:=by
 have e:(u5 (ltr i) n).length=(u5 (ltr i) n).cps.toList.length:=rfl;rw[e,wo,aba]
end Pc
namespace L2
open PySem PySem.Spec PyProof.Rows
def TK (H H':Hp):Prop:=∀b xs,H b=aA `aA→H' b=aA `aA
theorem TK.of {H H':Hp} (s:ag H H'):TK H H':=λb xs h=>s b _ h
theorem TK.put {H:Hp} {a:Addr} {o o':HO} (h:H a=aA o) (ho:∀xs,o≠.tup xs):TK H (upd H a o'):=λb xs hb=>by
 rw[ah (λe=>by rw[e,h] at hb;exact ho xs (aaa hb))];exact hb
theorem Qx {K:aG} {c:Nat} {J:It} {fr:St} {tc:TT} {te:TE} {D:Addr} {H1:Hp} {Q:Hp→Prop} (n:Nat) (R:Nat→V→V→Hp→Prop) (P:Nat→List V→Hp→Prop) (mono:∀i ys H H',TK H H'→P i ys H→P i ys H') (hc:c=2) (hn:n < sizeLine) (hD:H1 D=none)
  (hgo:∀i H,i < n→ag H1 H→J.go i H) (hyld:∀i H v H',i < n→ag H1 H→J.yld i H v H'→ag H H'∧∃p x y,v=.ref p∧SqT K H' p [x,y]∧R i x y H') (hstop:∀H,ag H1 H→J.stop n H) (h0:P 0 [] H1)
  (step:∀i x y ys H (G:Hp→Prop) (K':V→Hp→Prop),i < n→R i x y H→P i ys H→ys.length≤i→ag H1 H→(∀H3,ag H H3→P (i+1) ys H3→G H3)→(∀y H4,ag H H4→P (i+1) (ys++[y]) H4→K' y H4)→tc ([aA x,aA y]++fr) H λb H3=>if b=true then te ([aA x,aA y]++fr) H3 K' else G H3)
  (done:∀ys H,P n ys H→ys.length≤n→ag H1 H→H D=aA `aS→Q H):LC 2 fr (gTup K c (nz (gh 0) (nz (gh 1) gNil))) tc te J D H1 Q:=by
 refine ⟨λi m H=>m=n - i∧i≤n∧∃ys,H D=aA `aS∧P i ys H∧ys.length≤i∧ag H1 H,⟨n,by simp,aai _,[],aa,mono _ _ _ _ (TK.of (ab hD _)) h0,aa3 _,ab hD _⟩,?_⟩;rintro i m H ⟨rfl,hi,ys,hys,hP,hl,hS⟩;by_cases hlt:i < n
 ·refine .inr ⟨hgo i H hlt hS,λτ v H' hτ hy=>?_⟩;obtain ⟨e1,p,x,y,rfl,hp,hR⟩:=hyld i H v H' hlt hS hy;obtain ⟨a,b,rfl⟩:∃a b,τ=[a,b]:=us2 (P:=λτ=>∃a b,τ=[a,b]) hτ λa b=>⟨a,b,rfl⟩;have hys':=e1 _ _ hys;refine ⟨p,_,rfl,hp,by rw[hc];rfl,_,_,rfl,_,_,rfl,rfl,⟨[aA x,aA y],rfl,rfl⟩,step i x y ys H' _ _ hlt hR (mono _ _ _ _ (TK.of e1) hP) hl (hS.trans e1) (λH3 q1 q2=>?_) (λy H4 q1 q2=>?_)⟩
  ·exact ⟨n - (i+1),by omega,rfl,hlt,ys,q1 _ _ hys',q2,adf hl,(hS.trans e1).trans q1⟩
  ·refine ⟨ys,q1 _ _ hys',by omega,n - (i+1),by omega,rfl,hlt,ys++[y],aa,mono _ _ _ _ (TK.put (q1 _ _ hys') λxs e=>by cases e) q2,?_,((hS.trans e1).trans q1).upd hD _⟩;rw[aa1,aa4];omega
 ·have e:i=n:=by omega
  subst e;exact .inl ⟨hstop H hS,done ys H hP hl hS hys⟩
end L2
namespace Pc
open PySem PySem.Spec L2 PyProof.Rows
end Pc
namespace L2
open PySem PySem.Spec PyProof.Rows PySem.SeqAt Pc
end L2
namespace L2
open PySem
end L2
namespace Pc
open PySem PySem.Spec L2 PyProof.Rows
end Pc
namespace L2
open PySem
theorem Q8 {X:Cx} {pos:Pos} (K:aG) (hK:X.K=K) {a b:Expr} {k:Nat} {t:TGs} (hc:X.calm=true) (h:PGs X [a,b] t) (hn:(fF [a,b] X.env).length=2:=by rfl) (hst:(fF [a,b] X.env).findIdx? (·.1)=none:=by rfl):PG X (.Tuple [a,b] k pos) (gTup K 2 t):=by
 subst hK;exact Qp hc h hn hst
end L2
namespace L2.Zd
open PySem
abbrev IsZ (h:Heap) (z TI TO:Addr) (f0 f1:aD):Prop:=
 h.get? z=aA { cls:=.type "zip",dict:=none,data:=.fields #[f0,f1,.bool false,.ref TI,.ref TO],slots:=#[] }
section
variable {prog:aX} {w:aZ} {A:bJ} {E:aD→aF→Prop} {s:aF}
theorem alive {M:Model} {a:Addr} {Q:Option Obj→aF→Prop} (h:Q (s.heap.get? a) s):aI M A (kJ a) Q E s:=λΓ p hΓ=>by
 unfold kJ;rw[Sem.wp_loadIfAlive];exact aH h Γ p hΓ
theorem y9 {z TI TO T:Addr} {b:Bool} {o:Obj} {Q:Bool→aF→Prop} (hz:IsZ s.heap z TI TO (cP T) `dy) (ho:s.heap.get? T=aA o)
  (q:∀h',IsZ h' z TI TO (cP T) `cp→bE z s.heap h'→Q false { s with heap:=h' }):aI `f A (bC `s) Q E s:=by
 unfold bC;refine aC (bF hz rfl (x:=cP T) rfl ?_);show aI _ _ (kJ T >>=_) _ _ _
 refine aC (alive ?_);rw[ho];show aI _ _ (eL `s 1 >>=_) _ _ _
 refine aC (bF hz rfl (x:=.bool b) rfl ?_);cases b with
 | true=>exact aH (q s.heap hz (eY _ _))
 | false=>exact aC (bR hz `c λh' hz' hs'=>aH (q h' hz' hs'))
theorem next_item {z TI TO i1 i2 l1 l2 T:Addr} {k1 k2:Nat} {xs ys:Array aD} {x y:aD} {f:Bool} {o:Obj} {Q:aD→aF→Prop} (D:cX z TI TO i1 i2 l1 l2)
  (hz:IsZ s.heap z TI TO (cP T) (.bool f)) (ho:s.heap.get? T=aA o) (hTI:bV s.heap TI `bD `cI)
  (h1:s.heap.IsListIter i1 l1 k1) (h2:s.heap.IsListIter i2 l2 k2) (hl1:s.heap.IsList l1 xs) (hl2:s.heap.IsList l2 ys) (hx:xs[k1]?=aA x) (hy:ys[k2]?=aA y)
  (hQ:∀h',IsZ h' z TI TO (cP T) `cp→h'.IsListIter i1 l1 (k1+1)→h'.IsListIter i2 l2 (k2+1)→bV h' s.heap.objs.size x y→h'.objs.size=s.heap.objs.size+1→
   (∀c o,c≠z→c≠i1→c≠i2→s.heap.get? c=aA o→h'.get? c=aA o)→Q `j { s with heap:=h' }):
  aI `f A `ac (λfin s'=>∃v,fin=.done (.ret v)∧Q v s') E s:=by
 show aI _ _ (eL `s 2 >>=_) _ _ _
 refine aC (bF hz rfl (x:=.bool false) rfl ?_);show aI _ _ (eL `s 3 >>=_) _ _ _
 refine aC (bF hz rfl (x:=.ref TI) rfl ?_);refine aC (bP hTI rfl ?_);show aI _ _ (bC `s >>=_) _ _ _
 refine aC (y9 hz ho λh₁ hz₁ hs₁=>?_);simp only[abn,if_false];refine aC ?_;rw[←aca];simp only[abt,abq];refine aC (aC (bI ?_));show aI _ _ (aY `bD >>=_) _ _ _
 refine aC (eV (h1.extBut hs₁.extBut D.i1z) (hl1.extBut hs₁.extBut D.l1z) hx λh₂ h1₂ hs₂=>aH ?_);refine aH ?_;refine aC (aC (bI ?_));show aI _ _ (aY `cI >>=_) _ _ _
 refine aC (eV ((h2.extBut hs₁.extBut D.i2z).extBut hs₂.extBut D.i12.symm) ((hl2.extBut hs₁.extBut D.l2z).extBut hs₂.extBut D.l2i1) hy λh₄ h2₄ hs₄=>aH ?_);refine aH (aH ?_);refine aC (fZ (hsz:=by show (2:Nat)≤sizeLine;decide) ?_);have hsz:h₄.objs.size=s.heap.objs.size:=by rw[hs₄.1,hs₂.1,hs₁.1]
 have up:∀c o,c≠z→c≠i1→c≠i2→s.heap.get? c=aA o→h₄.get? c=aA o:=λc o c1 c3 c4 e=>hs₄.extBut _ _ c4 (hs₂.extBut _ _ c3 (hs₁.extBut _ _ c1 e));refine aH ⟨_,rfl,?_⟩;rw[hsz];have n1:bV (h₄.push { cls:=.type "tuple",data:=.seq #[x,y] }) s.heap.objs.size x y:=by
  rw[←hsz];exact aJ _ rfl
 exact hQ _ (aE _ (hs₄.extBut _ _ D.i2z.symm (hs₂.extBut _ _ D.i1z.symm hz₁))) ((h1₂.extBut hs₄.extBut D.i12).at λo e=>aE _ e) (h2₄.at λo e=>aE _ e) n1 (by rw[bD,hsz]) λc o c1 c3 c4 e=>aE _ (up c o c1 c3 c4 e)
theorem next_end {z TI TO i1 i2 l1 l2 T:Addr} {k1:Nat} {xs:Array aD} {f:Bool} {o:Obj} {Q:Fin→aF→Prop} (hh:A.handled=none) (D:cX z TI TO i1 i2 l1 l2)
  (hz:IsZ s.heap z TI TO (cP T) (.bool f)) (ho:s.heap.get? T=aA o) (hTI:bV s.heap TI `bD `cI)
  (h1:s.heap.IsListIter i1 l1 k1) (hl1:s.heap.IsList l1 xs) (hend:xs[k1]?=none)
  (hE:∀h' e,(∀c o,c≠z→c≠i1→s.heap.get? c=aA o→h'.get? c=aA o)→(∃o,h'.get? e=aA o∧o.cls=.type "StopIteration")→E `e5 { s with heap:=h' }):
  aI `f A `ac Q E s:=by
 show aI _ _ (eL `s 2 >>=_) _ _ _
 refine aC (bF hz rfl (x:=.bool false) rfl ?_);show aI _ _ (eL `s 3 >>=_) _ _ _
 refine aC (bF hz rfl (x:=.ref TI) rfl ?_);refine aC (bP hTI rfl ?_);show aI _ _ (bC `s >>=_) _ _ _
 refine aC (y9 hz ho λh₁ hz₁ hs₁=>?_);simp only[abn,if_false];refine aC ?_;rw[←aca];simp only[abt,abq];refine aC (aC (bI ?_));show aI _ _ (aY `bD >>=_) _ _ _
 exact aC (fC hh (h1.extBut hs₁.extBut D.i1z) (hl1.extBut hs₁.extBut D.l1z) hend λh₂ e hs₂ he=>hE h₂ e (λc o c1 c3 x=>hs₂ _ _ c3 (hs₁.extBut _ _ c1 x)) he)
end
end L2.Zd
namespace L2.Zg
open PySem L2.Zd
def Hf:Bool→Addr→Addr→Array aD→Nat→Heap→Prop
 | false,it,l,xs,k,h=>h.IsListIter it l k∧h.IsList l xs
 | true,it,l,xs,k,h=>h.IsTupleIter it l k∧h.IsTuple l xs
theorem Hf.keep {b:Bool} {it l:Addr} {xs:Array aD} {k:Nat} {h h':Heap} (x:Hf b it l xs k h) (g1:∀o,h.get? it=aA o→h'.get? it=aA o) (g2:∀o,h.get? l=aA o→h'.get? l=aA o):Hf b it l xs k h':=by
 cases b
 ·obtain ⟨⟨o,e,r⟩,⟨o',e',r'⟩⟩:=x;exact ⟨⟨o,g1 _ e,r⟩,⟨o',g2 _ e',r'⟩⟩
 ·obtain ⟨⟨o,e,r⟩,⟨o',e',r'⟩⟩:=x;exact ⟨⟨o,g1 _ e,r⟩,⟨o',g2 _ e',r'⟩⟩
section
variable {prog:aX} {w:aZ} {A:bJ} {E:aD→aF→Prop} {s:aF}
theorem Hf.next {b:Bool} {it l:Addr} {xs:Array aD} {k:Nat} {v:aD} {Q:aD→aF→Prop} (x:Hf b it l xs k s.heap) (hne:l≠it) (hx:xs[k]?=aA v)
  (hQ:∀h',Hf b it l xs (k+1) h'→bE it s.heap h'→Q v { s with heap:=h' }):aI `f A (aY `bv) Q E s:=by
 cases b
 ·obtain ⟨x1,x2⟩:=x;exact eV x1 x2 hx λh' a b=>hQ h' ⟨a,x2.extBut b.extBut hne⟩ b
 ·obtain ⟨x1,x2⟩:=x;have ty:=x1.typeIs;obtain ⟨oi,hoi,ci,di⟩:=id x1;obtain ⟨ot,hot,_,nt,dt⟩:=id x2;unfold aY;refine aC (bK (name:=aB "__next__") ty dS (bN dS ty iE ?_ (gZ _)));show aI _ _ (eL `bv 0 >>=_) _ _ s
  refine aC (bF hoi di (x:=.ref l) rfl ?_);show aI _ _ (if (bG l==dJ)=true then _ else _) _ _ s
  rw[if_neg (show ¬((bG l==dJ)=true) from aaq)];show aI _ _ (eL `bv 1 >>=_) _ _ s
  refine aC (bF hoi di (x:=.int k 0) rfl ?_);show aI _ _ (seqItems? `B >>=_) _ _ s
  refine aC (bP hot dt ?_);simp only[acu,hx];refine aC (wpAny_setField hoi di `c (aH ⟨v,rfl,aH (hQ _ ⟨⟨_,cL _ hoi (Obj.isFreed_of_fields (mT di _)),(Obj.cls_mapFields ..).trans ci,by rw[mT di];simp[cP]⟩,x2.extBut (gW ..).extBut hne⟩ (gW ..))⟩))
theorem Hf.stop {b:Bool} {it l:Addr} {xs:Array aD} {k:Nat} {Q:aD→aF→Prop} (hh:A.handled=none) (x:Hf b it l xs k s.heap) (hx:xs[k]?=none)
  (hE:∀h' e,Heap.ExtBut it s.heap h'→(∃o,h'.get? e=aA o∧o.cls=.type "StopIteration")→E `e5 { s with heap:=h' }):aI `f A (aY `bv) Q E s:=by
 cases b
 ·obtain ⟨x1,x2⟩:=x;exact fC hh x1 x2 hx hE
 ·obtain ⟨x1,x2⟩:=x;have ty:=x1.typeIs;obtain ⟨oi,hoi,ci,di⟩:=id x1;obtain ⟨ot,hot,_,nt,dt⟩:=id x2;unfold aY;refine aC (bK (name:=aB "__next__") ty dS (bN dS ty iE ?_ (gZ _)));show aI _ _ (eL `bv 0 >>=_) _ _ s
  refine aC (bF hoi di (x:=.ref l) rfl ?_);show aI _ _ (if (bG l==dJ)=true then _ else _) _ _ s
  rw[if_neg (show ¬((bG l==dJ)=true) from aaq)];show aI _ _ (eL `bv 1 >>=_) _ _ s
  refine aC (bF hoi di (x:=.int k 0) rfl ?_);show aI _ _ (seqItems? `B >>=_) _ _ s
  refine aC (bP hot dt ?_);simp only[acu,hx];refine aC (dZ (aC (wpAny_setField hoi di `c ?_)));show aI _ _ (newExc (.type "StopIteration") [] >>=_) _ _ _
  refine aC ?_;simp only[newExc,newTuple];refine aC (cI ?_ (by size_fits));refine aC (m:=firstArgMember _ _) (nJ (a:=dJ) (by first | rfl | (simp only[firstArgMember];rfl)) ?_);refine cI ?_ (by size_fits);simp only[raiseNew];refine aC (wpAny_handled ?_);first | rw[show A.in1.handled=none from hh] | rw[hh]
  refine aC (aH (wpAny_throw ?_));exact hE _ _ (((gW ..).extBut.push _).push _) ⟨_,aJ _ rfl,rfl⟩
theorem free {z TI TO:Addr} {f0:aD} {b:Bool} {Q:Bool→aF→Prop} (hz:IsZ s.heap z TI TO f0 `dy) (hf:f0=.none∨∃T:Addr,f0=cP T)
  (q:∀r h' b',IsZ h' z TI TO f0 (.bool b')→bE z s.heap h'→Q r { s with heap:=h' }):aI `f A (bC `s) Q E s:=by
 rcases hf with rfl | ⟨T,rfl⟩
 ·unfold bC;refine aC (bF hz rfl (x:=.none) rfl (aH ?_));exact q true s.heap b hz (eY _ _)
 ·cases ho:s.heap.get? T with
  | some o=>exact y9 hz ho λh' a c=>q false h' true a c
  | none=>
   unfold bC;refine aC (bF hz rfl (x:=cP T) rfl ?_);show aI _ _ (kJ T >>=_) _ _ _
   refine aC (alive ?_);rw[ho];exact aH (q true s.heap b hz (eY _ _))
end
def Zst (c1 c2:Bool) (z TI TO i1 i2 l1 l2:Addr) (xs ys:Array aD) (i:Nat) (h:Heap):Prop:=
 (∃f0 b,IsZ h z TI TO f0 `dy∧(f0=.none∨∃T:Addr,f0=cP T))∧(∃a b,bV h TO a b)∧bV h TI `bD `cI∧Hf c1 i1 l1 xs i h∧Hf c2 i2 l2 ys i h
theorem Zst.keep {c1 c2:Bool} {z TI TO i1 i2 l1 l2:Addr} {xs ys:Array aD} {i:Nat} {h h':Heap} (x:Zst c1 c2 z TI TO i1 i2 l1 l2 xs ys i h) (k:∀c∈[z,TI,TO,i1,i2],∀o,h.get? c=aA o→h'.get? c=aA o) (k1:∀o,h.get? l1=aA o→h'.get? l1=aA o) (k2:∀o,h.get? l2=aA o→h'.get? l2=aA o):Zst c1 c2 z TI TO i1 i2 l1 l2 xs ys i h':=by
 obtain ⟨⟨f0,b,a1,a2⟩,⟨p,q,a3⟩,a4,a5,a6⟩:=x;exact ⟨⟨f0,b,k z `c _ a1,a2⟩,⟨p,q,k TO `c _ a3⟩,k TI `c _ a4,a5.keep (k i1 `c) k1,a6.keep (k i2 `c) k2⟩
section
variable {prog:aX} {w:aZ} {A:bJ} {E:aD→aF→Prop} {s:aF} {c1 c2:Bool} {z TI TO i1 i2 l1 l2:Addr} {xs ys:Array aD} {i:Nat}
theorem item {x y:aD} {Q:aD→aF→Prop} (D:cX z TI TO i1 i2 l1 l2) (hz:Zst c1 c2 z TI TO i1 i2 l1 l2 xs ys i s.heap) (hx:xs[i]?=aA x) (hy:ys[i]?=aA y)
  (hQ:∀h',Zst c1 c2 z TI TO i1 i2 l1 l2 xs ys (i+1) h'→bV h' s.heap.objs.size x y→h'.objs.size=s.heap.objs.size+1→(∀c o,c≠z→c≠TO→c≠i1→c≠i2→s.heap.get? c=aA o→h'.get? c=aA o)→Q `j { s with heap:=h' }):
  aI `f A `ac (λfin s'=>∃v,fin=.done (.ret v)∧Q v s') E s:=by
 obtain ⟨⟨f0,b,z0,hf⟩,⟨p,q,hTO⟩,hTI,h1,h2⟩:=hz;show aI _ _ (eL `s 2 >>=_) _ _ _
 refine aC (bF z0 rfl (x:=.bool false) rfl ?_);show aI _ _ (eL `s 3 >>=_) _ _ _
 refine aC (bF z0 rfl (x:=.ref TI) rfl ?_);refine aC (bP hTI rfl ?_);show aI _ _ (bC `s >>=_) _ _ _
 refine aC (free z0 hf λr h₁ b1 z1 s1=>?_);have k1:∀c o,c≠z→s.heap.get? c=aA o→h₁.get? c=aA o:=λc o n e=>s1.extBut _ _ n e;have H1:=h1.keep (λo e=>k1 _ o D.i1z e) λo e=>k1 _ o D.l1z e;have H2:=h2.keep (λo e=>k1 _ o D.i2z e) λo e=>k1 _ o D.l2z e;cases r with
 | false=>
  simp only[abn,if_false];refine aC ?_;rw[←aca];simp only[abt,abq];refine aC (aC (bI ?_));show aI _ _ (aY `bD >>=_) _ _ _
  refine aC (H1.next (s:={ s with heap:=h₁ }) D.l1i1 hx λh₂ H1' s2=>aH (aH ?_));have s2:bE i1 h₁ h₂:=s2;have H2':=H2.keep (λo e=>s2.extBut _ _ D.i12.symm e) λo e=>s2.extBut _ _ D.l2i1 e;refine aC (aC (bI ?_));show aI _ _ (aY `cI >>=_) _ _ _
  refine aC (H2'.next (s:={ s with heap:=h₂ }) D.l2i2 hy λh₃ H2'' s3=>aH (aH (aH ?_)));have s3:bE i2 h₂ h₃:=s3;refine aC (fZ (hsz:=by show (2:Nat)≤sizeLine;decide) ?_);have sz:h₃.objs.size=s.heap.objs.size:=by rw[s3.1,s2.1,s1.1]
  have up:∀c o,c≠z→c≠i1→c≠i2→s.heap.get? c=aA o→(h₃.push { cls:=.type "tuple",data:=.seq #[x,y] }).get? c=aA o:=λc o n1 n2 n3 e=>aE _ `dp;refine aH ⟨_,rfl,?_⟩;rw[sz];refine hQ _ ⟨⟨f0,b1,aE _ `dA,hf⟩,⟨p,q,up _ _ D.TOz D.TOi1 D.TOi2 hTO⟩,up _ _ D.TIz D.TIi1 D.TIi2 hTI,?_,H2''.keep (λo e=>aE _ e) λo e=>aE _ e⟩ ?_ (by rw[bD,sz]) λc o n1 _ n3 n4 e=>up c o n1 n3 n4 e
  ·exact H1'.keep (λo e=>aE _ (s3.extBut _ _ D.i12 e)) λo e=>aE _ (s3.extBut _ _ D.l1i2 e)
  ·rw[←sz];exact aJ _ rfl
 | true=>
  simp only[if_true];refine aC (dZ ?_);refine aC (bF z1 rfl (x:=.ref TO) rfl ?_);refine aC (bR z1 `c λh₂ z2 s2=>?_);replace z2:IsZ h₂ z TI TO .ellipsis `cd:=z2
  have s2:bE z h₁ h₂:=s2;refine aC ?_;simp only[adi,adq,abt,abq];have H1a:=H1.keep (λo e=>s2.extBut _ _ D.i1z e) λo e=>s2.extBut _ _ D.l1z e;have H2a:=H2.keep (λo e=>s2.extBut _ _ D.i2z e) λo e=>s2.extBut _ _ D.l2z e;refine aC (aC (fM ?_));show aI _ _ (aY `bD >>=_) _ _ _
  refine aC (H1a.next (s:={ s with heap:=h₂ }) D.l1i1 hx λh₃ H1b s3=>aH ?_);have s3:bE i1 h₂ h₃:=s3;have o3:bV h₃ TO p q:=s3.extBut _ _ D.TOi1 (s2.extBut _ _ D.TOz (k1 _ _ D.TOz hTO));refine aC (bP o3 rfl ?_);refine aC (fG o3 λh₄ o4 s4=>?_);replace o4:bV h₄ TO x q:=o4
  have s4:bE TO h₃ h₄:=s4;refine aC (fO (aH ?_));have H2b:=H2a.keep (λo e=>s4.extBut _ _ D.TOi2.symm (s3.extBut _ _ D.i12.symm e)) λo e=>s4.extBut _ _ D.l2TO (s3.extBut _ _ D.l2i1 e);refine aC (aC (fM ?_));show aI _ _ (aY `cI >>=_) _ _ _
  refine aC (H2b.next (s:={ s with heap:=h₄ }) D.l2i2 hy λh₅ H2c s5=>aH ?_);have s5:bE i2 h₄ h₅:=s5;have o5:bV h₅ TO x q:=s5.extBut _ _ D.TOi2 o4;refine aC (bP o5 rfl ?_);refine aC (fG o5 λh₆ o6 s6=>?_);replace o6:bV h₆ TO x y:=o6
  have s6:bE TO h₅ h₆:=s6;refine aC (fO (aH (aH ?_)));refine aC (bP o6 rfl ?_);refine aC (fZ ?_);have sz:h₆.objs.size=s.heap.objs.size:=by rw[s6.1,s5.1,s4.1,s3.1,s2.1,s1.1]
  have z6:IsZ h₆ z TI TO .ellipsis `cd:=s6.extBut _ _ D.TOz.symm (s5.extBut _ _ D.i2z.symm (s4.extBut _ _ D.TOz.symm (s3.extBut _ _ D.i1z.symm z2)));have up:∀c o,c≠z→c≠TO→c≠i1→c≠i2→s.heap.get? c=aA o→h₆.get? c=aA o:=λc o n1 n2 n3 n4 e=>s6.extBut _ _ n2 `bT;have H1c:=H1b.keep (λo e=>s6.extBut _ _ D.TOi1.symm (s5.extBut _ _ D.i12 (s4.extBut _ _ D.TOi1.symm e))) λo e=>s6.extBut _ _ D.l1TO `ei;have H2d:=H2c.keep (λo e=>s6.extBut _ _ D.TOi2.symm e) λo e=>s6.extBut _ _ D.l2TO e;have zl:z < h₆.objs.size:=aK z6;show aI _ _ (cQ `s `dw >>=_) _ _ _
  refine aC ?_;unfold cQ;have z7:IsZ `dM z TI TO .ellipsis `cd:=aE _ z6;refine aC (bR z7 `c λh₈ z8 s8=>?_);replace z8:IsZ h₈ z TI TO `dS `cd:=z8
  refine bR z8 `c λh₉ z9 s9=>?_;replace z9:IsZ h₉ z TI TO `dS (.bool false):=z9
  have u9:∀c o,c≠z→h₆.get? c=aA o→h₉.get? c=aA o:=λc o n e=>s9.extBut _ _ n (s8.extBut _ _ n (aE _ e));have t9:bV h₉ h₆.objs.size x y:=s9.extBut _ _ (ab2 zl) (s8.extBut _ _ (ab2 zl) (aJ _ rfl));have n9:h₉.objs.size=h₆.objs.size+1:=by rw[s9.1,s8.1,bD]
  rw[sz] at z9 t9 n9;refine aH ⟨_,rfl,?_⟩;show Q `dw _
  rw[sz];exact hQ h₉ ⟨⟨_,false,z9,.inr ⟨_,rfl⟩⟩,⟨x,y,u9 _ _ D.TOz o6⟩,u9 _ _ D.TIz (up _ _ D.TIz D.TITO D.TIi1 D.TIi2 hTI),H1c.keep (λo e=>u9 _ o D.i1z e) λo e=>u9 _ o D.l1z e,H2d.keep (λo e=>u9 _ o D.i2z e) λo e=>u9 _ o D.l2z e⟩ t9 n9 λc o n1 n2 n3 n4 e=>u9 c o n1 (up c o n1 n2 n3 n4 e)
theorem fin {Q:Fin→aF→Prop} (hh:A.handled=none) (D:cX z TI TO i1 i2 l1 l2) (hz:Zst c1 c2 z TI TO i1 i2 l1 l2 xs ys i s.heap) (hx:xs[i]?=none)
  (hE:∀h' e,(∀c o,c≠z→c≠TO→c≠i1→c≠i2→s.heap.get? c=aA o→h'.get? c=aA o)→(∃o,h'.get? e=aA o∧o.cls=.type "StopIteration")→E `e5 { s with heap:=h' }):
  aI `f A `ac Q E s:=by
 obtain ⟨⟨f0,b,z0,hf⟩,⟨p,q,hTO⟩,hTI,h1,h2⟩:=hz;show aI _ _ (eL `s 2 >>=_) _ _ _
 refine aC (bF z0 rfl (x:=.bool false) rfl ?_);show aI _ _ (eL `s 3 >>=_) _ _ _
 refine aC (bF z0 rfl (x:=.ref TI) rfl ?_);refine aC (bP hTI rfl ?_);show aI _ _ (bC `s >>=_) _ _ _
 refine aC (free z0 hf λr h₁ b1 z1 s1=>?_);have k1:∀c o,c≠z→s.heap.get? c=aA o→h₁.get? c=aA o:=λc o n e=>s1.extBut _ _ n e;have H1:=h1.keep (λo e=>k1 _ o D.i1z e) λo e=>k1 _ o D.l1z e;cases r with
 | false=>
  simp only[abn,if_false];refine aC ?_;rw[←aca];simp only[abt,abq];refine aC (aC (bI ?_));show aI _ _ (aY `bD >>=_) _ _ _
  exact aC (H1.stop (s:={ s with heap:=h₁ }) hh hx λh₂ e s2 he=>hE h₂ e (λc o n1 _ n3 _ g=>s2 _ _ n3 (k1 _ _ n1 g)) he)
 | true=>
  simp only[if_true];refine aC (dZ ?_);refine aC (bF z1 rfl (x:=.ref TO) rfl ?_);refine aC (bR z1 `c λh₂ z2 s2=>?_);replace z2:IsZ h₂ z TI TO .ellipsis `cd:=z2
  have s2:bE z h₁ h₂:=s2;refine aC ?_;simp only[adi,adq,abt,abq];have H1a:=H1.keep (λo e=>s2.extBut _ _ D.i1z e) λo e=>s2.extBut _ _ D.l1z e;refine aC (aC (fM ?_));show aI _ _ (aY `bD >>=_) _ _ _
  refine aC (H1a.stop (s:={ s with heap:=h₂ }) hh hx λh₃ e s3 he=>?_);obtain ⟨oe,hoe,hce⟩:=he;have z3:IsZ h₃ z TI TO .ellipsis `cd:=s3 _ _ D.i1z.symm z2;have hez:e≠z:=λx=>by subst x;rw[z3] at hoe;cases hoe;simp at hce
  exact bR z3 `c λh₄ _ s4=>hE h₄ e (λc o n1 _ n3 _ g=>s4.extBut _ _ n1 `eM) ⟨oe,s4.extBut _ _ hez hoe,hce⟩
theorem pyItem {x y:aD} {Q:Option aD→aF→Prop} (D:cX z TI TO i1 i2 l1 l2) (hz:Zst c1 c2 z TI TO i1 i2 l1 l2 xs ys i s.heap) (hx:xs[i]?=aA x) (hy:ys[i]?=aA y)
  (hQ:∀h',Zst c1 c2 z TI TO i1 i2 l1 l2 xs ys (i+1) h'→bV h' s.heap.objs.size x y→h'.objs.size=s.heap.objs.size+1→(∀c o,c≠z→c≠TO→c≠i1→c≠i2→s.heap.get? c=aA o→h'.get? c=aA o)→Q (aA `j) { s with heap:=h' }):
  aI `f A (cS `s) Q E s:=by
 have hT:s.TypeIs `s "zip":=by obtain ⟨⟨f0,b,z0,_⟩,_⟩:=hz;exact ⟨_,z0,rfl⟩
 unfold cS;exact aC (dU (bK (name:=aB "__next__") hT bW (bN bW hT eC (item D hz hx hy λh' a b c d=>aH (hQ h' a b c d)) (dX _))))
theorem pyFin {Q:Option aD→aF→Prop} (hh:A.handled=none) (D:cX z TI TO i1 i2 l1 l2) (hz:Zst c1 c2 z TI TO i1 i2 l1 l2 xs ys i s.heap) (hx:xs[i]?=none)
  (hQ:∀h',(∀c o,c≠z→c≠TO→c≠i1→c≠i2→s.heap.get? c=aA o→h'.get? c=aA o)→Q none { s with heap:=h' }):aI `f A (cS `s) Q E s:=by
 have hT:s.TypeIs `s "zip":=by obtain ⟨⟨f0,b,z0,_⟩,_⟩:=hz;exact ⟨_,z0,rfl⟩
 unfold cS;refine aC (dU (bK (name:=aB "__next__") hT bW (bN bW hT eC (fin (by first | exact hh | simp[hh]) D hz hx λh' e hk he=>?_) (dX _))));obtain ⟨o,ho,hc⟩:=he;refine aC (eF (T:="StopIteration") (b:=true) ⟨o,ho,hc⟩ gA ?_);exact aH (hQ _ hk)
theorem pySelf {Q:aD→aF→Prop} (hz:Zst c1 c2 z TI TO i1 i2 l1 l2 xs ys i s.heap) (h:Q `s s):aI `f A (iZ `s) Q E s:=by
 have hT:s.TypeIs `s "zip":=by obtain ⟨⟨f0,b,z0,_⟩,_⟩:=hz;exact ⟨_,z0,rfl⟩
 refine gG hT dE (bN dE hT gN ?_ (gH _));show aI _ _ (ret `s) _ _ s
 exact aH ⟨_,rfl,"zip",_,hT,F.slot_zip_next.lookup,h⟩
end
theorem new_tl (l1 l2:Addr) (xs ys:Array aD):
  Meets (cR.«zip.__new__» ⟨[.type "zip",.ref l1,.ref l2],[]⟩) (λ_ R s=>s.heap.IsTuple l1 xs∧s.heap.IsList l2 ys∧
   R (.ok (.ret `a4)) { s with heap:=((((s.heap.push { cls:=.type "tuple_iterator",data:=.fields #[.ref l1,.int 0 0] }).push { cls:=.type "list_iterator",data:=.fields #[.ref l2,.int 0 0] }).push { cls:=.type "tuple",data:=.seq #[.ref s.heap.objs.size,.ref (s.heap.objs.size+1)] }).push { cls:=.type "tuple",data:=.seq #[.none,.none] }).push { cls:=.type "zip",data:=.fields #[.none,.bool false,.bool false,.ref (s.heap.objs.size+2),.ref (s.heap.objs.size+3)] } }):=
 .of_wp λprog w A R s h=>by
  obtain ⟨hp,g,d,tk,os⟩:=s;obtain ⟨hl1,hl2,h⟩:=h;have hsub:=sub_zip;have hL1:mU `eV l1 xs:=hl1;have hL2:Heap.IsList (gL ⟨hp.push { cls:=.type "tuple_iterator",data:=.fields #[.ref l1,.int 0 0] },g,d,tk,os⟩) l2 ys:=Heap.IsList.push hl2 _;simp only[←bD] at h;wp_walk using eR hL1,dI hL2
  simp only[bD] at h ⊢;exact ⟨_,rfl,h⟩
section
variable {prog:aX} {w:aZ} {A:bJ} {E:aD→aF→Prop} {s:aF}
theorem Ug {l1 l2:Addr} {xs ys:Array aD} {Q:aD→aF→Prop} (hl1:s.heap.IsTuple l1 xs) (hl2:s.heap.IsList l2 ys)
  (h:∀h',Zst true false (s.heap.objs.size+4) (s.heap.objs.size+2) (s.heap.objs.size+3) s.heap.objs.size (s.heap.objs.size+1) l1 l2 xs ys 0 h'→h'.objs.size=s.heap.objs.size+5→
   (∀c o,s.heap.get? c=aA o→h'.get? c=aA o)→Q `a4 { s with heap:=h' }):
  aI `f A `dL Q E s:=by
 refine callType_new F.called_zip `a (F.typeCall_zip_2 _ _) (F.newCall_zip_2 _ _) (λobj=>lP obj _ _) F.entry_zip_new (new_tl l1 l2 xs ys) ⟨hl1,hl2,?_⟩;generalize hn:s.heap.objs.size=n at h ⊢;have e1:(s.heap.push { cls:=.type "tuple_iterator",data:=.fields #[.ref l1,.int 0 0] }).get? n=aA { cls:=.type "tuple_iterator",data:=.fields #[.ref l1,.int 0 0] }:=by rw[←hn];exact aJ _ rfl
 have n1:(s.heap.push { cls:=.type "tuple_iterator",data:=.fields #[.ref l1,.int 0 0] }).objs.size=n+1:=by rw[bD,hn]
 have k1:∀c o,s.heap.get? c=aA o→(s.heap.push { cls:=.type "tuple_iterator",data:=.fields #[.ref l1,.int 0 0] }).get? c=aA o:=λc o e=>aE _ e;generalize s.heap.push { cls:=.type "tuple_iterator",data:=.fields #[.ref l1,.int 0 0] }=h1 at e1 n1 k1 ⊢;have e2:(h1.push { cls:=.type "list_iterator",data:=.fields #[.ref l2,.int 0 0] }).get? (n+1)=aA { cls:=.type "list_iterator",data:=.fields #[.ref l2,.int 0 0] }:=by rw[←n1];exact aJ _ rfl
 have n2:(h1.push { cls:=.type "list_iterator",data:=.fields #[.ref l2,.int 0 0] }).objs.size=n+2:=by rw[bD,n1]
 have k2:∀c o,h1.get? c=aA o→(h1.push { cls:=.type "list_iterator",data:=.fields #[.ref l2,.int 0 0] }).get? c=aA o:=λc o e=>aE _ e;generalize h1.push { cls:=.type "list_iterator",data:=.fields #[.ref l2,.int 0 0] }=h2 at e2 n2 k2 ⊢;have e3:(h2.push { cls:=.type "tuple",data:=.seq #[.ref n,.ref (n+1)] }).get? (n+2)=aA { cls:=.type "tuple",data:=.seq #[.ref n,.ref (n+1)] }:=by rw[←n2];exact aJ _ rfl
 have n3:(h2.push { cls:=.type "tuple",data:=.seq #[.ref n,.ref (n+1)] }).objs.size=n+3:=by rw[bD,n2]
 have k3:∀c o,h2.get? c=aA o→(h2.push { cls:=.type "tuple",data:=.seq #[.ref n,.ref (n+1)] }).get? c=aA o:=λc o e=>aE _ e;generalize h2.push { cls:=.type "tuple",data:=.seq #[.ref n,.ref (n+1)] }=h3 at e3 n3 k3 ⊢;have e4:(h3.push { cls:=.type "tuple",data:=.seq #[.none,.none] }).get? (n+3)=aA { cls:=.type "tuple",data:=.seq #[.none,.none] }:=by rw[←n3];exact aJ _ rfl
 have n4:(h3.push { cls:=.type "tuple",data:=.seq #[.none,.none] }).objs.size=n+4:=by rw[bD,n3]
 have k4:∀c o,h3.get? c=aA o→(h3.push { cls:=.type "tuple",data:=.seq #[.none,.none] }).get? c=aA o:=λc o e=>aE _ e;generalize h3.push { cls:=.type "tuple",data:=.seq #[.none,.none] }=h4 at e4 n4 k4 ⊢;have e5:(h4.push { cls:=.type "zip",data:=.fields #[.none,.bool false,.bool false,.ref (n+2),.ref (n+3)] }).get? (n+4)=aA { cls:=.type "zip",data:=.fields #[.none,.bool false,.bool false,.ref (n+2),.ref (n+3)] }:=by rw[←n4];exact aJ _ rfl
 have n5:(h4.push { cls:=.type "zip",data:=.fields #[.none,.bool false,.bool false,.ref (n+2),.ref (n+3)] }).objs.size=n+5:=by rw[bD,n4]
 have k5:∀c o,h4.get? c=aA o→(h4.push { cls:=.type "zip",data:=.fields #[.none,.bool false,.bool false,.ref (n+2),.ref (n+3)] }).get? c=aA o:=λc o e=>aE _ e;generalize h4.push { cls:=.type "zip",data:=.fields #[.none,.bool false,.bool false,.ref (n+2),.ref (n+3)] }=h5 at e5 n5 k5 ⊢;have up:∀c o,s.heap.get? c=aA o→h5.get? c=aA o:=λc o e=>k5 _ _ (k4 _ _ (k3 _ _ (k2 _ _ (k1 _ _ e))));obtain ⟨o1,g1,r1⟩:=hl1;obtain ⟨o2,g2,r2⟩:=hl2;exact ⟨⟨_,e5,rfl⟩,h _ ⟨⟨.none,false,e5,.inl rfl⟩,⟨_,_,k5 _ _ e4⟩,k5 _ _ (k4 _ _ e3),⟨⟨_,k5 _ _ (k4 _ _ (k3 _ _ (k2 _ _ e1))),rfl,rfl⟩,⟨o1,up _ _ g1,r1⟩⟩,⟨⟨_,k5 _ _ (k4 _ _ (k3 _ _ e2)),rfl,rfl⟩,⟨o2,up _ _ g2,r2⟩⟩⟩ n5 up⟩
theorem Uq {l1 l2:Addr} {xs ys:Array aD} {Q:aD→aF→Prop} (hl1:s.heap.IsList l1 xs) (hl2:s.heap.IsList l2 ys)
  (h:∀h',Zst false false (s.heap.objs.size+4) (s.heap.objs.size+2) (s.heap.objs.size+3) s.heap.objs.size (s.heap.objs.size+1) l1 l2 xs ys 0 h'→h'.objs.size=s.heap.objs.size+5→
   (∀c o,s.heap.get? c=aA o→h'.get? c=aA o)→Q `a4 { s with heap:=h' }):
  aI `f A `dL Q E s:=
 call_zip_2 hl1 hl2 λh' a1 a2 a3 a4 a5 a6 keep=>h h' ⟨⟨.none,false,a1,.inl rfl⟩,⟨_,_,a3⟩,a2,⟨a4,hl1.at λo e=>keep _ o e⟩,⟨a5,hl2.at λo e=>keep _ o e⟩⟩ a6 keep
end
structure Mk (xs ys:Array aD) (lo:Addr) (h:Heap) (as:List Addr):Prop where
 nd:as.Nodup
 up:∀a∈as,lo < a
 at':∀(j:Nat) (a:Addr),as[j]?=aA a→∃x y,xs[j]?=aA x∧ys[j]?=aA y∧bV h a x y
section
variable {prog:aX} {w:aZ} {A:bJ} {s:aF} {R:iC→aF→Prop} {c1 c2:Bool} {z TI TO i1 i2 l1 l2 S:Addr} {xs ys:Array aD}
theorem loop (hh:A.handled=none) (D:cX z TI TO i1 i2 l1 l2) (hS:S∉[z,TI,TO,i1,i2,l1,l2]) (lo:Addr) (hlo:z≤lo∧TO≤lo∧i1≤lo∧i2≤lo∧S≤lo) (hn:xs.size=ys.size) (hz:xs.size≤sizeLine) (res:aD) {h₁:Heap}
  (hR:∀h' tk acc c as,(∀b o,b∉[S,z,TO,i1,i2]→h₁.get? b=aA o→h'.get? b=aA o)→h'.get? S=aA { cls:=.type "list",dict:=none,data:=.seq acc c,slots:=#[] }→as.length=xs.size→Mk xs ys lo h' as→
   acc.toList=as.map bG→R (.ok (.ret res)) { s with heap:=h',toks:=tk }):
  ∀(k i:Nat) (h:Heap) (tk c:Nat) (acc:Array aD) (as:List Addr),xs.size - i=k→i≤xs.size→Zst c1 c2 z TI TO i1 i2 l1 l2 xs ys i h→(∀b o,b∉[S,z,TO,i1,i2]→h₁.get? b=aA o→h.get? b=aA o)→
   h.get? S=aA { cls:=.type "list",dict:=none,data:=.seq acc c,slots:=#[] }→acc.toList=as.map bG→as.length=i→Mk xs ys lo h as→lo < h.objs.size→
   dO `f A `dr R { s with heap:=h,toks:=tk }:=by
 simp only[aan,aac,or_false,not_or] at hS;obtain ⟨Sz,STI,STO,S1,S2,Sl1,Sl2⟩:=hS;intro k;induction k with
 | zero=>
  intro i h tk c acc as hk hi hst hkeep hSl hacc hal hG hIs;refine dF iS ?_;rw[dG cZ _];show aI _ A.in1 (cS `s >>=_) _ _ _
  refine aC (pyFin (s:={ s with heap:=h,toks:=tk }) (A:=A.in1) hh D hst (ac0 (by omega)) λh' he=>?_);refine aH (hR h' tk acc c as (λb o hb e=>?_) (he S _ Sz STO S1 S2 hSl) (by omega) ⟨hG.nd,hG.up,λj a hj=>?_⟩ hacc)
  ·have hb':=hb;simp only[aan,aac,or_false,not_or] at hb';exact he b o hb'.2.1 hb'.2.2.1 hb'.2.2.2.1 hb'.2.2.2.2 (hkeep b o hb e)
  ·obtain ⟨x,y,g1,g2,g3⟩:=hG.at' j a hj;have u:=hG.up a (aak hj);have ne:∀{c:Addr},c≤lo→a≠c:=λq=>ab2 (ac9 q u);exact ⟨x,y,g1,g2,he a _ (ne hlo.1) (ne hlo.2.1) (ne hlo.2.2.1) (ne hlo.2.2.2.1) g3⟩
 | succ k ih=>
  intro i h tk c acc as hk hi hst hkeep hSl hacc hal hG hIs;have hlt:i < xs.size:=by omega
  have hsz:acc.size=i:=by rw[←abb,hacc,aa0,hal]
  refine dF iS ?_;rw[dG cZ _];show aI _ A.in1 (cS `s >>=_) _ _ _
  refine aC (pyItem (s:={ s with heap:=h,toks:=tk }) D hst (aax hlt) (aax (by omega)) λh' hst' ht hz' hkp=>?_);dsimp only at ht hz' hkp ⊢;have hS':=hkp S _ Sz STO S1 S2 hSl;have up:∀b o,b≠S→h'.get? b=aA o→(h'.update S (cK (·.push (bG h.objs.size)))).get? b=aA o:=λb o hb e=>(cF _ _ (cT hb)).trans e;have hSs:S < h.objs.size:=aK hSl;show aI _ A.in1 (jQ S (·.push (bG h.objs.size)) >>=_) _ _ _
  refine aC ?_;refine fR hS' rfl (aH ⟨eO cZ _,ih (i+1) _ tk _ (acc.push (bG h.objs.size)) (as++[h.objs.size]) (by omega) hlt
   (hst'.keep (λb hb o e=>up b o (λx=>by subst x;simp only[aan,aac,or_false] at hb;rcases hb with q | q | q | q | q <;> exact absurd q (by assumption)) e) (λo e=>up _ o (cT Sl1) e) λo e=>up _ o (cT Sl2) e)
   (λb o hb e=>?_) (cL _ hS' rfl) (by rw[Array.toList_push,hacc,aab];rfl) (by rw[aa1,hal];rfl) ⟨?_,?_,?_⟩ ?_⟩) (by rw[hsz];omega) (by show (acc.push (bG h.objs.size)).size≤sizeLine+1;rw[Array.size_push,hsz];omega)
  ·have hb':=hb;simp only[aan,aac,or_false,not_or] at hb';exact up b o hb'.1 (hkp b o hb'.2.1 hb'.2.2.1 hb'.2.2.2.1 hb'.2.2.2.2 (hkeep b o hb e))
  ·refine List.nodup_append.mpr ⟨hG.nd,`c,λa ha b hb=>?_⟩;rw[List.mem_singleton.mp hb];obtain ⟨j,hj⟩:=List.mem_iff_getElem?.mp ha;obtain ⟨_,_,_,_,e3⟩:=hG.at' j a hj;exact aam (aK e3)
  ·intro a ha;rcases List.mem_append.mp ha with ha | ha
   ·exact hG.up a ha
   ·rw[List.mem_singleton.mp ha];exact hIs
  ·intro j b hj;rcases Nat.lt_trichotomy j as.length with g | g | g
   ·rw[aag g] at hj;obtain ⟨x,y,e1,e2,e3⟩:=hG.at' j b hj;have u:=hG.up b (aak hj);have ne:∀{c:Addr},c≤lo→b≠c:=λq=>ab2 (ac9 q u);exact ⟨x,y,e1,e2,up b _ (ne hlo.2.2.2.2) (hkp b _ (ne hlo.1) (ne hlo.2.1) (ne hlo.2.2.1) (ne hlo.2.2.2.1) e3)⟩
   ·subst g;have hb:h.objs.size=b:=by simpa using hj
    subst hb;exact ⟨_,_,by rw[hal];exact aax hlt,by rw[hal];exact aax (by omega),up _ _ (ab2 hSs) ht⟩
   ·have hnone:(as++[h.objs.size])[j]?=none:=abk (by rw[aa1,aa4];omega);rw[hnone] at hj;cases hj
  ·rw[gO,hz'];exact acj hIs
end
theorem Iy:dY `bM "__len__"=pure none:=by rw[dQ,cM];kernel_rfl
theorem Up:dY `bM "__length_hint__"=pure none:=by rw[dQ,cM];kernel_rfl
section
variable {prog:aX} {w:aZ} {A:bJ} {E:aD→aF→Prop} {s:aF} {c1 c2:Bool} {z TI TO i1 i2 l1 l2:Addr} {xs ys:Array aD}
theorem extend {R:iC→aF→Prop} (hh:A.handled=none) (D:cX z TI TO i1 i2 l1 l2) (hz:Zst c1 c2 z TI TO i1 i2 l1 l2 xs ys 0 s.heap) (S:Addr) (hS:S∉[z,TI,TO,i1,i2,l1,l2]) (lo:Addr) (hlo:z≤lo∧TO≤lo∧i1≤lo∧i2≤lo∧S≤lo) (hls:lo < s.heap.objs.size) (hn:xs.size=ys.size) (hsz:xs.size≤sizeLine) (res:aD) (c₀:Nat) (hSl:s.heap.get? S=aA { cls:=.type "list",data:=.seq #[] c₀ })
  (hR:∀h' tk acc c as,(∀b o,b∉[S,z,TO,i1,i2]→s.heap.get? b=aA o→h'.get? b=aA o)→h'.get? S=aA { cls:=.type "list",dict:=none,data:=.seq acc c,slots:=#[] }→as.length=xs.size→Mk xs ys lo h' as→
   acc.toList=as.map bG→R (.ok (.ret res)) { s with heap:=h',toks:=tk }):
  aI `f A.in1 (bS (.ref S) `s res)
   (λfin s'=>match fin with | .done f=>R (.ok f) s' | .again c'=>c'.quiet=true∧dO `f A c' R s') (λe s'=>R `dP s') s:=by
 have hT:s.TypeIs `s "zip":=by obtain ⟨⟨f0,b,z0,_⟩,_⟩:=hz;exact ⟨_,z0,rfl⟩
 have hSz:S≠z:=λe=>hS (by simp[e]);unfold bS;refine aC (dC hT ?_);have h1:eG (.ref S) `s=false:=by simp[eG,hSz]
 have h2:(dA "zip"==dA "list")=false:=by decide
 have h3:(dA "zip"==dA "tuple")=false:=by decide
 simp only[h1,h2,h3,ady,abn,if_false];refine aC (pySelf hz ?_);refine aC (bI ?_);unfold fE;refine aC (fQ hT Iy ?_);show aI _ A.in1 (specialOf (bG z) (aB "__length_hint__") >>=_) _ _ _
 refine aC (fQ hT Up ?_);refine aH ?_;show aI _ A.in1 (rule "list.extend.makes-room" >>=λ_=>Builtin.List.listTouch (.ref S) >>=λ_=>again `dr) _ _ _
 refine aC (dZ ?_);refine aC ?_;show aI _ A.in1 (jQ S (·.push .none) >>=λ_=>jQ S (·.pop)) _ _ _
 refine aC (fR hSl rfl ?_);have hS₂:=cL (cK (·.push dJ)) hSl rfl;refine fR (hz:=by seq_fits) hS₂ rfl ?_;have hS₃:=cL (cK (·.pop)) hS₂ rfl;have oth:∀b o,b≠S→s.heap.get? b=aA o→((s.heap.update S (cK (·.push dJ))).update S (cK (·.pop))).get? b=aA o:=λb o hb e=>(cF _ _ (cT hb)).trans ((cF _ _ (cT hb)).trans e);have hS':=hS;simp only[aan,aac,or_false,not_or] at hS';refine aH ⟨eO cZ _,loop (s:=s) (h₁:=s.heap) hh D hS lo hlo hn hsz res hR xs.size 0 _ _ _ #[] [] (aes _) (aai _) (hz.keep (λb hb o e=>oth b o (λx=>?_) e) (λo e=>oth _ o (cT hS'.2.2.2.2.2.1) e) λo e=>oth _ o (cT hS'.2.2.2.2.2.2) e) (λb o hb e=>oth b o (λx=>hb (by simp[x])) e) hS₃ rfl rfl ⟨acx,(λ_ ha=>nomatch ha),(λj a hj=>by simp at hj)⟩ ?_⟩
 ·subst x;simp only[aan,aac,or_false] at hb;rcases hb with q | q | q | q | q
  ·exact hS'.1 q
  ·exact hS'.2.1 q
  ·exact hS'.2.2.1 q
  ·exact hS'.2.2.2.1 q
  ·exact hS'.2.2.2.2.1 q
 ·rw[gO,gO];exact hls
theorem Vm {Q:aD→aF→Prop} (hh:A.handled=none) (D:cX z TI TO i1 i2 l1 l2) (hz:Zst c1 c2 z TI TO i1 i2 l1 l2 xs ys 0 s.heap) (hlt:∀b∈[z,TI,TO,i1,i2,l1,l2],b < s.heap.objs.size) (hn:xs.size=ys.size) (hsz:xs.size≤sizeLine)
  (hQ:∀h' tk acc c as,(∀b o,b∉[z,TO,i1,i2]→s.heap.get? b=aA o→h'.get? b=aA o)→h'.get? s.heap.objs.size=aA { cls:=.type "list",dict:=none,data:=.seq acc c,slots:=#[] }→as.length=xs.size→Mk xs ys s.heap.objs.size h' as→
   acc.toList=as.map bG→Q `j { s with heap:=h',toks:=tk }):
  aI `f A (call `cD [.ref z]) Q E s:=by
 refine hJ (Q₁:=λobj s₁=>obj=.ref s.heap.objs.size∧s₁={ s with heap:=s.heap.push { cls:=.type "list",data:=.seq #[] } }) lY (jG _) jH
  (code_list_new _ ⟨rfl,rfl⟩) λobj s₁ h₁=>?_
 obtain ⟨rfl,rfl⟩:=h₁;have hS:(s.heap.push { cls:=.type "list",data:=.seq #[] }).get? s.heap.objs.size=aA { cls:=.type "list",data:=.seq #[] }:=aJ _ rfl;have hSf:s.heap.objs.size∉[z,TI,TO,i1,i2,l1,l2]:=λe=>abi _ (hlt _ e);have hz1:=hz.keep (h':=s.heap.push { cls:=.type "list",data:=.seq #[] }) (λb _ o e=>aE _ e) (λo e=>aE _ e) λo e=>aE _ e;refine ⟨⟨_,hS,rfl⟩,jC _ _,?_⟩;have z1:=hlt z `c;have z2:=hlt TO `c;have z3:=hlt i1 `c;have z4:=hlt i2 `c;show aI _ _ (do let old ←eW `j;jI `j (λ_=>#[]);letGo old.toList.reverse;bS `j `s .none) _ _ _
 refine aC ?_;unfold eW;refine aC (bP hS rfl (aH ?_));show aI _ _ (jQ s.heap.objs.size (λ_=>#[]) >>=λ_=>letGo (#[]:Array aD).toList.reverse >>=λ_=>bS `j `s .none) _ _ _
 refine aC (fR hS rfl ?_);have hS₂:=cL `bQ hS rfl;have oth:∀b o,b≠s.heap.objs.size→(s.heap.push { cls:=.type "list",data:=.seq #[] }).get? b=aA o→((s.heap.push { cls:=.type "list",data:=.seq #[] }).update s.heap.objs.size `bQ).get? b=aA o:=λb o hb e=>(cF _ _ (cT hb)).trans e;refine aC (fO ?_);refine extend (A:=A.in1) hh D (hz1.keep (λb hb o e=>oth b o (aam (hlt b (by simp only[aan,aac,or_false] at hb ⊢;rcases hb with q | q | q | q | q <;> simp[q]))) e) (λo e=>oth _ o (aam (hlt l1 `c)) e) λo e=>oth _ o (aam (hlt l2 `c)) e) _ hSf s.heap.objs.size ⟨ac8 z1,ac8 z2,ac8 z3,ac8 z4,aa3 _⟩ (by show _ < (Heap.update _ _ _).objs.size;rw[gO,bD];exact aex _) hn hsz .none _ hS₂ λh' tk acc c as hk hS' hl hG hacc=>?_;exact ⟨rfl,hQ h' tk acc c as (λb o hb e=>hk b o (λx=>by
  rcases List.mem_cons.mp x with q | q
  ·exact abi _ (q ▸ aK e)
  ·exact hb q) (oth b o `d9 (aE _ e))) hS' hl hG hacc⟩
end
end L2.Zg
namespace L2
open PySem PySem.Spec PyProof.Rows Zd Zg
theorem N1:bO "zip"=aA `bM:=by decide+kernel
def SqB (K:aG):Bool→Hp→Addr→List V→Prop
 | true,H,a,xs=>SqT K H a xs
 | false,H,a,xs=>SqL K H a xs
def itB:Bool→Heap→Addr→Addr→Nat→Prop
 | true,h,it,l,i=>h.IsTupleIter it l i
 | false,h,it,l,i=>h.IsListIter it l i
theorem itB.keep {b:Bool} {h h':Heap} {it l:Addr} {i:Nat} (x:itB b h it l i) (k:∀o,h.get? it=aA o→h'.get? it=aA o):itB b h' it l i:=by
 cases b
 ·obtain ⟨o,e,r⟩:=x;exact ⟨o,k _ e,r⟩
 ·obtain ⟨o,e,r⟩:=x;exact ⟨o,k _ e,r⟩
theorem itB.obj {b:Bool} {h:Heap} {it l:Addr} {i:Nat} (x:itB b h it l i):∃o,h.get? it=aA o∧∀v,o.data≠.cell v:=by
 cases b
 ·obtain ⟨o,e,_,d⟩:=x;exact ⟨o,e,λv z=>by rw[d] at z;cases z⟩
 ·obtain ⟨o,e,_,d⟩:=x;exact ⟨o,e,λv z=>by rw[d] at z;cases z⟩
theorem Q5 {b:Bool} {it l:Addr} {xs:Array aD} {i:Nat} {h:Heap} (x:Hf b it l xs i h):itB b h it l i:=by
 cases b
 ·exact x.1
 ·exact x.1
def zpN (z TI TO i1 i2:Addr) (h:Heap):Prop:=(∃f0 b,IsZ h z TI TO f0 `dy∧(f0=.none∨∃T:Addr,f0=cP T))∧(∃a b,bV h TO a b)∧bV h TI `bD `cI
section
variable {X:Cx} {pins:List (Addr×Obj)} {σ:St} {H:Hp} {s:aF}
theorem Inv.sqB (I:Inv X pins σ H s) {b:Bool} {a:Addr} {xs:List V} (h:SqB X.K b H a xs):∃its:List aD,Vals xs its∧xs.length≤sizeLine∧a < s.heap.objs.size∧(∀it i,itB b s.heap it a i→Hf b it a its.toArray i s.heap)∧(b=true→s.heap.IsTuple a its.toArray)∧(b=false→s.heap.IsList a its.toArray):=by
 cases b
 ·obtain ⟨its,r,p,z⟩:=I.list h;refine ⟨its,r,z,?_,λit i q=>⟨q,p.isList⟩,(λe=>nomatch e),λ_=>p.isList⟩;obtain ⟨o,e,_⟩:=p.isList;exact aK e
 ·obtain ⟨its,r,p,z⟩:=I.tuple h;refine ⟨its,r,z,?_,λit i q=>⟨q,p⟩,(λ_=>p),(λe=>nomatch e)⟩;obtain ⟨o,e,_⟩:=p;exact aK e
theorem Inv.Tp (I:Inv X pins σ H s) {b:Bool} {a:Addr} {xs ys:List V} (h:SqB X.K b H a xs) (h':SqB X.K b H a ys):xs=ys:=by
 cases b
 ·exact I.tj h h'
 ·exact I.vy h h'
end
theorem go_zip {P:aX} {w:aZ} {A:bJ} {E:aD→aF→Prop} {s:aF} {tg:Expr} {z TI TO T:Addr} {f0:aD} {b:Bool} {Q:Unit→aF→Prop} (ht:(∃x pos,tg=.Name x pos)∨∃es k pos,tg=.Tuple es k pos) (hz:IsZ s.heap z TI TO f0 `dy) (hf:f0=.none∨∃T:Addr,f0=cP T)
  (q:∀h' f1,IsZ h' z TI TO f1 `dy→(f1=.none∨∃T:Addr,f1=cP T)→bE z s.heap h'→Q () { s with heap:=h' }):aI `e0 A (eQ tg `s (.ref T)) Q E s:=by
 rcases ht with ⟨x,pos,rfl⟩ | ⟨es,k,pos,rfl⟩
 ·exact aH (q s.heap f0 hz hf (eY _ _))
 ·unfold eQ;refine aC (wpAny_load hz ?_);show aI _ _ (if (["enumerate","zip","dict_itemiterator","dict_reverseitemiterator","odict_iterator","itertools.zip_longest","itertools.pairwise"].contains "zip"&&(#[f0,.bool b,.bool false,.ref TI,.ref TO]:Array aD)[0]?==aA (cP T))=true then _ else _) Q E s
  refine fS (λ_=>aC (dZ ?_)) λ_=>aH (q s.heap f0 hz hf (eY _ _));show aI _ _ (setField `s 0 .none) Q E s
  exact bR hz `c λh' hz' hs'=>q h' .none hz' `W hs'
section
variable {X:Cx}
theorem Hu {pins:List (Addr×Obj)} {σ:St} {H:Hp} {s:aF} {c:Bool} {l1 l2:Addr} {xs ys:List V} {A:bJ} {E:aD→aF→Prop} {Q:aD→aF→Prop} (I:Inv X pins σ H s) (h1:SqB X.K c H l1 xs) (h2:SqL X.K H l2 ys)
  (q:∀(u v:List aD) (h':Heap),Vals xs u→Vals ys v→Zst c false (s.heap.objs.size+4) (s.heap.objs.size+2) (s.heap.objs.size+3) s.heap.objs.size (s.heap.objs.size+1) l1 l2 u.toArray v.toArray 0 h'→h'.objs.size=s.heap.objs.size+5→(∀c o,s.heap.get? c=aA o→h'.get? c=aA o)→l1 < s.heap.objs.size→l2 < s.heap.objs.size→Q `a4 { s with heap:=h' }):
  aI `d A `dL Q E s:=by
 obtain ⟨u,ru,_,lt1,_,t1,g1⟩:=I.sqB h1;obtain ⟨v,rv,_,lt2,_,t2,g2⟩:=I.sqB (b:=false) h2;cases c with
 | true=>exact Ug (t1 rfl) (g2 rfl) λh' a b d=>q u v h' ru rv a b d lt1 lt2
 | false=>exact Uq (g1 rfl) (g2 rfl) λh' a b d=>q u v h' ru rv a b d lt1 lt2
end
noncomputable def jv (H:Hp) (N:Addr→Option HO):Hp:=λb=>match N b with | some o=>aA o | none=>H b
theorem Inv.many {X:Cx} {pins:List (Addr×Obj)} {σ:St} {H:Hp} {s:aF} {h':Heap} {t':Nat} {N:Addr→Option HO} (I:Inv X pins σ H s) (k:∀b u,s.heap.get? b=aA u→h'.get? b=aA u) (hp:∀a o,N a=aA o→s.heap.objs.size≤a) (new:∀a o,N a=aA o→cj X.prog X.w (jv H N) h' a o):
  Inv X pins σ (jv H N) { s with heap:=h',toks:=t' }:=by
 have old:∀b,b < s.heap.objs.size→jv H N b=H b:=λb hb=>by
  unfold jv;cases e:N b with
  | none=>rfl
  | some o=>exact absurd (aao hb (hp b o e)) (abi _)
 have tr:∀b u,H b=aA u→jv H N b=aA u:=λb u e=>by rw[old b (I.hok.lt e)];exact e
 refine I.step (g':=s.gens) (d':=s.drawn) (ch:=[]) (λb hb=>nomatch hb) (λb o _ _ _ e _=>k b o e) (λb o _ _ _ e _=>⟨o.slots,k b o e⟩) (λb o _ e n=>by rw[old b (aK e)];exact n)
  (λb o _ e=>⟨o,k b o e⟩) (λb xs e=>tr b _ e) (λb o u e=>tr b _ e) (λb ps e=>⟨#[],by rw[tr b _ e];simp⟩) (λm hm=>hm.at λo e=>k _ o e) (λb u e=>?_) I.bare
 cases en:N b with
 | some o=>
  have:jv H N b=aA o:=by unfold jv;rw[en]
  rw[this] at e;cases e
  exact new b _ en
 | none=>
  have:jv H N b=H b:=by unfold jv;rw[en]
  rw[this] at e;exact (I.hok b u e).Hy (λc v _ q=>k c v q) (λc q=>tr c _ q) λc xs q=>tr c _ q
theorem Aa {β:Type}:∀{as:List Addr} {ps:List β},as.Nodup→∀{j:Nat} {a:Addr} {p:β},as[j]?=aA a→ps[j]?=aA p→(as.zip ps).lookup a=aA p
 | [],_,_,j,a,p,h,_=>by simp at h
 | _::_,[],_,j,a,p,_,h=>by simp at h
 | b::as,q::ps,nd,0,a,p,h1,h2=>by
  simp at h1 h2;subst h1 h2;simp[List.lookup]
 | b::as,q::ps,nd,j+1,a,p,h1,h2=>by
  simp only[acq] at h1 h2;have hn:=List.nodup_cons.mp nd;have ne:a≠b:=λe=>hn.1 (e ▸ aak h1);rw[adx,aco];simp only[show (a==b)=false from beq_eq_false_iff_ne.mpr ne];exact Aa hn.2 h1 h2
theorem zb {β:Type}:∀{as:List Addr} {ps:List β} {a:Addr} {p:β},(as.zip ps).lookup a=aA p→∃j:Nat,as[j]?=aA a∧ps[j]?=aA p
 | [],_,a,p,h=>by simp at h
 | _::_,[],a,p,h=>by simp at h
 | b::as,q::ps,a,p,h=>by
  rw[adx,aco] at h;by_cases e:a=b
  ·simp only[show (a==b)=true from beq_iff_eq.mpr e] at h;cases h
   exact ⟨0,by rw[e];rfl,rfl⟩
  ·simp only[show (a==b)=false from beq_eq_false_iff_ne.mpr e] at h;obtain ⟨j,h1,h2⟩:=zb h;exact ⟨j+1,h1,h2⟩
theorem Cd:∀as:List Addr,Vals (as.map V.ref) (as.map bG)
 | []=>.nil
 | _::as=>.cons rfl (Cd as)
def tLZ (K:aG) (ta:TA):TE:=λσ H Q=>ta σ H λvs H1=>∃(l1 l2:Addr) (xs ys:List V),vs=[.ref l1,.ref l2]∧SqT K H1 l1 xs∧SqL K H1 l2 ys∧xs.length=ys.length∧
 ∀(l:Addr) (as:List Addr) (H2:Hp),ag H1 H2→H1 l=none→as.length=xs.length→H2 l=aA `e→(∀(j:Nat) (x y:V),xs[j]?=aA x→ys[j]?=aA y→∃a,as[j]?=aA a∧H2 a=aA (.tup [x,y]))→Q `B H2
section
variable {X:Cx}
theorem Ao {a b:Expr} {ta:TA} {p p2 pos pos2:Pos} (hc:X.calm=true) (hg:Gl X "list") (hm:X.mg "list"=none) (hg2:Gl X "zip") (hm2:X.mg "zip"=none) (ha:PA X [a,b] ta)
  (hs:bB [.Call `cO [a,b] [] pos2] X.env=[(false,eval (.Call `cO [a,b] [] pos2) X.env)]:=by rfl) (hs2:bB [a,b] X.env=(false,eval a X.env)::bB [b] X.env:=by rfl) (hpl:(cJ pos2 (bB [b] X.env)).any (·.1)=false:=by rfl):
  PE X (.Call (.Name "list" p) [.Call `cO [a,b] [] pos2] [] pos) (tLZ X.K ta):=by
 intro pins s σ H Q I h;refine bU (gj I hg hm Ik ?_);refine bL ?_ hs rfl;rw[hs];show aI _ _ `cr _ _ s
 refine dM ?_;refine bU (gj I hg2 hm2 N1 ?_);refine bL (thn `dR λus s1 ⟨vs,H1,I1,r1,q1⟩=>?_) hs2 hpl;obtain ⟨l1,l2,xs,ys,rfl,e1,e2,hl,q⟩:=q1;obtain ⟨u1,u2,rfl,ru1,ru2⟩:=vals2 r1;cases ru1
 cases ru2
 have zl:xs.length≤sizeLine:=by obtain ⟨_,_,_,z⟩:=I1.tuple e1;exact z
 refine Hu (c:=true) I1 e1 e2 λu v h' ru rv zs hz keep lt1 lt2=>eX ?_;have n1:=ru.length;have n2:=rv.length;refine Vm (s:={ s1 with heap:=h' }) (I1.ok.hd hc) (mV lt1 lt2) zs (λb hb=>?_) (by rw[aae,aae];omega) (by rw[aae];omega) λh2 tk acc c as kp hL hal hM hacc=>?_
 ·have hz':(gL { s1 with heap:=h' }).objs.size=s1.heap.objs.size+5:=hz;rw[hz'];simp only[aan,aac,or_false] at hb;rcases hb with rfl | rfl | rfl | rfl | rfl | rfl | rfl
  ·exact ad4 `a _
  ·exact ad4 `a _
  ·exact ad4 `a _
  ·exact Nat.lt_add_of_pos_right `a
  ·exact ad4 `a _
  ·exact aao lt1 `bL
  ·exact aao lt2 `bL
 have hM:Zg.Mk u.toArray v.toArray h'.objs.size h2 as:=hM;have kp:∀b o,b∉[s1.heap.objs.size+4,s1.heap.objs.size+3,s1.heap.objs.size,s1.heap.objs.size+1]→h'.get? b=aA o→h2.get? b=aA o:=kp;have hL:h2.get? h'.objs.size=aA { cls:=.type "list",dict:=none,data:=.seq acc c,slots:=#[] }:=hL;rw[aae] at hal;have le:s1.heap.objs.size≤h'.objs.size:=by rw[hz];exact aaz _ _
 have k2:∀b o,s1.heap.get? b=aA o→h2.get? b=aA o:=λb o e=>kp b o (λz=>by
  have lt:=aK e;simp only[aan,aac,or_false] at z;rcases z with rfl | rfl | rfl | rfl
  ·exact absurd lt (Nat.not_lt.mpr `bL)
  ·exact absurd lt (Nat.not_lt.mpr `bL)
  ·exact absurd lt (abi _)
  ·exact absurd lt (Nat.not_lt.mpr `bL)) (keep b o e)
 let N:Addr→Option HO:=λb=>if b=h'.objs.size then aA `e else ((as.zip (xs.zip ys)).lookup b).map λp=>.tup [p.1,p.2]
 have Nl:N h'.objs.size=aA `e:=if_pos rfl;have Na:∀(j:Nat) (a:Addr) (x y:V),as[j]?=aA a→xs[j]?=aA x→ys[j]?=aA y→N a=aA (.tup [x,y]):=λj a x y h1 h3 h4=>by
  show (if a=h'.objs.size then _ else _)=_
  rw[if_neg (ab2 (hM.up a (aak h1)))];have:(xs.zip ys)[j]?=aA (x,y):=List.getElem?_zip_eq_some.mpr ⟨h3,h4⟩;rw[Aa hM.nd h1 this];rfl
 have inv:∀a o,N a=aA o→(a=h'.objs.size∧o=.lst (as.map V.ref))∨∃(j:Nat) (x y:V),as[j]?=aA a∧xs[j]?=aA x∧ys[j]?=aA y∧o=.tup [x,y]:=λa o e=>by
  by_cases h:a=h'.objs.size
  ·subst h;rw[Nl] at e;exact .inl ⟨rfl,(aaa e).symm⟩
  ·have e:(if a=h'.objs.size then _ else ((as.zip (xs.zip ys)).lookup a).map λp=>HO.tup [p.1,p.2])=aA o:=e;rw[if_neg h] at e;obtain ⟨⟨x,y⟩,h1,h2⟩:=Option.map_eq_some_iff.mp e;obtain ⟨j,g1,g2⟩:=zb h1;obtain ⟨g3,g4⟩:=List.getElem?_zip_eq_some.mp g2;exact .inr ⟨j,x,y,g1,g3,g4,h2.symm⟩
 have lo:∀a o,N a=aA o→s1.heap.objs.size≤a:=λa o e=>by
  rcases inv a o e with ⟨rfl,_⟩ | ⟨j,x,y,h1,_⟩
  ·exact le
  ·exact ab4 le (ac8 (hM.up a (aak h1)))
 have I2:Inv X pins σ (jv H1 N) { s1 with heap:=h2,toks:=tk }:=I1.many k2 lo λa o e=>by
  rcases inv a o e with ⟨rfl,rfl⟩ | ⟨j,x,y,h1,h3,h4,rfl⟩
  ·refine ⟨by rw[aa0];omega,acc.toList,c,?_,by rw[aem];exact hL⟩;rw[hacc];exact Cd as
  ·obtain ⟨x',y',g1,g2,g3⟩:=hM.at' j a h1;obtain ⟨xu,hxu,rxu⟩:=ru.get h3;obtain ⟨yu,hyu,ryu⟩:=rv.get h4;rw[acf] at g1 g2;rw[hxu] at g1;rw[hyu] at g2;cases g1
   cases g2
   exact ⟨by show (2:Nat)≤sizeLine;decide,[x',y'],.cons rxu (.cons ryu .nil),⟨_,g3,rfl,_,rfl,rfl⟩⟩
 have same:ag H1 (jv H1 N):=λb o e=>by
  have lt:=I1.hok.lt e;unfold jv;cases en:N b with
  | none=>exact e
  | some o'=>exact absurd (aao lt (lo b o' en)) (abi _)
 refine ⟨.ref h'.objs.size,_,I2,rfl,q _ as _ same (I1.hok.fresh le) (by omega) (by unfold jv;rw[Nl]) λj x y h3 h4=>?_⟩;have hj:j < as.length:=by rw[hal,←n1];exact (List.getElem?_eq_some_iff.mp h3).1
 refine ⟨as[j],aa2 hj,?_⟩;unfold jv;rw[Na j as[j] x y (aa2 hj) h3 h4]
end
end L2
namespace L2.Zd
open PySem
theorem lx:entryFor table "dict.update.loop"=aA cR.«dict.update.loop»:=entryFor_of_tree (by kernel_rfl)
theorem fe:plainId "dict.update.loop"=true:=by decide+kernel
def Zs (d z TI TO i1 i2 l1 l2:Addr) (xs ys:Array aD) (i:Nat) (h:Heap):Prop:=
 ((IsZip h z TI TO .none∧∃a b,bV h TO a b)∨∃(T:Addr) (b:Bool) (o:Obj),IsZ h z TI TO (cP T) `dy∧h.get? T=aA o∧T≠z∧T≠i1∧T≠i2∧T≠d)∧
  bV h TI `bD `cI∧h.IsListIter i1 l1 i∧h.IsListIter i2 l2 i∧h.IsList l1 xs∧h.IsList l2 ys
structure Ap (d z TI TO i1 i2 l1 l2:Addr):Prop where
 za:cX z TI TO i1 i2 l1 l2
 dz:d≠z
 dTI:d≠TI
 dTO:d≠TO
 d1:d≠i1
 d2:d≠i2
 dl1:d≠l1
 dl2:d≠l2
section
variable {prog:aX} {w:aZ} {A:bJ} {E:aD→aF→Prop} {s:aF} {d z TI TO i1 i2 l1 l2:Addr} {xs ys:Array aD} {i:Nat}
theorem Zs.dict {h h':Heap} (D:Ap d z TI TO i1 i2 l1 l2) (hs:bE d h h') (x:Zs d z TI TO i1 i2 l1 l2 xs ys i h):Zs d z TI TO i1 i2 l1 l2 xs ys i h':=by
 obtain ⟨a,b,c,e,f,g⟩:=x;refine ⟨?_,hs.extBut _ _ D.dTI.symm b,c.extBut hs.extBut D.d1.symm,e.extBut hs.extBut D.d2.symm,f.extBut hs.extBut D.dl1.symm,g.extBut hs.extBut D.dl2.symm⟩;rcases a with ⟨a1,u,v,a2⟩ | ⟨T,u,o,a1,a2,a3,a4,a5,a6⟩
 ·exact .inl ⟨hs.extBut _ _ D.dz.symm a1,u,v,hs.extBut _ _ D.dTO.symm a2⟩
 ·exact .inr ⟨T,u,o,hs.extBut _ _ D.dz.symm a1,hs.extBut _ _ a6 a2,a3,a4,a5,a6⟩
theorem Uz {x y:aD} {Q:Option aD→aF→Prop} (D:Ap d z TI TO i1 i2 l1 l2) (hz:Zs d z TI TO i1 i2 l1 l2 xs ys i s.heap) (hd:d < s.heap.objs.size) (hx:xs[i]?=aA x) (hy:ys[i]?=aA y)
  (hQ:∀h',Zs d z TI TO i1 i2 l1 l2 xs ys (i+1) h'→bV h' s.heap.objs.size x y→(∀c o,c≠z→c≠TO→c≠i1→c≠i2→s.heap.get? c=aA o→h'.get? c=aA o)→Q (aA `j) { s with heap:=h' }):
  aI `f A (cS `s) Q E s:=by
 obtain ⟨a,hTI,h1,h2,hl1,hl2⟩:=hz;have lt:∀{c o},s.heap.get? c=aA o→s.heap.objs.size≠c:=λe=>ab2 (aK e);have g1:s.heap.objs.size≠i1:=by obtain ⟨_,e,_⟩:=h1;exact lt e
 have g2:s.heap.objs.size≠i2:=by obtain ⟨_,e,_⟩:=h2;exact lt e
 rcases a with ⟨a1,u,v,a2⟩ | ⟨T,u,o,a1,a2,a3,a4,a5,a6⟩
 ·refine wpAny_pyNext_zip_item D.za a1 hTI a2 h1 h2 hl1 hl2 hx hy λh' b1 b2 b3 b4 b5 b6 hk=>hQ h' ⟨.inr ⟨_,false,_,b1,b5,lt a1,g1,g2,ab2 hd⟩,hk _ _ D.za.TIz D.za.TITO D.za.TIi1 D.za.TIi2 hTI,b3,b4,hl1.at λo e=>hk _ o D.za.l1z D.za.l1TO D.za.l1i1 D.za.l1i2 e,hl2.at λo e=>hk _ o D.za.l2z D.za.l2TO D.za.l2i1 D.za.l2i2 e⟩ b5 hk
 ·have hT:s.TypeIs `s "zip":=⟨_,a1,rfl⟩;unfold cS;refine aC (dU (bK (name:=aB "__next__") hT bW
   (bN bW hT eC
    (next_item D.za a1 a2 hTI h1 h2 hl1 hl2 hx hy λh' b1 b3 b4 b5 b6 hk=>aH (hQ h' ⟨.inr ⟨T,true,o,b1,hk _ _ a3 a4 a5 a2,a3,a4,a5,a6⟩,hk _ _ D.za.TIz D.za.TIi1 D.za.TIi2 hTI,b3,b4,hl1.at λo e=>hk _ o D.za.l1z D.za.l1i1 D.za.l1i2 e,hl2.at λo e=>hk _ o D.za.l2z D.za.l2i1 D.za.l2i2 e⟩ b5 λc o c1 _ c3 c4 e=>hk c o c1 c3 c4 e)) (dX _))))
theorem zs_end {Q:Option aD→aF→Prop} (hh:A.handled=none) (D:Ap d z TI TO i1 i2 l1 l2) (hz:Zs d z TI TO i1 i2 l1 l2 xs ys i s.heap) (hx:xs[i]?=none)
  (hQ:∀h',(∀c o,c≠z→c≠TO→c≠i1→c≠i2→s.heap.get? c=aA o→h'.get? c=aA o)→Q none { s with heap:=h' }):aI `f A (cS `s) Q E s:=by
 obtain ⟨a,hTI,h1,h2,hl1,hl2⟩:=hz;rcases a with ⟨a1,u,v,a2⟩ | ⟨T,u,o,a1,a2,a3,a4,a5,a6⟩
 ·exact wpAny_pyNext_zip_end hh D.za a1 hTI a2 h1 h2 hl1 hl2 (.inl hx) hQ
 ·have hT:s.TypeIs `s "zip":=⟨_,a1,rfl⟩;unfold cS;refine aC (dU (bK (name:=aB "__next__") hT bW
   (bN bW hT eC (next_end (by first | exact hh | simp[hh]) D.za a1 a2 hTI h1 hl1 hx λh' e hk he=>?_) (dX _))))
  obtain ⟨o,ho,hc⟩:=he;refine aC (eF (T:="StopIteration") (b:=true) ⟨o,ho,hc⟩ gA ?_);exact aH (hQ _ λc o c1 _ c3 _ e=>hk c o c1 c3 e)
theorem loop {κ:Type} [DecidableEq κ] {knd:KeyKind prog w κ} {R:iC→aF→Prop} (hh:A.in1.handled=none) (D:Ap d z TI TO i1 i2 l1 l2) (ps:List (κ×aD)) (hn:ps.length=xs.size)
  (hps:∀(i:Nat) (k:κ) (v:aD),ps[i]?=aA (k,v)→∃x,xs[i]?=aA x∧knd.is k x=true∧ys[i]?=aA v):
  ∀(m i:Nat) (j:Int) (s:aF) (kvs:List (κ×aD)),ps.length - i=m→i≤ps.length→Zs d z TI TO i1 i2 l1 l2 xs ys i s.heap→s.heap.DictOf knd d kvs→kvs.length+m≤sizeLine→
   (∀h' tk,h'.DictOf knd d (jB kvs (ps.drop i))→(∀c o,c≠d→c≠z→c≠TO→c≠i1→c≠i2→s.heap.get? c=aA o→h'.get? c=aA o)→R (.ok (.ret .none)) { s with heap:=h',toks:=tk })→
   dO `f A (.builtin "dict.update.loop" ⟨[.ref d,.ref z,cP j,.none],[]⟩) R s:=by
 intro m;induction m with
 | zero=>
  intro i j s kvs hm hi hz hd hsz hR;have e:i=xs.size:=by omega
  refine dF lx ?_;rw[dG fe _];show aI _ A.in1 (cS `s >>=_) _ _ s
  refine aC (zs_end hh D hz (by rw[e];exact ac0 (aa3 _)) λh' hk=>?_);show aI _ A.in1 (jD d [] >>=_) _ _ _
  refine aC (aH ?_);refine aH (hR h' s.toks ?_ λc o c1 c2 c3 c4 c5 x=>hk c o c2 c3 c4 c5 x);rw[aee (by omega)];obtain ⟨o,es,ep,ho,r⟩:=hd;exact ⟨o,es,ep,hk d o D.dz D.dTO D.d1 D.d2 ho,r⟩
 | succ m ih=>
  intro i j s kvs hm hi hz hd hsz hR;have hlt:i < ps.length:=by omega
  obtain ⟨x,hx,hk,hy⟩:=hps i ps[i].1 ps[i].2 (aa2 hlt);refine dF lx ?_;rw[dG fe _];show aI _ A.in1 (cS `s >>=_) _ _ s
  have hdl:d < s.heap.objs.size:=by obtain ⟨_,_,_,e,_⟩:=hd;exact aK e
  refine aC (Uz D hz hdl hx hy λh₁ hz₁ hP keep=>?_);refine aC (bI ?_);refine aC (wpAny_tryCatch ?_);unfold kK;have hT:iK { s with heap:=h₁ } `j "tuple":=⟨_,hP,rfl⟩;refine aC (dC hT ?_);rw[if_pos `a];refine aC (bP hP rfl (aH ?_));show aI _ _ (iU [x,ps[i].2] (dictSet d x ps[i].2)) _ _ _
  refine bI ?_;unfold dictSet;refine bI ?_;refine aC (knd.pyHash hk ?_);have hd₁:h₁.DictOf knd d kvs:=by
   obtain ⟨o,es,ep,ho,r⟩:=hd;exact ⟨o,es,ep,keep d o D.dz D.dTO D.d1 D.d2 ho,r⟩
  refine iT (s:={ s with heap:=h₁,toks:=s.toks+1 }) hk hd₁ (λh₂ hd₂ hs₂=>?_) (by omega);refine aH ⟨eO fe _,ih (i+1) (j+1) _ _ (by omega) hlt (hz₁.dict D hs₂) hd₂ ?_ λh' tk hd' kp=>?_⟩
  ·have:=merged_length_le kvs [(ps[i].1,ps[i].2)];have e:jB kvs [(ps[i].1,ps[i].2)]=stored kvs ps[i].1 ps[i].2:=rfl;rw[e] at this;have e2:[(ps[i].1,ps[i].2)].length=1:=rfl;omega
  ·refine hR h' tk ?_ λc o c1 c2 c3 c4 c5 x=>kp c o c1 c2 c3 c4 c5 ((hs₂.2 c c1).trans (keep c o c2 c3 c4 c5 x));rw[aaw hlt];exact hd'
end
theorem M6:dY `bM "keys"=pure none:=by rw[dQ,cM];kernel_rfl
theorem Jg:dY `bM "__getattr__"=pure none:=by rw[dQ,cM];kernel_rfl
theorem rf:entryFor table "zip.__getattribute__"=aA cR.«object.__getattribute__»:=
 entryFor_alias (id':="object.__getattribute__") (by kernel_rfl) `b `b (by kernel_rfl)
theorem Jf (a:Addr) (vs:Array aD) (u:Tok):
  Meets `c1 (λA R s=>s.heap.get? a=aA { cls:=.type "zip",dict:=none,data:=.fields vs,slots:=#[] }∧raisesAttr `p "keys" A R s):=
 Meets.of_wp λprog w A R s hs=>by
  obtain ⟨hp,g,d,tk,os⟩:=s;obtain ⟨hx,hs⟩:=hs;have hT:(⟨hp,g,d,tk,os⟩:aF).TypeIs `p "zip":=⟨_,hx,rfl⟩;have hmiss:=M6;have hname:(["__module__","__name__","__qualname__","__doc__","__annotations__"]:List Str).contains "keys"=false:=by decide+kernel
  unfold cR.«object.__getattribute__»;repeat (any_goals (first | assumption | wp_step))
  exact wpAny_raiseAttrError hs.1 hs.2 (attrMsg_fits `b `b)
section
variable {prog:aX} {w:aZ} {A:bJ} {E:aD→aF→Prop} {s:aF}
theorem Tv {a:Addr} {vs:Array aD} {Q:Option aD→aF→Prop} (hx:s.heap.get? a=aA { cls:=.type "zip",dict:=none,data:=.fields vs,slots:=#[] }) (hA:A.handled=none)
  (h:∀h' tk,(∀b o,s.heap.get? b=aA o→h'.get? b=aA o)→Q none { s with heap:=h',toks:=tk }):aI `f A (nM `p "keys") Q E s:=by
 obtain ⟨hp,g,d,tk,os⟩:=s;have hT:∀tk',(⟨hp,g,d,tk',os⟩:aF).TypeIs `p "zip":=λ_=>⟨_,hx,rfl⟩;have f1:=mW;have f3:=F.slot_zip_getattribute.lookup;have f4:=F.slot_zip_getattribute.bind `p;have f5:=Jg;unfold nM getAttrBy? getAttrBy;repeat (any_goals (first | assumption | exact hT _ | ((with_reducible show aI _ _ (call (Value.builtin "zip.__getattribute__") _ _) _ _ _);refine gT F.slot_zip_getattribute (hT _) rf (F.args_zip_getattribute_2 _ _) (Jf a vs _) ⟨hx,hA,λh' tk' e hx'=>?_⟩) | wp_step))
 obtain ⟨t',u',he⟩:=hx'.there;show aI _ _ (fW _ _ _ _ _ _ _) _ _ _
 unfold fW;repeat (any_goals (first | assumption | wp_step))
 exact h h' tk' hx'.keeps
end
end L2.Zd
namespace L2.Zd
open PySem PyProof.Rows
theorem C7:dY `cD "keys"=pure none:=by rw[dQ,cM];kernel_rfl
def Prs {prog:aX} {w:aZ} {κ:Type} [DecidableEq κ] (knd:KeyKind prog w κ) (ps:List (κ×aD)) (items:Array aD) (no:List Addr) (h:Heap):Prop:=
 ∀(i:Nat) (k:κ) (y:aD),ps[i]?=aA (k,y)→∃T x o n,items[i]?=aA (.ref T)∧T∉no∧knd.is k x=true∧h.get? T=aA o∧o.cls=.type "tuple"∧o.data=.seq #[x,y] n
section
variable {prog:aX} {w:aZ} {A:bJ} {E:aD→aF→Prop} {s:aF}
theorem Prs.keep {κ:Type} [DecidableEq κ] {knd:KeyKind prog w κ} {ps:List (κ×aD)} {items:Array aD} {no:List Addr} {h h':Heap} (x:Prs knd ps items no h) (k:∀b o,b∉no→h.get? b=aA o→h'.get? b=aA o):Prs knd ps items no h':=λi a b e=>by
 obtain ⟨T,u,o,n,h1,h2,h3,h4,h5⟩:=x i a b e;exact ⟨T,u,o,n,h1,h2,h3,k _ _ h2 h4,h5⟩
theorem loopP {κ:Type} [DecidableEq κ] {knd:KeyKind prog w κ} {R:iC→aF→Prop} {I l d:Addr} {items:Array aD} (hI:I≠l) (hh:A.in1.handled=none) (hdI:d≠I) (hdl:d≠l) (ps:List (κ×aD)) (hn:ps.length=items.size):
  ∀(m i:Nat) (j:Int) (s:aF) (kvs:List (κ×aD)),ps.length - i=m→i≤ps.length→s.heap.IsListIter I l i→s.heap.IsList l items→Prs knd ps items [d,I] s.heap→s.heap.DictOf knd d kvs→kvs.length+m≤sizeLine→
   (∀h' tk,h'.DictOf knd d (jB kvs (ps.drop i))→(∀c o,c≠d→c≠I→s.heap.get? c=aA o→h'.get? c=aA o)→R (.ok (.ret .none)) { s with heap:=h',toks:=tk })→
   dO `f A (.builtin "dict.update.loop" ⟨[.ref d,.ref I,cP j,.none],[]⟩) R s:=by
 intro m;induction m with
 | zero=>
  intro i j s kvs hm hi h1 hl hp hd hsz hR;have e:i=items.size:=by omega
  refine dF lx ?_;rw[dG fe _];show aI _ A.in1 (cS (.ref I) >>=_) _ _ s
  refine aC (kR hh h1 hl (by rw[e];exact ac0 (aa3 _)) λh' hk=>?_);show aI _ A.in1 (jD d [] >>=_) _ _ _
  refine aC (aH ?_);refine aH (hR h' s.toks ?_ λc o c1 c2 x=>hk c o c2 x);rw[aee (by omega)];obtain ⟨o,es,ep,ho,r⟩:=hd;exact ⟨o,es,ep,hk d o hdI ho,r⟩
 | succ m ih=>
  intro i j s kvs hm hi h1 hl hp hd hsz hR;have hlt:i < ps.length:=by omega
  obtain ⟨T,x,o,n,hx,hT,hk,ho,hc,hdat⟩:=hp i ps[i].1 ps[i].2 (aa2 hlt);have hTd:T≠d:=λe=>hT (by rw[e];exact aa6);have hTI:T≠I:=λe=>hT (by rw[e];exact aa9 _ aa6);refine dF lx ?_;rw[dG fe _];show aI _ A.in1 (cS (.ref I) >>=_) _ _ s
  refine aC (jS h1 hl hx λh₁ h1₁ hs₁=>?_);have hP:h₁.get? T=aA o:=hs₁.extBut _ _ hTI ho;refine aC (bI (aC (wpAny_tryCatch ?_)));unfold kK;have hTy:iK { s with heap:=h₁ } (.ref T) "tuple":=⟨_,hP,hc⟩;refine aC (dC hTy ?_);rw[if_pos `a];refine aC (bP hP hdat (aH ?_));show aI _ _ (iU [x,ps[i].2] (dictSet d x ps[i].2)) _ _ _
  refine bI ?_;unfold dictSet;refine bI ?_;refine aC (knd.pyHash hk ?_);have hd₁:h₁.DictOf knd d kvs:=by
   obtain ⟨o,es,ep,ho,r⟩:=hd;exact ⟨o,es,ep,hs₁.extBut _ _ hdI ho,r⟩
  refine iT (s:={ s with heap:=h₁,toks:=s.toks+1 }) hk hd₁ (λh₂ hd₂ hs₂=>?_) (by omega);have kp:∀c o,c≠d→c≠I→s.heap.get? c=aA o→h₂.get? c=aA o:=λc o c1 c2 e=>hs₂.extBut _ _ c1 (hs₁.extBut _ _ c2 e);refine aH ⟨eO fe _,ih (i+1) (j+1) _ _ (by omega) hlt (h1₁.extBut hs₂.extBut hdI.symm) ((hl.extBut hs₁.extBut hI.symm).extBut hs₂.extBut hdl.symm) (hp.keep λb o hb e=>kp b o (λz=>hb (by rw[z];exact aa6)) (λz=>hb (by rw[z];exact aa9 _ aa6)) e) hd₂ ?_ λh' tk hd' k'=>?_⟩
  ·have:=merged_length_le kvs [(ps[i].1,ps[i].2)];have e:jB kvs [(ps[i].1,ps[i].2)]=stored kvs ps[i].1 ps[i].2:=rfl;rw[e] at this;have e2:[(ps[i].1,ps[i].2)].length=1:=rfl;omega
  ·refine hR h' tk ?_ λc o c1 c2 x=>k' c o c1 c2 (kp c o c1 c2 x);rw[aaw hlt];exact hd'
theorem G8 (a:Addr) (vs:Array aD) (n:Nat) (u:Tok):
  Meets `c1 (λA R s=>s.heap.get? a=aA { cls:=.type "list",dict:=none,data:=.seq vs n,slots:=#[] }∧raisesAttr `p "keys" A R s):=
 meets_getattribute_miss_list a vs n #[] "keys" u C7 `b `b
theorem Ry {a:Addr} {vs:Array aD} {n:Nat} {Q:Option aD→aF→Prop} (hx:s.heap.get? a=aA { cls:=.type "list",dict:=none,data:=.seq vs n,slots:=#[] }) (hA:A.handled=none)
  (h:∀h' tk,(∀b o,s.heap.get? b=aA o→h'.get? b=aA o)→Q none { s with heap:=h',toks:=tk }):aI `f A (nM `p "keys") Q E s:=by
 obtain ⟨hp,g,d,tk,os⟩:=s;have hT:∀tk',(⟨hp,g,d,tk',os⟩:aF).TypeIs `p "list":=λ_=>⟨_,hx,rfl⟩;have f1:=mW;have f3:=F.slot_list_getattribute.lookup;have f4:=F.slot_list_getattribute.bind `p;have f5:=am_list_getattr_none;unfold nM getAttrBy? getAttrBy;repeat (any_goals (first | assumption | exact hT _ | ((with_reducible show aI _ _ (call (Value.builtin "list.__getattribute__") _ _) _ _ _);refine gT F.slot_list_getattribute (hT _) am_entry_list_getattribute (F.args_list_getattribute_2 _ _) (G8 a vs n _) ⟨hx,hA,λh' tk' e hx'=>?_⟩) | wp_step))
 obtain ⟨t',u',he⟩:=hx'.there;show aI _ _ (fW _ _ _ _ _ _ _) _ _ _
 unfold fW;repeat (any_goals (first | assumption | wp_step))
 exact h h' tk' hx'.keeps
theorem sg {κ:Type} [DecidableEq κ] {knd:KeyKind prog w κ} {l:Addr} {items:Array aD} {n:Nat} {Q:aD→aF→Prop} (hh:A.handled=none) (ho:s.heap.get? l=aA { cls:=.type "list",dict:=none,data:=.seq items n,slots:=#[] })
  (ps:List (κ×aD)) (hn:ps.length=items.size) (hps:Prs knd ps items [] s.heap) (hsz:ps.length≤sizeLine)
  (h:∀h' tk,h'.DictOf knd s.heap.objs.size (jB [] ps)→(∀c o,s.heap.get? c=aA o→h'.get? c=aA o)→Q `j { s with heap:=h',toks:=tk }):
  aI `f A (call `cc [.ref l]) Q E s:=by
 refine hJ (Q₁:=λobj s₁=>obj=.ref s.heap.objs.size∧s₁={ s with heap:=s.heap.push { cls:=.type "dict",data:=.dict #[] } }) F.kt_called_dict (lQ _) nG (kt_code_dict_new _ ⟨rfl,rfl⟩) ?_;rintro obj s₁ ⟨rfl,rfl⟩;have hnew:(s.heap.push { cls:=.type "dict",data:=.dict #[] }).DictOf knd s.heap.objs.size []:=jP s.heap;have gt:∀{c o},s.heap.get? c=aA o→s.heap.objs.size≠c:=λe=>ab2 (aK e);have up:∀{c o},s.heap.get? c=aA o→(s.heap.push { cls:=.type "dict",data:=.dict #[] }).get? c=aA o:=λe=>aE _ e;refine ⟨hnew.typeIs,mY _ _,?_⟩;unfold cR.«dict.__init__»;refine aC ?_;unfold jE;refine aC (kX hnew.typeIs ?_);show aI _ _ (pure (s.heap.objs.size,[bG l])) _ _ _
 refine aH ?_;show aI _ _ (eN "dict.__init__" s.heap.objs.size `B [] .none) _ _ _
 unfold eN;have hT:iK { s with heap:=s.heap.push { cls:=.type "dict",data:=.dict #[] } } `B "list":=⟨_,up ho,rfl⟩;refine aC (dC hT ?_);rw[if_pos `a];refine aC (Ry (up ho) (by simp[hh]) λh₁ tk₁ kp₁=>?_);rw[if_pos (show (none:Option aD).isNone=true from rfl)];have kp:∀{c o},s.heap.get? c=aA o→h₁.get? c=aA o:=λe=>kp₁ _ _ (up e);have hl₁:h₁.IsList l items:=⟨_,kp ho,rfl,n,rfl⟩;refine aC (dZ (aC (dI hl₁ ?_)));have dl:s.heap.objs.size < h₁.objs.size:=by
  obtain ⟨o,_,_,e,_⟩:=hnew;exact aK (kp₁ _ _ e)
 have hd₁:(h₁.push { cls:=.type "list_iterator",data:=.fields #[.ref l,.int 0 0] }).DictOf knd s.heap.objs.size []:=by
  obtain ⟨o,es,ep,ho,r⟩:=hnew;exact ⟨o,es,ep,aE _ (kp₁ _ _ ho),r⟩
 refine aH ⟨eO fe _,loopP (items:=items) (ab2 (aK (kp ho))) (by simp[hh]) (aam dl) (gt ho) ps hn ps.length 0 0 _ [] rfl (aai _) ⟨_,aJ _ rfl,rfl,rfl⟩ (hl₁.push _) (λi k y e=>?_) hd₁ (by show 0+_≤_;omega) λh' tk hd' k'=>⟨rfl,?_⟩⟩
 ·obtain ⟨T,x,o,n,a1,a2,a3,a4,a5⟩:=hps i k y e;refine ⟨T,x,o,n,a1,λz=>?_,a3,aE _ (kp a4),a5⟩;rcases List.mem_cons.mp z with z | z
  ·exact gt a4 z.symm
  ·rw[List.mem_singleton.mp z] at a4;exact absurd (aK (kp a4)) (abi _)
 ·exact h h' tk hd' λc o e=>k' c o (gt e).symm (aam (aK (kp e))) (aE _ (kp e))
end
end L2.Zd
namespace L2
open PySem PySem.Spec PyProof.Rows
section
variable {X:Cx} {pos:Pos} {tg:Expr}
theorem By (n:Nat):gB ((n:Int) - 1) (-1) (-1)=n:=by
 unfold gB;cases n with
 | zero=>decide
 | succ n=>
  simp;omega
theorem Sa {n:Nat} (h:n < 2 ^ 62):lZ ((n:Int) - 1) (-1) (-1)=true:=by
 unfold lZ;rw[By];have e1:cD ((n:Int) - 1)=true:=by
  unfold cD;rw[decide_eq_true (show -(2:Int) ^ 63≤(n:Int) - 1 by omega),decide_eq_true (show (n:Int) - 1 < (2:Int) ^ 63 by omega)];rfl
 have e2:cD (n:Int)=true:=by
  unfold cD;rw[decide_eq_true (show -(2:Int) ^ 63≤(n:Int) by omega),decide_eq_true (show (n:Int) < (2:Int) ^ 63 by omega)];rfl
 rw[e1,e2,show cD (-1)=true by decide,if_neg `a,show cD (-1+(-1+1))=true by decide];simp
def iDn (ta:TA):TI:=λσ H R=>ta σ H λvs H1=>∃n:Nat,vs=[.int ((n:Int) - 1),.int (-1),.int (-1)]∧n < 2 ^ 62∧R (Itd n) H1
theorem Cq {a b c:Expr} {ta:TA} {p pos:Pos} (hg:Gl X "range") (hm:X.mg "range"=none) (ha:PA X [a,b,c] ta) (hs:bB [a,b,c] X.env=(false,eval a X.env)::bB [b,c] X.env:=by rfl) (hpl:(cJ pos (bB [b,c] X.env)).any (·.1)=false:=by rfl):
  PI X tg (.Call (.Name "range" p) [a,b,c] [] pos) (iDn ta):=by
 intro pins s σ H R I h;refine Call_ (gj I hg hm boot_range (bL (thn `aw λus s1 ⟨vs,H1,I1,r1,q1⟩=>?_) hs hpl));obtain ⟨n,rfl,hn,q⟩:=q1;cases r1 with
 | cons r rr=>
  cases rr with
  | cons r' rr=>
   cases rr with
   | cons r'' rr=>
    cases rr
    obtain ⟨t,rfl⟩:=r;obtain ⟨t',rfl⟩:=r';obtain ⟨t'',rfl⟩:=r'';refine call_range_3 `a ?_ (.inl (jW (by omega)));refine mN (IsRange.new ..) (Sa hn) ?_;rw[By];have I2:Inv X pins σ H1 { s1 with heap:=s1.heap.push { cls:=.type "range",data:=.fields #[.int ((n:Int) - 1) t,.int (-1) t',.int (-1) t''] },toks:=s1.toks }:=I1.kept λb o e=>aE _ e;refine ⟨(s1.heap.push { cls:=.type "range",data:=.fields #[.int ((n:Int) - 1) t,.int (-1) t',.int (-1) t''] }).objs.size,[(s1.heap.push { cls:=.type "range",data:=.fields #[.int ((n:Int) - 1) t,.int (-1) t',.int (-1) t''] }).objs.size],_,_,H1,rfl,I2.kept (t':=s1.toks) λb o e=>aE _ e,Nq _ n,?_,λb hb=>?_,q⟩
    ·have e1:(n:Int) - 1+((0:Nat):Int)*(-1)=(n:Int) - 1:=by omega
     have e2:(n:Int) - ((0:Nat):Int)=(n:Int):=by omega
     show jT _ _ ((n:Int) - 1+((0:Nat):Int)*(-1)) ((n:Int) - ((0:Nat):Int)) (-1)
     rw[e1,e2];exact aJ _ rfl
    ·have e:b=(s1.heap.push { cls:=.type "range",data:=.fields #[.int ((n:Int) - 1) t,.int (-1) t',.int (-1) t''] }).objs.size:=by simpa using hb
     subst e;exact I2.nu (aa3 _) `dj
end
theorem J2 {n:Nat} {g:TG} {tb:TS} {D:Ends} {σ:St} {H:Hp} (Pv:Nat→St→Hp→Prop) (h0:Pv n σ H)
  (hs:∀i σ H,i < n→Pv (i+1) σ H→g `cJ σ H λσ2 H2=>tb { D with nx:=Pv i,ct:=Pv i,bk:=D.nx } σ2 H2) (hd:∀σ H,Pv 0 σ H→D.nx σ H):Dc g tb D (Itd n) σ H:=by
 refine ⟨λi m σ H=>m=n - i∧i≤n∧Pv (n - i) σ H,⟨n,by simp,aai _,by simpa using h0⟩,?_⟩;rintro i m σ H ⟨rfl,hi,p⟩;by_cases hlt:i < n
 ·refine .inr ⟨hlt,Pv (n - (i+1)),λσ' H' p'=>⟨n - (i+1),by omega,rfl,hlt,p'⟩,λx H' y=>?_⟩;obtain ⟨rfl,rfl⟩:=y;have e:(n:Int) - 1 - (i:Int)=((n - (i+1):Nat):Int):=by omega
  rw[e];exact hs (n - (i+1)) σ _ (by omega) (by rw[show n - (i+1)+1=n - i by omega];exact p)
 ·have e:i=n:=by omega
  subst e;exact .inl ⟨aa3 _,hd σ H (by simpa using p)⟩
namespace Zd
end Zd
namespace Zd
section
variable {prog:aX} {w:aZ} {A:bJ} {E:aD→aF→Prop} {s:aF}
theorem Jm {d:Addr} (hd:(d==cE)=false):
  MeetsIn prog w (cR.«dict.__len__» ⟨[.ref d],[]⟩) (λ_ R s=>∃o es ep,s.heap.get? d=aA o∧o.data=.dict es ep∧R (.ok (.ret (.int es.size s.toks))) { s with toks:=s.toks+1 }):=
 .of_wp λA R s ⟨o,es,ep,ho,hdat,h⟩=>by
  show aI _ _ (dictSize d >>=_) _ _ s
  unfold dictSize;refine aC (aC (wpAny_dictEntries ho hdat (aH ?_)));show aI _ _ (Builtin.Dict.pendingCount d >>=_) _ _ s
  refine aC (wpAny_pendingCount_other hd (wpAny_ret_mkInt ?_));rw[Nat.add_zero];exact h
theorem Nb {d:Addr} {xs:List (List Key×Addr×aD)} {Q:aD→aF→Prop} (hd:(d==cE)=false) (hm:s.heap.DictOfH (hZ (cm prog w)) d xs) (hfit:(xs.length:Int) < 2 ^ 63)
  (h:Q (.int xs.length (s.toks+1)) { s with toks:=s.toks+1+1 }):aI `f A (call `cN [.ref d]) Q E s:=by
 have ht:=hm.typeIs;obtain ⟨o,es,ep,ho,_,hdat,he,_,_⟩:=hm;have hn:es.size=xs.length:=by rw[←abb,he,aa0]
 refine Calls.call_function_entry kind_len plain_len entry_len (args_len1 _) ?_;unfold cR.«len»;refine aC (m:=oneArg "len" _) (aH ?_);refine aC (m:=callSpecial? `X (aB "__len__")) (bK (name:=aB "__len__") ht F.slot_dict_len (mS F.slot_dict_len ht F.entry_dict_len (F.args_dict_len_1 _) (Jm hd) ⟨o,es,ep,ho,hdat,?_⟩));rw[hn];show aI _ _ _ _ _ { s with toks:=s.toks+1 }
 refine aC (bI (aH ?_));refine aC (fO ?_);show aI _ _ (if ((xs.length:Nat):Int) < 0 then _ else _) _ _ _
 rw[if_neg (by omega)];show aI _ _ (if ((xs.length:Nat):Int)≥2 ^ 63 then _ else _) _ _ _
 rw[if_neg (by omega)];exact aC (wpAny_mkInt (aH ⟨_,rfl,h⟩))
end
end Zd
section
variable {X:Cx}
theorem M9:fo X `cN (λxs H Q=>∃a kvs,xs=[.ref a]∧H a=aA `ca∧Q (.int kvs.length) H):=by
 intro pins s σ H xs us Q I r h;obtain ⟨a,kvs,rfl,ha,q⟩:=h;obtain ⟨u,rfl,rx⟩:=vals1 r;cases rx
 obtain ⟨z,hd,xs,kt,dd⟩:=dt_of I.hok ha;have hl:=iF kt;have sz:=aV;refine Zd.Nb hd dd (by omega) ?_;rw[←hl];exact ⟨.int kvs.length,H,I.tok _,⟨_,rfl⟩,q⟩
end
end L2
namespace Pc
open PySem PySem.Spec L2 PyProof.Rows
abbrev Ky:=Nat×Str
noncomputable def kyK (k:Ky):List Key:=[bA (k.1:Int),aM k.2]
theorem Ke {a b:Ky} (h:kyK a=kyK b):a=b:=by
 obtain ⟨a1,a2⟩:=a;obtain ⟨b1,b2⟩:=b;unfold kyK at h;simp only[acg,Sum.inl.injEq,Sum.inr.injEq,and_true] at h;rw[h.2,show a1=b1 by omega]
noncomputable def kyT (k:Ky):HO:=.tup [.int (k.1:Int),.str k.2]
def vk (H:Hp) (d:Addr) (g:Ky→Option Int) (n:Nat):Prop:=∃kvs:List (List Key×V),H d=aA `ca∧kvs.length≤n∧∀k,bf kvs (kyK k)=(g k).map V.int
theorem vk.get {H:Hp} {d b:Addr} {g:Ky→Option Int} {n:Nat} {k:Ky} (h:vk H d g n) (hb:H b=aA (kyT k)):e9 H d `aJ ((g k).map V.int):=by
 obtain ⟨kvs,h1,_,h3⟩:=h;rw[←h3 k];exact e9.t h1 hb
theorem vk.val {H:Hp} {d b:Addr} {g:Ky→Option Int} {n:Nat} {k:Ky} {v:Int} (h:vk H d g n) (hb:H b=aA (kyT k)) (e:g k=aA v):e9 H d `aJ (aA (.int v)):=by
 have:=h.get hb;rw[e] at this;exact this
theorem vk.at {H H':Hp} {d:Addr} {g:Ky→Option Int} {n:Nat} (h:vk H d g n) (e:∀o,H d=aA o→H' d=aA o):vk H' d g n:=by
 obtain ⟨kvs,h1,h2⟩:=h;exact ⟨kvs,e _ h1,h2⟩
theorem vk.same {H H':Hp} {d:Addr} {g:Ky→Option Int} {n:Nat} (h:vk H d g n) (s:ag H H'):vk H' d g n:=h.at λo e=>s _ _ e
structure Kx (no:Addr→Prop) (H H':Hp):Prop where
 t:∀{a:Addr} {xs:List V},H a=aA `aA→H' a=aA `aA
 l:∀{a:Addr} {xs:List V},¬no a→H a=aA `ab→H' a=aA `ab
theorem Kx.same {no:Addr→Prop} {H H':Hp} (s:ag H H'):Kx no H H':=⟨λh=>s _ _ h,λ_ h=>s _ _ h⟩
theorem Kx.weak {no no':Addr→Prop} {H H':Hp} (a:Kx no H H') (h:∀x,no x→no' x):Kx no' H H':=⟨a.t,λn e=>a.l (λz=>n (h _ z)) e⟩
theorem Kx.upd {x:Addr} {H:Hp} {ys:List V} {o:HO} (h:H x=aA `aS):Kx (·=x) H (L2.upd H x o):=⟨λe=>by rw[ah (mx e h (by intro z;cases z))];exact e,λn e=>by rw[ah n];exact e⟩
def HsAt (H:Hp) (l:Addr) (hs:List Ky):Prop:=∃as:List Addr,H l=aA `e∧as.length=hs.length∧∀(j:Nat) (k:Ky),hs[j]?=aA k→∃a,as[j]?=aA a∧H a=aA (kyT k)
theorem HsAt.kx {no:Addr→Prop} {H H':Hp} {l:Addr} {hs:List Ky} (h:HsAt H l hs) (x:Kx no H H') (n:¬no l):HsAt H' l hs:=by
 obtain ⟨as,h1,h2,h3⟩:=h;exact ⟨as,x.l n h1,h2,λj k e=>by
  obtain ⟨a,g1,g2⟩:=h3 j k e;exact ⟨a,g1,x.t g2⟩⟩
noncomputable def ak (kinds:List Str) (sh:List V):List Str:=sh.filterMap λv=>match v with
 | .str z=>if z∈kinds then aA z else none
 | _=>none
def t8 (K:aG):Sp:=λvs H Q _=>∃(st kt ut:Addr) (sh:List V) (kinds:List Str) (u:Und),vs=[.ref st,.ref kt,.ref ut]∧SqT K H st sh∧SqT K H kt `i∧j0 H ut u∧Kinds kinds∧(∀v∈sh,isW v)∧sh.length≤1000∧u.hs.length=(ak kinds sh).length∧∀(l:Addr) (H':Hp),ag H H'→H l=none→HsAt H' l (u.hs.zip (ak kinds sh))→Q `B H'
noncomputable def isH (kinds:List Str):V→Bool
 | .str z=>decide (z∈kinds)
 | _=>false
theorem Er {kinds:List Str} {v:V} (hv:isW v):inV v `i=isH kinds v:=by
 obtain ⟨k,rfl⟩:=hv;cases k with
 | inl i=>
  show inV `cj `i=false
  induction kinds with
  | nil=>rfl
  | cons z r ih=>exact ih
 | inr z=>
  show inV `J `i=decide (z∈kinds)
  by_cases h:z∈kinds
  ·rw[decide_eq_true h];exact T4 (List.mem_map.mpr ⟨z,h,rfl⟩)
  ·rw[decide_eq_false h];cases e:inV `J `i with
   | false=>rfl
   | true=>
    obtain ⟨y,hy,e'⟩:=List.mem_map.mp (oy e);cases e'
    exact absurd hy h
theorem tu {kinds:List Str} (hk:Kinds kinds) {v:V} (hv:isW v):ay kinds v=lH↔isH kinds v=true:=by
 obtain ⟨b1,b2,b3,_,_,_⟩:=lets;rcases dj (kinds:=kinds) hv with ⟨rfl,h⟩ | ⟨rfl,h⟩ | ⟨⟨z,hz,rfl⟩,h⟩ | ⟨h,hno⟩
 ·rw[h];refine ⟨λe=>absurd e b1,λe=>?_⟩;exact absurd rfl (hk _ (of_decide_eq_true (show decide (aB "any"∈kinds)=true from e))).2.1
 ·rw[h];refine ⟨λe=>absurd e b2,λe=>?_⟩;exact absurd rfl (hk _ (of_decide_eq_true (show decide (aB "var"∈kinds)=true from e))).2.2
 ·exact ⟨λ_=>decide_eq_true hz,λ_=>h⟩
 ·rw[h];refine ⟨λe=>absurd e b3,λe=>?_⟩;rw[Er hv,e] at hno;cases hno
theorem Jt (kinds:List Str) (v:V) (r:List V):ak kinds (v::r)=(match v with | .str z=>if z∈kinds then [z] else [] | _=>[])++ak kinds r:=by
 unfold ak;rw[ac7];cases v with
 | str z=>
  by_cases h:z∈kinds
  ·simp[h]
  ·simp[h]
 | _=>rfl
theorem kg (kinds:List Str):∀(sh:List V),(ak kinds sh).map V.str=sh.filter (isH kinds)
 | []=>rfl
 | v::r=>by
  rw[Jt,aab,kg kinds r,ab9];cases v with
  | str z=>
   by_cases h:z∈kinds
   ·simp[h,isH]
   ·simp[h,isH]
  | _=>simp[isH]
theorem L7 (kinds:List Str) (v:V) (r:List V):(ak kinds (v::r)).length=(if isH kinds v=true then 1 else 0)+(ak kinds r).length:=by
 have e:=congrArg ac2 (kg kinds (v::r));have e':=congrArg ac2 (kg kinds r);rw[aa0] at e e';rw[e,e',ab9];by_cases h:isH kinds v=true
 ·rw[if_pos h,if_pos h,aa8];omega
 ·rw[if_neg h,if_neg h];omega
theorem uu {kinds:List Str} {ws:List V} (hk:Kinds kinds):∀(sh:List V) (p:Nat) (u u':Und),(∀v∈sh,isW v)→bu kinds ws sh p u=aA u'→u'.hs.length=u.hs.length+(ak kinds sh).length∧∀h∈u'.hs,h∈u.hs∨p≤h
 | [],p,u,u',_,h=>by
  have h:aA u=aA u':=h;cases h
  exact ⟨rfl,λ_ m=>.inl m⟩
 | v::r,p,u,u',hw,h=>by
  rw[cv] at h;by_cases c:lies `q v `aE=true
  ·rw[if_pos c] at h;obtain ⟨i1,i2⟩:=uu hk r _ _ u' (λx m=>hw x (aa9 _ m)) h;have hv:=hw v aa6;rw[L7];by_cases e:isH kinds v=true
   ·have e':=(tu hk hv).mpr e;have ep:u.put `q p `aE=⟨u.hs++[p],u.ns,u.vs⟩:=by
     unfold Und.put;rw[if_pos e']
    rw[ep] at i1 i2;rw[if_pos e'] at i2;rw[if_pos e];have i1:u'.hs.length=(u.hs++[p]).length+(ak kinds r).length:=i1;rw[aa1,aa4] at i1;refine ⟨by omega,λh m=>?_⟩;have le:p≤endAt ws p:=aaz _ _;rcases i2 h m with g | g
    ·rcases List.mem_append.mp (show h∈u.hs++[p] from g) with g | g
     ·exact .inl g
     ·rw[List.mem_singleton.mp g];exact .inr (aa3 _)
    ·exact .inr (by omega)
   ·have e':¬ay kinds v=lH:=λz=>e ((tu hk hv).mp z);have ep:(u.put `q p `aE).hs=u.hs:=by
     unfold Und.put;rw[if_neg e'];split
     ·rfl
     split
     ·rfl
     ·rfl
    rw[ep] at i1 i2;rw[if_neg e'] at i2;rw[if_neg e];refine ⟨by omega,λh m=>?_⟩;rcases i2 h m with g | g
    ·exact .inl g
    ·exact .inr (by omega)
  ·rw[if_neg c] at h;cases h
theorem gu.tb {d:Addr} {H:Hp} (o:HO):gu d H (L2.upd H d o):=λb u n h=>by rw[ah n];exact h
theorem cut2 (a b c d:V):jk [a,b,c,d] none (aA 2)=[a,b]:=uk [a,b,c,d] 2 (by show (2:Nat)≤4;decide)
end Pc
namespace L2
theorem ob3 {α0 α1 α2:Type} {p:α0→α1→α2→Prop} {g:Prop} (h:∃a0 a1 a2,p a0 a1 a2) (k:∀a0 a1 a2,p a0 a1 a2→g):g:=by
 obtain ⟨a0,a1,a2,h⟩:=h;exact k a0 a1 a2 h
theorem ob4 {α0 α1 α2 α3:Type} {p:α0→α1→α2→α3→Prop} {g:Prop} (h:∃a0 a1 a2 a3,p a0 a1 a2 a3) (k:∀a0 a1 a2 a3,p a0 a1 a2 a3→g):g:=by
 obtain ⟨a0,a1,a2,a3,h⟩:=h;exact k a0 a1 a2 a3 h
theorem ob7 {α0 α1 α2 α3 α4 α5 α6:Type} {p:α0→α1→α2→α3→α4→α5→α6→Prop} {g:Prop} (h:∃a0 a1 a2 a3 a4 a5 a6,p a0 a1 a2 a3 a4 a5 a6) (k:∀a0 a1 a2 a3 a4 a5 a6,p a0 a1 a2 a3 a4 a5 a6→g):g:=by
 obtain ⟨a0,a1,a2,a3,a4,a5,a6,h⟩:=h;exact k a0 a1 a2 a3 a4 a5 a6 h
open PySem PySem.Spec PyProof.Rows
theorem ie {K:aG} {n:Nat} {a:Addr} {x0 x1:V} {i0 i1:Nat} {σ:L2.St} {H:Hp} {Q:L2.St→Hp→Prop} (h:H a=aA (.tup [x0,x1])) (hn:2=n) (q:Q ((σ.set i0 (aA x0)).set i1 (aA x1)) H):gTup K n (nz (gh i0) (nz (gh i1) gNil)) `p σ H Q:=⟨a,_,rfl,SqT.of h,hn,_,_,rfl,_,_,rfl,rfl,q⟩
theorem Q9 {K:aG} {n:Nat} {a:Addr} {x0 x1 x2 x3:V} {i0 i1 i2 i3:Nat} {σ:L2.St} {H:Hp} {Q:L2.St→Hp→Prop} (h:H a=aA (.tup [x0,x1,x2,x3])) (hn:4=n) (q:Q ((((σ.set i0 (aA x0)).set i1 (aA x1)).set i2 (aA x2)).set i3 (aA x3)) H):gTup K n (nz (gh i0) (nz (gh i1) (nz (gh i2) (nz (gh i3) gNil)))) `p σ H Q:=⟨a,_,rfl,SqT.of h,hn,_,_,rfl,_,_,rfl,_,_,rfl,_,_,rfl,rfl,q⟩
end L2
namespace Pc
open PySem PySem.Spec L2 PyProof.Rows
theorem T1 {K:aG} {v:V} {kt:Addr} {kinds:List Str} {H:Hp} {Q:VK} {E:XK} (p0:isW v) (p1:SqT K H kt `i) (p2:Q (.str `q) H):(ku K) [v,.ref kt] H Q E:=⟨v,kt,kinds,rfl,p0,p1,p2⟩
theorem mkLies {l:Str} {v x:V} {H:Hp} {Q:VK} {E:XK} (p0:isW v) (p1:isW x) (p2:Q (.bl (lies l v x)) H):Dp [.str l,v,x] H Q E:=⟨l,v,x,rfl,p0,p1,p2⟩
theorem mkLaid {K:aG} {st kt wt:Addr} {sh:List V} {kinds:List Str} {ws:List V} {p n:Nat} {H:Hp} {Q:VK} {E:XK} (p0:SqT K H st sh) (p1:SqT K H kt `i) (p2:SqT K H wt ws) (p3:Kinds kinds) (p4:(∀v∈sh,isW v)) (p5:(∀v∈ws,isW v)) (p6:isTerm sh) (p7:eat 1 `H=aA n) (p8:sh.length≤1000) (p9:ws.length≤1000) (p10:∀H',ag H H'→told `bK H' Q):(Ef K) [.ref st,.ref kt,.ref wt,.int (p:Int)] H Q E:=⟨st,kt,wt,sh,kinds,ws,p,n,rfl,p0,p1,p2,p3,p4,p5,p6,p7,p8,p9,p10⟩
theorem Sh {K:aG} {st kt ut:Addr} {sh:List V} {kinds:List Str} {u:Und} {H:Hp} {Q:VK} {E:XK} (p0:SqT K H st sh) (p1:SqT K H kt `i) (p2:j0 H ut u) (p3:Kinds kinds) (p4:(∀v∈sh,isW v)) (p5:sh.length≤1000) (p6:u.hs.length=(ak kinds sh).length) (p7:∀(l:Addr) (H':Hp),ag H H'→H l=none→HsAt H' l (u.hs.zip (ak kinds sh))→Q `B H'):(t8 K) [.ref st,.ref kt,.ref ut] H Q E:=⟨st,kt,ut,sh,kinds,u,rfl,p0,p1,p2,p3,p4,p5,p6,p7⟩
end Pc
namespace L2.Zd
open PySem
section
variable {prog:aX} {w:aZ} {A:bJ} {E:aD→aF→Prop} {s:aF} {z TI TO i1 i2 l1 l2:Addr} {xs ys:Array aD}
theorem iter_z {f0 f1:aD} {Q:aD→aF→Prop} (hz:IsZ s.heap z TI TO f0 f1) (h:Q `s s):aI `f A (iZ `s) Q E s:=by
 have hT:s.TypeIs `s "zip":=⟨_,hz,rfl⟩;refine gG hT dE (bN dE hT gN ?_ (gH _));show aI _ _ (ret `s) _ _ s
 exact aH ⟨_,rfl,"zip",_,hT,F.slot_zip_next.lookup,h⟩
theorem Ms {κ:Type} [DecidableEq κ] {knd:KeyKind prog w κ} {a b:aD} {Q:aD→aF→Prop} (hh:A.handled=none) (D:cX z TI TO i1 i2 l1 l2) (hz:IsZip s.heap z TI TO .none) (hTI:bV s.heap TI `bD `cI) (hTO:bV s.heap TO a b)
  (h1:s.heap.IsListIter i1 l1 0) (h2:s.heap.IsListIter i2 l2 0) (hl1:s.heap.IsList l1 xs) (hl2:s.heap.IsList l2 ys) (ps:List (κ×aD)) (hn:ps.length=xs.size)
  (hps:∀(i:Nat) (k:κ) (v:aD),ps[i]?=aA (k,v)→∃x,xs[i]?=aA x∧knd.is k x=true∧ys[i]?=aA v) (hsz:ps.length≤sizeLine)
  (h:∀h' tk,h'.DictOf knd s.heap.objs.size (jB [] ps)→(∀c o,c≠z→c≠TO→c≠i1→c≠i2→s.heap.get? c=aA o→h'.get? c=aA o)→Q `j { s with heap:=h',toks:=tk }):
  aI `f A (call `cc [.ref z]) Q E s:=by
 refine hJ (Q₁:=λobj s₁=>obj=.ref s.heap.objs.size∧s₁={ s with heap:=s.heap.push { cls:=.type "dict",data:=.dict #[] } }) F.kt_called_dict (lQ _) nG (kt_code_dict_new _ ⟨rfl,rfl⟩) ?_;rintro obj s₁ ⟨rfl,rfl⟩;have hnew:(s.heap.push { cls:=.type "dict",data:=.dict #[] }).DictOf knd s.heap.objs.size []:=jP s.heap;have gt:∀{c o},s.heap.get? c=aA o→s.heap.objs.size≠c:=λe=>ab2 (aK e);have up:∀{c o},s.heap.get? c=aA o→(s.heap.push { cls:=.type "dict",data:=.dict #[] }).get? c=aA o:=λe=>aE _ e;have ap:Ap s.heap.objs.size z TI TO i1 i2 l1 l2:=⟨D,gt hz,gt hTI,gt hTO,by obtain ⟨_,e,_⟩:=h1;exact gt e,by obtain ⟨_,e,_⟩:=h2;exact gt e,by obtain ⟨_,e,_⟩:=hl1;exact gt e,by obtain ⟨_,e,_⟩:=hl2;exact gt e⟩;refine ⟨hnew.typeIs,mY _ _,?_⟩;unfold cR.«dict.__init__»;refine aC ?_;unfold jE;refine aC (kX hnew.typeIs ?_);show aI _ _ (pure (s.heap.objs.size,[bG z])) _ _ _
 refine aH ?_;show aI _ _ (eN "dict.__init__" s.heap.objs.size `s [] .none) _ _ _
 unfold eN;have hT:iK { s with heap:=s.heap.push { cls:=.type "dict",data:=.dict #[] } } `s "zip":=⟨_,up hz,rfl⟩;refine aC (dC hT ?_);rw[if_pos `a];refine aC (Tv (up hz) (by simp[hh]) λh₁ tk₁ kp₁=>?_);rw[if_pos (show (none:Option aD).isNone=true from rfl)];refine aC (dZ (aC (iter_z (kp₁ _ _ (up hz)) ?_)));have kp:∀{c o},s.heap.get? c=aA o→h₁.get? c=aA o:=λe=>kp₁ _ _ (up e);have hd₁:h₁.DictOf knd s.heap.objs.size []:=by
  obtain ⟨o,es,ep,ho,r⟩:=hnew;exact ⟨o,es,ep,kp₁ _ _ ho,r⟩
 refine aH ⟨eO fe _,loop (xs:=xs) (ys:=ys) (by simp[hh]) ap ps hn hps ps.length 0 0 _ [] rfl (aai _) ⟨.inl ⟨kp hz,a,b,kp hTO⟩,kp hTI,h1.at λo e=>kp e,h2.at λo e=>kp e,hl1.at λo e=>kp e,hl2.at λo e=>kp e⟩ hd₁ (by show 0+_≤_;omega) λh' tk hd' k'=>⟨rfl,?_⟩⟩;exact h h' tk hd' λc o c2 c3 c4 c5 e=>k' c o (gt e).symm c2 c3 c4 c5 (kp e)
end
end L2.Zd
namespace L2
open PySem PySem.Spec PyProof.Rows
theorem b_zip:bO "zip"=aA `bM:=by decide+kernel
theorem b_max:bO "max"=aA (.builtin "max"):=by decide+kernel
noncomputable def b7 (ps acc:List (Key×V)):List (Key×V):=ps.foldl (λacc p=>putK acc p.1 p.2) acc
theorem KV.Il:∀{ps:List (Key×V)} {qs:List (Key×aD)},KV ps qs→∀{acc:List (Key×V)} {acc':List (Key×aD)},KV acc acc'→KV (b7 ps acc) (jB acc' qs)
 | _,_,.nil,_,_,r=>r
 | (k,v)::ps,(k',u)::qs,.cons h t,acc,acc',r=>by
  obtain ⟨h1,h2⟩:=h;have h1:k=k':=h1;subst h1;exact KV.Il t (r.put k h2)
theorem jg:∀(ps acc:List (Key×V)),(b7 ps acc).length≤acc.length+ps.length
 | [],acc=>aa3 _
 | p::ps,acc=>by
  have h1:=jg ps `c2;have h2:=ib acc p.1 p.2;show (b7 ps `c2).length≤_
  rw[aa8];omega
theorem Pw:∀{ks:List Key} {ys:List V} {us:List aD},Vals ys us→KV (ks.zip ys) (ks.zip us)
 | [],_,_,_=>.nil
 | _::_,_,_,.nil=>.nil
 | k::ks,_,_,.cons r t=>.cons ⟨rfl,r⟩ (Pw t)
def tDZ (K:aG) (ta:TA):TE:=λσ H Q=>ta σ H λvs H1=>∃(l1 l2:Addr) (ks:List Key) (ys:List V),vs=[.ref l1,.ref l2]∧SqL K H1 l1 (ks.map kV)∧SqL K H1 l2 ys∧ks.length=ys.length∧ks.length≤1000∧∀d,H1 d=none→Q `X (upd H1 d (.dK (b7 (ks.zip ys) [])))
section
variable {X:Cx}
theorem Iw {a b:Expr} {ta:TA} {p p2 pos pos2:Pos} (hc:X.calm=true) (hg:Gl X "dict") (hm:X.mg "dict"=none) (hg2:Gl X "zip") (hm2:X.mg "zip"=none) (ha:PA X [a,b] ta)
  (hs:bB [.Call `cO [a,b] [] pos2] X.env=[(false,eval (.Call `cO [a,b] [] pos2) X.env)]:=by rfl) (hs2:bB [a,b] X.env=(false,eval a X.env)::bB [b] X.env:=by rfl) (hpl:(cJ pos2 (bB [b] X.env)).any (·.1)=false:=by rfl):
  PE X (.Call (.Name "dict" p) [.Call `cO [a,b] [] pos2] [] pos) (tDZ X.K ta):=by
 intro pins s σ H Q I h;refine bU (gj I hg hm Jb ?_);refine bL ?_ hs rfl;rw[hs];show aI _ _ `cr _ _ s
 refine dM ?_;refine bU (gj I hg2 hm2 b_zip ?_);refine bL (thn `dR λus s1 ⟨vs,H1,I1,r1,q1⟩=>?_) hs2 hpl;obtain ⟨l1,l2,ks,ys,rfl,e1,e2,hl,hz,q⟩:=q1;obtain ⟨u1,u2,rfl,ru1,ru2⟩:=vals2 r1;cases ru1
 cases ru2
 have sz:=aV;obtain ⟨i1,v1,p1,_⟩:=I1.list e1;obtain ⟨i2,v2,p2',_⟩:=I1.list e2;have n1:=v1.length;have n2:=v2.length;rw[aa0] at n1;have lt1:l1 < s1.heap.objs.size:=by obtain ⟨_,e,_⟩:=p1.isList;exact aK e
 have lt2:l2 < s1.heap.objs.size:=by obtain ⟨_,e,_⟩:=p2'.isList;exact aK e
 refine call_zip_2 p1.isList p2'.isList λh' z1 z2 z3 z4 z5 z6 keep=>eX ?_;have old:∀{b u},s1.heap.get? b=aA u→b < s1.heap.objs.size:=λe=>aK e;refine Zd.Ms (s:={ s1 with heap:=h' }) (knd:=cm X.prog X.w) (I1.ok.hd hc) (mV lt1 lt2) z1 z2 z3 z4 z5 (p1.isList.at λo e=>keep _ _ e) (p2'.isList.at λo e=>keep _ _ e) (ks.zip i2) (by rw[abm,aae];omega) (λi k v hi=>?_) (by rw[abm];omega) λh2 tk hd kp=>?_
 ·obtain ⟨hi1,hi2⟩:=List.getElem?_zip_eq_some.mp hi;obtain ⟨u,hu,ru⟩:=v1.get (i:=i) (x:=kV k) (by rw[aa5,hi1];rfl);exact ⟨u,by rw[acf];exact hu,qk ru,by rw[acf];exact hi2⟩
 ·have zl:(b7 (ks.zip ys) []).length≤sizeLine:=by
   have:=jg (ks.zip ys) [];rw[abm,ace] at this;omega
  have le:s1.heap.objs.size≤h'.objs.size:=by rw[z6];omega
  refine ⟨.ref h'.objs.size,_,I1.laid (t':=tk) (λb u e=>kp b u `eY `eY (aam (old e)) `eY (keep b u e)) le (show cj X.prog X.w _ _ _ (.dK (b7 (ks.zip ys) [])) from ⟨zl,?_,_,KV.Il (Pw v2) .nil,hd⟩),rfl,q _ (I1.hok.fresh le)⟩;exact beq_eq_false_iff_ne.mpr (cT (aam (aao I1.big le)))
end
end L2
namespace Pc
open PySem PySem.Spec L2 PyProof.Rows
def TbK (H:Hp) (d:Addr) (g:Ky→Option Int) (ks:List Ky):Prop:=∃kvs:List (List Key×V),H d=aA `ca∧kvs.map (·.1)=ks.map kyK∧ks.Nodup∧∀k,bf kvs (kyK k)=(g k).map V.int
theorem TbK.tb {H:Hp} {d:Addr} {g:Ky→Option Int} {ks:List Ky} (h:TbK H d g ks):vk H d g ks.length:=by
 obtain ⟨kvs,h1,h2,_,h3⟩:=h;have:=congrArg ac2 h2;rw[aa0,aa0] at this;exact ⟨kvs,h1,by omega,h3⟩
theorem TbK.at {H H':Hp} {d:Addr} {g:Ky→Option Int} {ks:List Ky} (h:TbK H d g ks) (e:∀o,H d=aA o→H' d=aA o):TbK H' d g ks:=by
 obtain ⟨kvs,h1,h2⟩:=h;exact ⟨kvs,e _ h1,h2⟩
theorem TbK.same {H H':Hp} {d:Addr} {g:Ky→Option Int} {ks:List Ky} (h:TbK H d g ks) (s:ag H H'):TbK H' d g ks:=h.at λo e=>s _ _ e
theorem TbK.nil {H:Hp} {d:Addr}:TbK (upd H d (.dT [])) d (λ_=>none) []:=⟨[],aa,rfl,acx,λ_=>rfl⟩
theorem TbK.mem {H:Hp} {d:Addr} {g:Ky→Option Int} {ks:List Ky} (h:TbK H d g ks) (k:Ky):k∈ks↔(g k).isSome=true:=by
 obtain ⟨kvs,h1,h2,h3,h4⟩:=h;have e:(bf kvs (kyK k)).isSome=(g k).isSome:=by rw[h4 k];cases g k <;> rfl
 rw[←e,←g9,List.any_eq_true];constructor
 ·intro hk;have:kyK k∈kvs.map (·.1):=by rw[h2];exact List.mem_map.mpr ⟨k,hk,rfl⟩
  obtain ⟨p,hp,e⟩:=List.mem_map.mp this;exact ⟨p,hp,decide_eq_true e⟩
 ·rintro ⟨p,hp,e⟩;have:kyK k∈kvs.map (·.1):=List.mem_map.mpr ⟨p,hp,of_decide_eq_true e⟩;rw[h2] at this;obtain ⟨k',hk',e'⟩:=List.mem_map.mp this;rw[←Ke e'];exact hk'
theorem find_name {rs:List Rl} (nd:(rs.map (·.name)).Nodup):∀{i:Nat} {r:Rl},rs[i]?=aA r→rs.find? (λx=>decide (x.name=r.name))=aA r:=by
 induction rs with
 | nil=>intro i r h;simp at h
 | cons x rs ih=>
  intro i r h;have nd:(x.name::rs.map (·.name)).Nodup:=nd;obtain ⟨n1,n2⟩:=List.nodup_cons.mp nd;cases i with
  | zero=>
   cases h
   rw[List.find?_cons_of_pos `c]
  | succ i=>
   have h:rs[i]?=aA r:=h;have ne:¬x.name=r.name:=λe=>n1 (e ▸ List.mem_map.mpr ⟨r,aak h,rfl⟩);rw[List.find?_cons_of_neg (by simpa using ne)];exact ih n2 h
def Jn (H:Hp) (t:Addr) (r:Rl) (u:Und):Prop:=∃ra ut:Addr,H t=aA `eG∧oh H ra r∧j0 H ut u
def Jw (H:Hp) (l:Addr) (ks:List Ky):Prop:=∃as:List Addr,H l=aA `e∧as.length=ks.length∧∀(j:Nat) (k:Ky),ks[j]?=aA k→∃a,as[j]?=aA a∧H a=aA (kyT k)
def De:Sp:=λvs H Q _=>∃(b t:Addr) (kinds:List Str) (rs:List Rl) (r:Rl) (u:Und),vs=[.ref b,.ref t]∧qt H b kinds rs∧Bk kinds rs∧r∈rs∧Jn H t r u∧u.hs.length=(ak kinds r.shape).length∧∀(l:Addr) (H':Hp),ag H H'→H l=none→Jw H' l (u.hs.zip `bs).reverse→Q `B H'
theorem mkLast {b t:Addr} {kinds:List Str} {rs:List Rl} {r:Rl} {u:Und} {H:Hp} {Q:VK} {E:XK} (p0:qt H b kinds rs) (p1:Bk kinds rs) (p2:r∈rs) (p3:Jn H t r u) (p4:u.hs.length=(ak kinds r.shape).length) (p5:∀(l:Addr) (H':Hp),ag H H'→H l=none→Jw H' l (u.hs.zip `bs).reverse→Q `B H'):De [.ref b,.ref t] H Q E:=⟨b,t,kinds,rs,r,u,rfl,p0,p1,p2,p3,p4,p5⟩
end Pc
namespace L2.Lrv
open PySem PySem.Spec PyProof.Rows PySem.W
theorem Iy:dY (.type "list_reverseiterator") "__len__"=pure none:=by rw[dQ,cM];kernel_rfl
theorem hint:dY (.type "list_reverseiterator") "__length_hint__"=pure (aA (.builtin "list_reverseiterator.__length_hint__")):=by rw[dQ,cM];kernel_rfl
section
variable {prog:aX} {w:aZ} {A:bJ} {E:aD→aF→Prop} {s:aF} {r:Addr}
theorem Qg {Q:Bool→aF→Prop} (hT:s.TypeIs (.ref r) "list_reverseiterator") (h:Q false s):aI `f A (fE (.ref r)) Q E s:=by
 unfold fE;refine aC (fQ hT Iy ?_);show aI _ A (specialOf (bG r) (aB "__length_hint__") >>=_) _ _ _
 refine aC (fQ hT hint ?_);generalize hid:("list_reverseiterator.__length_hint__":String)=id0;wp_delta
 rw[show splitId id0=aA ("list_reverseiterator","__length_hint__") from by subst hid;decide+kernel];subst hid;refine aC (eF (T:="list_reverseiterator") (b:=true) hT (by rw[isSubtype_type];kernel_rfl) ?_);refine fS (λhab=>absurd hab `a) (λ_=>?_);refine fS (λ_=>?_) (λhab=>absurd `b hab);refine fS (λhab=>absurd hab `b) (λ_=>?_);exact aH h
theorem Jq {R:iC→aF→Prop} {I l:Addr} {items:Array aD} (hh:A.handled=none) (hI:s.heap.IsRevIter I l ((items.size:Int) - 1)) (hl:s.heap.IsList l items) (hne:l≠I) (hn:items.size≤sizeLine) (S:Addr) (hSI:S≠I) (hSl:S≠l) (res:aD) (c₀:Nat) (hS:s.heap.get? S=aA { cls:=.type "list",data:=.seq #[] c₀ })
  (hR:∀h' tk acc' c',(∀b o,b≠S→b≠I→s.heap.get? b=aA o→h'.get? b=aA o)→h'.get? S=aA { cls:=.type "list",dict:=none,data:=.seq acc' c',slots:=#[] }→ItemsOf (λi v=>items[items.size - 1 - i]?=aA v) acc' items.size→R (.ok (.ret res)) { s with heap:=h',toks:=tk }):
  aI `f A.in1 (bS (.ref S) (.ref I) res)
   (λfin s'=>match fin with | .done f=>R (.ok f) s' | .again c'=>c'.quiet=true∧dO `f A c' R s') (λe s'=>R `dP s') s:=by
 have W:=Walks.listRev (prog:=prog) (w:=w) (A:=A.in1) hh I l hne items;have hSf:S∉[I,l]:=by simp only[aan,aac,or_false,not_or];exact ⟨hSI,hSl⟩
 have key:∀(h:Heap) (c₁ tk:Nat),(0≤items.size∧h.IsRevIter I l ((items.size:Int) - 1 - ((0:Nat):Int))∧h.IsList l items)→(∀b o,b≠S→s.heap.get? b=aA o→h.get? b=aA o)→
   h.get? S=aA { cls:=.type "list",data:=.seq #[] c₁ }→dO `f A (.builtin "list.extend.loop" ⟨[.ref S,.ref I,res],[]⟩) R { s with heap:=h,toks:=tk }:=by
  intro h c₁ tk hst hk hS₁;refine codeAny_extend_loopS W.toS hn S hSf res items.size 0 _ #[] c₁ rfl (aai _) hst hS₁ (ItemsOf.nil _) λs' acc' c' hm hS' hacc=>?_;rw[Moved.eq_with hm];refine hR s'.heap s'.toks acc' c' (λb o hb hbI e=>hm.heap b o (λhmem=>?_) (hk b o hb e)) hS' hacc;rcases List.mem_cons.mp hmem with e' | hmem
  ·exact hb e'
  ·exact hbI (List.mem_singleton.mp hmem)
 have hT:=hI.typeIs;unfold bS;refine aC (dC (T:="list_reverseiterator") hT ?_);have h1:eG (.ref S) (.ref I)=false:=by simp[eG,hSI]
 have h2:(dA "list_reverseiterator"==dA "list")=false:=by decide
 have h3:(dA "list_reverseiterator"==dA "tuple")=false:=by decide
 simp only[h1,h2,h3,ady,abn,if_false];refine aC (wpAny_pyIter_revIter hI ?_);refine aC (bI (Qg hT ?_));refine fS (λhab=>absurd hab `a) (λ_=>aH ⟨eO cZ _,key _ c₀ _ ⟨aai _,by rw[show (items.size:Int) - 1 - ((0:Nat):Int)=(items.size:Int) - 1 by omega];exact hI,hl⟩ (λb o _ e=>e) hS⟩)
theorem Qs {Q:aD→aF→Prop} {I l:Addr} {items:Array aD} (hh:A.handled=none) (hI:s.heap.IsRevIter I l ((items.size:Int) - 1)) (hl:s.heap.IsList l items) (hne:l≠I) (hlI:I < s.heap.objs.size) (hll:l < s.heap.objs.size) (hn:items.size≤sizeLine)
  (hQ:∀h' tk acc c,(∀b o,b≠I→s.heap.get? b=aA o→h'.get? b=aA o)→h'.get? s.heap.objs.size=aA { cls:=.type "list",dict:=none,data:=.seq acc c,slots:=#[] }→ItemsOf (λi v=>items[items.size - 1 - i]?=aA v) acc items.size→Q `j { s with heap:=h',toks:=tk }):
  aI `f A (call `cD [.ref I]) Q E s:=by
 refine hJ (Q₁:=λobj s₁=>obj=.ref s.heap.objs.size∧s₁={ s with heap:=s.heap.push { cls:=.type "list",data:=.seq #[] } }) lY (jG _) jH
  (code_list_new _ ⟨rfl,rfl⟩) λobj s₁ h₁=>?_
 obtain ⟨rfl,rfl⟩:=h₁;have hS:(s.heap.push { cls:=.type "list",data:=.seq #[] }).get? s.heap.objs.size=aA { cls:=.type "list",data:=.seq #[] }:=aJ _ rfl;refine ⟨⟨_,hS,rfl⟩,jC _ _,?_⟩;show aI _ _ (do let old ←eW `j;jI `j (λ_=>#[]);letGo old.toList.reverse;bS `j (.ref I) .none) _ _ _
 refine aC ?_;unfold eW;refine aC (bP hS rfl (aH ?_));show aI _ _ (jQ s.heap.objs.size (λ_=>#[]) >>=λ_=>letGo (#[]:Array aD).toList.reverse >>=λ_=>bS `j (.ref I) .none) _ _ _
 refine aC (fR hS rfl ?_);have hS₂:=cL `bQ hS rfl;have oth:∀b o,b≠s.heap.objs.size→(s.heap.push { cls:=.type "list",data:=.seq #[] }).get? b=aA o→((s.heap.push { cls:=.type "list",data:=.seq #[] }).update s.heap.objs.size `bQ).get? b=aA o:=λb o hb e=>(cF _ _ (cT hb)).trans e;refine aC (fO ?_);have up:∀b o,b < s.heap.objs.size→s.heap.get? b=aA o→((s.heap.push { cls:=.type "list",data:=.seq #[] }).update s.heap.objs.size `bQ).get? b=aA o:=λb o hb e=>oth b o (aam hb) (aE _ e);refine Jq (A:=A.in1) hh (hI.at λo e=>up I o hlI e) (hl.at λo e=>up l o hll e) hne hn s.heap.objs.size (ab2 hlI) (ab2 hll) .none _ hS₂ λh' tk acc c hk hS' hacc=>?_;exact ⟨rfl,hQ h' tk acc c (λb o hbI e=>hk b o `d9 hbI (up b o (aK e) e)) hS' hacc⟩
end
end L2.Lrv
namespace L2
open PySem PySem.Spec PyProof.Rows
def tLR (K:aG) (ta:TA):TE:=λσ H Q=>ta σ H λvs H1=>∃(l:Addr) (xs:List V),vs=[.ref l]∧SqL K H1 l xs∧∀p,H1 p=none→Q `aW (upd H1 p (.lst xs.reverse))
section
variable {X:Cx}
theorem Ab {a:Expr} {ta:TA} {p p2 pos pos2:Pos} (hc:X.calm=true) (hg:Gl X "list") (hm:X.mg "list"=none) (hg2:Gl X "reversed") (hm2:X.mg "reversed"=none) (ha:PA X [a] ta)
  (hs:bB [.Call (.Name "reversed" p2) [a] [] pos2] X.env=[(false,eval (.Call (.Name "reversed" p2) [a] [] pos2) X.env)]:=by rfl) (hs2:bB [a] X.env=[(false,eval a X.env)]:=by rfl):
  PE X (.Call (.Name "list" p) [.Call (.Name "reversed" p2) [a] [] pos2] [] pos) (tLR X.K ta):=by
 intro pins s σ H Q I h;refine bU (gj I hg hm Ik ?_);refine bL ?_ hs rfl;rw[hs];show aI _ _ `cr _ _ s
 refine dM ?_;refine bU (gj I hg2 hm2 Jr ?_);refine bL (thn `dR λus s1 ⟨vs,H1,I1,r1,q1⟩=>?_) hs2 rfl;obtain ⟨l,xs,e,hq,q⟩:=q1;subst e;obtain ⟨u1,rfl,ru1⟩:=vals1 r1;cases ru1
 obtain ⟨its,rv,pl,hz⟩:=I1.list hq;have hlen:=rv.length;refine call_reversed_list pl.isList (eX ?_);have lt:l < s1.heap.objs.size:=by
  obtain ⟨o,ho,_⟩:=pl.isList;exact aK ho
 have hsz:(s1.heap.push `cl).objs.size=s1.heap.objs.size+1:=bD _ _;refine Lrv.Qs (s:={ s1 with heap:=s1.heap.push `cl }) (I:=s1.heap.objs.size) (l:=l) (items:=its.toArray) (I1.ok.hd hc) ⟨_,aJ _ rfl,rfl,rfl⟩ (pl.isList.at λo e=>aE _ e) (aam lt) (by rw[hsz];exact aex _) (by rw[hsz];exact acj lt) (by rw[aae,←hlen];exact hz) λh' tk acc c kp hL hacc=>?_;have k2:∀b o,s1.heap.get? b=aA o→h'.get? b=aA o:=λb o e=>kp b o `d9 (aE _ e);have ea:acc.toList=its.reverse:=by
  apply aev
  intro j;have h1:acc.size=its.length:=by
   have h1:acc.size=its.toArray.size:=hacc.1;rw[h1,aae]
  by_cases hj:j < its.length
  ·have hj2:j < acc.size:=by omega
   have g:its.toArray[its.toArray.size - 1 - j]?=aA acc[j]:=hacc.2 j _ (aax hj2);rw[acf,aae] at g;rw[ach hj,g,acd,aax hj2]
  ·rw[abk (by rw[abb];omega),abk (by rw[aat];omega)]
 refine ⟨.ref _,_,I1.laid (t':=tk) k2 (show s1.heap.objs.size≤(s1.heap.push `cl).objs.size by rw[hsz];exact abe _) (show cj X.prog X.w _ h' _ (.lst xs.reverse) from ⟨by rw[aat];exact hz,its.reverse,c,rv.reverse,by rw[←ea,aem];exact hL⟩),rfl,q _ (I1.hok.fresh (by rw[hsz];exact abe _))⟩
end
end L2
theorem L2.us6 {α:Type} {P:List α→Prop} {us:List α} (hl:us.length=6) (h:∀a b c d e f,P [a,b,c,d,e,f]):P us:=
 match us,hl with
 | [_,_,_,_,_,_],_=>h _ _ _ _ _ _
namespace Pc
open PySem PySem.Spec L2 PyProof.Rows
theorem u6 {kinds:List Str} {ws:List V} (hk:Kinds kinds) (hw:∀v∈ws,isW v):∀(sh:List V) (p:Nat) (u u':Und) (d m:Nat),(∀v∈sh,isW v)→pend d `d6=aA 0→eat d `H=aA m→(∀h∈u.hs,h < ws.length)→bu kinds ws sh p u=aA u'→∀h∈u'.hs,h < ws.length
 | [],p,u,u',d,m,_,_,_,hu,h=>by
  have h:aA u=aA u':=h;cases h
  exact hu
 | v::r,p,u,u',0,m,_,hp,_,_,_=>nomatch hp
 | v::r,p,u,u',d+1,m,hs,hp,he,hu,h=>by
  have hpl:p < ws.length:=by
   rcases ad0 p ws.length with g | g
   ·exact g
   ·rw[abr g] at he;cases he
  have hx:ws[p]?=aA ws[p]:=aa2 hpl;rw[cv] at h;have eg:ws.getD p .non=ws[p]:=by rw[aa7,hx];rfl
  rw[eg] at h;by_cases c:lies `q v ws[p]=true
  ·rw[if_pos c] at h;obtain ⟨d',m',h1,h2⟩:=fm hk (hs v aa6) hx `e7 hp he c;refine u6 hk hw r _ _ u' d' m' (λx hx=>hs x `ct) h1 h2 (λy hy=>?_) h;unfold Und.put at hy;split at hy
   ·rcases List.mem_append.mp hy with z | z
    ·exact hu y z
    ·rw[List.mem_singleton.mp z];exact hpl
   ·split at hy
    ·exact hu y hy
    ·split at hy
     ·exact hu y hy
     ·exact hu y hy
  ·rw[if_neg c] at h;cases h
theorem Mt (kinds:List Str) (sh:List V):∀z∈ak kinds sh,z∈kinds:=λz hz=>by
 unfold ak at hz;obtain ⟨v,_,hv⟩:=List.mem_filterMap.mp hz;cases v with
 | str y=>
  dsimp only at hv;split at hv
  ·cases hv
   assumption
  ·cases hv
 | _=>cases hv
theorem L1 (kinds:List Str) (sh:List V):(ak kinds sh).length≤sh.length:=ada _ _
noncomputable def dr (kinds:List Str) (rs:List Rl) (ws:List V) (nm kd:Str) (p:Nat):Option (Rl×Und):=
 match rs.find? (λr=>decide (r.name=nm)) with
 | some r=>if r.kind=kd then (bu kinds ws r.shape p ⟨[],[],[]⟩).map (λu=>(r,u)) else none
 | none=>none
theorem Gn {kinds:List Str} {rs:List Rl} {ws:List V} {p i:Nat} {r:Rl} (bk:Bk kinds rs) (h:rs[i]?=aA r):dr kinds rs ws r.name r.kind p=(bu kinds ws r.shape p ⟨[],[],[]⟩).map (λu=>(r,u)):=by
 unfold dr;rw[find_name bk.nd h];dsimp only;rw[if_pos rfl]
theorem Lr {kinds:List Str} {rs:List Rl} {ws:List V} {p:Nat} {nm kd:Str} (h:∀(i:Nat) (x:Rl),rs[i]?=aA x→x.name=nm→x.kind=kd→bu kinds ws x.shape p ⟨[],[],[]⟩=none):dr kinds rs ws nm kd p=none:=by
 unfold dr;cases e:rs.find? (λr=>decide (r.name=nm)) with
 | none=>rfl
 | some r=>
  dsimp only;by_cases c:r.kind=kd
  ·obtain ⟨i,hi⟩:=List.mem_iff_getElem?.mp (ack e);rw[if_pos c,h i r hi (by simpa using ads e) c];rfl
  ·rw[if_neg c]
theorem o7 {kinds:List Str} {rs:List Rl} {ws:List V} {p:Nat} {nm kd:Str} {r:Rl} {u:Und} (h:dr kinds rs ws nm kd p=aA (r,u)):r∈rs∧r.name=nm∧r.kind=kd∧bu kinds ws r.shape p ⟨[],[],[]⟩=aA u:=by
 unfold dr at h;cases e:rs.find? (λr=>decide (r.name=nm)) with
 | none=>rw[e] at h;cases h
 | some x=>
  rw[e] at h;dsimp only at h;by_cases c:x.kind=kd
  ·rw[if_pos c] at h;obtain ⟨u',h1,h2⟩:=Option.map_eq_some_iff.mp h;cases h2
   exact ⟨ack e,by simpa using ads e,c,h1⟩
  ·rw[if_neg c] at h;cases h
noncomputable def Be (kinds:List Str) (d:Rl×Und):List Ky:=d.2.hs.zip (ak kinds d.1.shape)
noncomputable def cu (kinds:List Str) (rs:List Rl) (ws:List V):List Str→List Ky→Option (List (Rl×Und))
 | [],[]=>aA []
 | [],_::_=>none
 | _::_,[]=>none
 | nm::r,k::st=>match dr kinds rs ws nm k.2 k.1 with
  | some d=>(cu kinds rs ws r (Be kinds d++st)).map (d::·)
  | none=>none
theorem gz {kinds:List Str} {rs:List Rl} {ws:List V} {nm:Str} {r:List Str} {k:Ky} {st:List Ky} {d:Rl×Und} (h:dr kinds rs ws nm k.2 k.1=aA d):cu kinds rs ws (nm::r) (k::st)=(cu kinds rs ws r (Be kinds d++st)).map (d::·):=by
 simp only[cu,h]
theorem ia {kinds:List Str} {rs:List Rl} {ws:List V} {nm:Str} {r:List Str} {k:Ky} {st:List Ky} (h:dr kinds rs ws nm k.2 k.1=none):cu kinds rs ws (nm::r) (k::st)=none:=by
 simp only[cu,h]
theorem wy {kinds:List Str} {rs:List Rl} {ws:List V}:∀{ns:List Str} {st:List Ky} {ds:List (Rl×Und)},cu kinds rs ws ns st=aA ds→ds.length=ns.length∧∀d∈ds,d.1∈rs
 | [],[],ds,h=>by cases h;exact ⟨rfl,λd hd=>nomatch hd⟩
 | [],_::_,ds,h=>nomatch h
 | _::_,[],ds,h=>nomatch h
 | nm::r,k::st,ds,h=>by
  cases e:dr kinds rs ws nm k.2 k.1 with
  | none=>rw[ia e] at h;cases h
  | some d=>
   rw[gz e] at h;obtain ⟨ds',h1,rfl⟩:=Option.map_eq_some_iff.mp h;obtain ⟨g1,g2⟩:=wy h1;refine ⟨by rw[aa8,aa8,g1],λx hx=>?_⟩;rcases List.mem_cons.mp hx with rfl | hx
   ·exact (o7 (r:=x.1) (u:=x.2) e).1
   ·exact g2 x hx
def KyOk (ws:List V) (st:List Ky):Prop:=∀k∈st,k.1 < ws.length∧jx k.2
theorem KyOk.step {kinds:List Str} {rs:List Rl} {ws:List V} (bk:Bk kinds rs) (tw:Tw ws) (kt:∀z∈kinds,jx z) {k:Ky} {st:List Ky} (h:KyOk ws (k::st)) {nm:Str} {d:Rl×Und} (hr:dr kinds rs ws nm k.2 k.1=aA d):KyOk ws (Be kinds d++st)∧(Be kinds d).length≤100∧d.2.hs.length=(ak kinds d.1.shape).length:=by
 obtain ⟨h1,h2,h3,h4⟩:=o7 (r:=d.1) (u:=d.2) hr;obtain ⟨w1,w2,w3⟩:=bk.sh _ h1;obtain ⟨n,hn⟩:=tw.eat (h k aa6).1;have li:=u6 bk.kd (λv hv=>(tw.w v hv).1) _ _ _ _ 1 n w1 w2 hn (λ_ z=>(aac z).elim) h4;have hl:d.2.hs.length=(ak kinds d.1.shape).length:=by
  have:=(uu bk.kd _ _ _ _ w1 h4).1;simpa using this
 refine ⟨λx hx=>?_,?_,hl⟩
 ·rcases List.mem_append.mp hx with hx | hx
  ·have:=ac3 (show (x.1,x.2)∈_ from hx);exact ⟨li _ this.1,kt _ (Mt _ _ _ this.2)⟩
  ·exact h x `ct
 ·unfold Be;have:=L1 kinds d.1.shape;rw[abm];omega
def KsL (H:Hp) (as:List Addr) (ks:List Ky):Prop:=as.length=ks.length∧∀(j:Nat) (k:Ky),ks[j]?=aA k→∃a,as[j]?=aA a∧H a=aA (kyT k)
theorem KsL.tk {H H':Hp} {as:List Addr} {ks:List Ky} (h:KsL H as ks) (s:TK H H'):KsL H' as ks:=⟨h.1,λj d e=>by obtain ⟨a,a1,a2⟩:=h.2 j d e;exact ⟨a,a1,s _ _ a2⟩⟩
theorem KsL.app {H:Hp} {as bs:List Addr} {ks js:List Ky} (h:KsL H as ks) (g:KsL H bs js):KsL H (as++bs) (ks++js):=by
 refine ⟨by rw[aa1,aa1,h.1,g.1],λj x hj=>?_⟩;by_cases c:j < ks.length
 ·rw[aag c] at hj;obtain ⟨a',h1,h2⟩:=h.2 j x hj;exact ⟨a',by rw[aag (by rw[h.1];exact c)];exact h1,h2⟩
 ·rw[aad (by omega)] at hj;obtain ⟨a',h1,h2⟩:=g.2 _ x hj;exact ⟨a',by rw[aad (by rw[h.1];omega),h.1];exact h1,h2⟩
theorem KsL.one {H:Hp} {a:Addr} {k:Ky} (h:H a=aA (kyT k)):KsL H [a] [k]:=⟨rfl,λj x hj=>by
 cases j with
 | zero=>cases hj;exact ⟨a,rfl,h⟩
 | succ j=>simp at hj⟩
theorem KsL.pop {H:Hp} {as:List Addr} {k:Ky} {st:List Ky} (h:KsL H as (k::st).reverse):∃(bs:List Addr) (a:Addr),as=bs++[a]∧KsL H bs st.reverse∧H a=aA (kyT k):=by
 obtain ⟨h1,h2⟩:=h;rw[abf] at h1 h2;rw[aa1,aa4] at h1;have hne:as≠[]:=λe=>by rw[e] at h1;simp at h1
 obtain ⟨a,ha,hk⟩:=h2 st.reverse.length k (by rw[aad (aa3 _),abz];rfl);have el:as.length - 1=st.reverse.length:=by omega
 have ea:as.getLast hne=a:=by
  rw[List.getLast_eq_getElem];have:=(List.getElem?_eq_some_iff.mp ha).2;rw[←this];congr 1
 refine ⟨as.dropLast,a,by rw[←ea,List.dropLast_concat_getLast],⟨by rw[aek];omega,λj x hj=>?_⟩,hk⟩;have hjl:=(List.getElem?_eq_some_iff.mp hj).1;obtain ⟨a',h3,h4⟩:=h2 j x (by rw[aag hjl];exact hj);refine ⟨a',?_,h4⟩;rw[List.getElem?_dropLast,if_pos (by omega)];exact h3
theorem Jw.l {H:Hp} {l:Addr} {ks:List Ky} (h:Jw H l ks):∃as:List Addr,H l=aA `e∧KsL H as ks:=by
 obtain ⟨as,h1,h2,h3⟩:=h;exact ⟨as,h1,h2,h3⟩
theorem Vh {P:Str→Prop} {xs ys:List Str} (h:∀z∈xs,P z) (g:∀z∈ys,P z):∀z∈xs++ys,P z:=λz hz=>(List.mem_append.mp hz).elim (h z) (g z)
theorem Az (x:Int) {n:Nat} (h:0 < n):∃i:Nat,i < n∧x % (n:Int)=(i:Int):=by
 have h1:=ab8 x (show (n:Int)≠0 by omega);have h2:=abo x (show (0:Int) < (n:Int) by omega);exact ⟨(x % (n:Int)).toNat,by omega,by omega⟩
end Pc
namespace PySem
open Sem (wp)
open AutoSeq1 (wpAny_loadPart')
theorem G6 (a v:aD):checkTypeCall "enumerate" ⟨[a],[("start",v)]⟩=pure ():=by kernel_rfl
theorem J0 (a v:aD):checkBuiltinCall "enumerate.__new__" ⟨[.type "enumerate",a],[("start",v)]⟩=pure ():=by kernel_rfl
theorem Gm (a b v:aD):argsOk "object.__init__" ⟨[a,b],[("start",v)]⟩:=by
 unfold argsOk;rw[signature?_of (id:="object.__init__") (n:="__tini__".toList) (o:="tcejbo".toList) (by kernel_rfl) F.owner_object];kernel_rfl
noncomputable def iy (l:Addr):Obj:={ cls:=.type "list_iterator",data:=.fields #[.ref l,.int 0 0] }
noncomputable def iw (it:Addr):Obj:={ cls:=.type "enumerate",data:=.fields #[.none,.bool false,.ref it,cP 1,.none,.none] }
theorem Mi (l:Addr) (items:Array aD) (n:Nat) (t:Tok) (dct:Option Addr) (sl:Array `e2):
  Meets `cb (λ_ R s=>s.heap.get? l=aA { cls:=.type "list",dict:=dct,data:=.seq items n,slots:=sl }∧
   R (.ok (.ret `aF)) { s with heap:=(s.heap.push (iy l)).push `aR }):=
 .of_wp λprog w A R s h=>by
  obtain ⟨hp,g,d,tk,os⟩:=s;obtain ⟨hl,h⟩:=h;have hsb:=sub_enumerate;have hLs:Heap.IsList `eV l items:=⟨_,hl,rfl,n,rfl⟩;wp_walk using wpAny_loadPart' hl
  refine wpAny_stack_any λst=>aH ?_;split
  ·next c _ _ _ _ _=>
   cases (c==dA "enumerate") <;> (wp_walk using wpAny_loadPart' hl,dI hLs;exact ⟨_,rfl,h⟩)
  ·wp_walk using wpAny_loadPart' hl,dI hLs
   exact ⟨_,rfl,h⟩
theorem yj {T newId:String} {self a v:aD} (hl:dY `du "__init__"=pure (aA (.builtin "object.__init__"))) (hm:Bind.madeBy `du=pure (aA newId)) (hne:(aA newId !=aA "object.__new__")=true):
  Meets (cR.«object.__init__» ⟨[self,a],[("start",v)]⟩) (λ_ R s=>s.TypeIs self T∧R (.ok (.ret .none)) s):=by
 refine Meets.of_wp λprog w A R s ⟨hT,hq⟩=>?_;repeat (any_goals (first | assumption | wp_step))
 exact ⟨_,rfl,hq⟩
section
variable {prog:aX} {w:aZ} {A:bJ} {E:aD→aF→Prop} {s:aF}
theorem Rz {l:Addr} {t:Tok} {items:Array aD} {Q:aD→aF→Prop} (hL:s.heap.IsList l items)
  (h:Q `aF { s with heap:=(s.heap.push (iy l)).push `aR }):
  aI `f A (call `cQ [.ref l] [("start",.int 1 t)]) Q E s:=by
 have ft:=mZ;obtain ⟨c0,tl,hmro⟩:=ft.mro;have hmade:=ft.made;have hsub:=ft.sub;have hct:=G6 `B (.int 1 t);obtain ⟨⟨c,dct,dt,sl⟩,hl,hc,n,hd⟩:=hL;replace hc:c=.type "list":=hc
 replace hd:dt=.seq items n:=hd
 subst hc hd;refine nQ (codeAny_of_tree (show aI _ _ (callAny `cQ _) _ _ _ from ?_));refine aH ⟨nA _ `b,dF nH ?_⟩;rw[nB `eu (lR _ _ _)];have h1:=ft.notType;have h2:=ft.canCreate;repeat (any_goals (first | assumption | wp_step))
 have hen:(iw s.heap.objs.size).cls=.type "enumerate":=rfl;have hT:({ s with heap:=(s.heap.push (iy l)).push `aR }:aF).TypeIs `aF "enumerate":=⟨_,aJ _ rfl,rfl⟩;refine eZ (R:=wants (λv s1=>v=.ref (s.heap.push (iy l)).objs.size∧s1={ s with heap:=(s.heap.push (iy l)).push `aR }) E) (fH ft.plain lB (nJ (J0 `B (.int 1 t)) (Mi l items n t dct sl prog w A.in1 _ s ⟨hl,rfl,rfl⟩))) λr s1 hr=>?_;match r,hr with
 | .error e,hr=>exact hr
 | .ok (.ret obj),hr=>
  obtain ⟨rfl,rfl⟩:=hr;have hli:=ft.init.lookup;have hbi:=ft.init.bind `aF;repeat (any_goals (first | assumption | wp_step))
  have gi:=yj (T:="enumerate") (self:=.ref (s.heap.push (iy l)).objs.size) (a:=.ref l) (v:=.int 1 t) ft.init.lookup ft.made `a;refine eZ (fH ft.init.plain mD (ft.init.check _ _ _ _ _ _ _ _ hT (Gm _ _ _) (gi prog w A.in1 (wants (λr s2=>r=.none∧Q `aF s2) E) _ ⟨hT,rfl,h⟩))) λr2 s2 hr2=>?_;match r2,hr2 with
  | .error e,hr2=>exact hr2
  | .ok (.ret r),hr2=>
   obtain ⟨rfl,hq⟩:=hr2;repeat (any_goals (first | assumption | wp_step))
end
end PySem
namespace L2
open PySem PySem.Spec PyProof.Rows
theorem draws1 {prog:aX} {w:aZ} {A:bJ} (hh:A.handled=none) (it l:Addr) (hne:l≠it) (items:Array aD):
  Draws prog w A it [it,l] (items.size+1) (λi v=>∃j,i=j+1∧items[j]?=aA v) (λi h=>∃j,i=j+1∧h.IsListIter it l j∧h.IsList l items) where
 live:=λ_ _ ⟨_,_,⟨o,ho,_⟩,_⟩=>⟨o,ho⟩
 frame:=λ_ _ _ ⟨j,e,a,b⟩ hk=>⟨j,e,a.at λo e=>hk it aa6 o e,b.at λo e=>hk l `eZ o e⟩
 item:=by
  rintro i s Q E hi ⟨j,rfl,a,b⟩ hQ;have hj:j < items.size:=aef hi;exact eV a b (aax hj) λh' a' hs=>hQ _ h' s.toks ⟨j,rfl,aax hj⟩ ⟨j+1,rfl,a',b.extBut hs.extBut hne⟩ hs
 done:=by
  rintro s Q E ⟨j,e,a,b⟩ hE;obtain rfl:j=items.size:=(acy e).symm;exact fC hh a b (ac0 (aa3 _)) hE
noncomputable def Ite1 (K:aG) (a:Addr):It:=
 ⟨λi H=>∃xs x,SqL K H a xs∧xs[i]?=aA x,λi H x H'=>∃p y,(∀xs,SqL K H a xs→xs[i]?=aA y)∧H p=none∧x=.ref p∧H'=upd H p (.tup [.int ((i+1:Nat):Int),y]),λi H=>∃xs,SqL K H a xs∧xs.length≤i⟩
theorem Ie {P:aX} {w:aZ} {K:aG} {elts:List Expr} {x1} {tpos:Pos} (a it e:Addr) (hne:e≠it) (hea:e≠a) (hai:a≠it):Turn P w K `cq (Ite1 K a) [e,it] e (λi h=>(∃old,IsEnum h e it ((i+1:Nat):Int) old)∧h.IsListIter it a i) where
 mem:=by simp
 obj:=λi h st b hb=>by
  obtain ⟨⟨old,he⟩,o',e',c',d'⟩:=st;rcases List.mem_cons.mp hb with rfl | z
  ·exact ⟨_,he,λv z=>by cases z⟩
  ·cases List.mem_singleton.mp z
   exact ⟨o',e',λv z=>by rw[d'] at z;cases z⟩
 keep:=λi h h' ⟨⟨old,he⟩,st2⟩ k=>⟨⟨old,k e `c _ he⟩,st2.at λo' e'=>k it `c o' e'⟩
 item:=by
  intro X hP hw hK hc i pins s σ H E I hf st hg;subst hP hw hK;obtain ⟨xs,x,hq,hx⟩:=hg;obtain ⟨⟨old,he⟩,st2⟩:=st;obtain ⟨its,rv,p,hz⟩:=I.list hq;obtain ⟨u,hu,ru⟩:=rv.get hx;have le:e < s.heap.objs.size:=aK he;have li:it < s.heap.objs.size:=let ⟨_,e',_⟩:=st2;aK e'
  have hil:i < its.toArray.size:=by
   have:=(List.getElem?_eq_some_iff.mp hu).1;simpa using this
  refine jJ (draws1 (A:=X.A.in1) `aH it a hai its.toArray) he ⟨i,rfl,st2,p.isList⟩ (aey hil) hne (λz=>by
   rcases List.mem_cons.mp z with z | z
   ·exact hne z
   ·exact hea `eo) λu' h1 tk hP heo hst1 ht1 hz1 hk1=>⟨_,rfl,?_⟩
  obtain ⟨j,ej,hu'⟩:=hP;cases acy ej
  obtain rfl:u'=u:=by
   have:its.toArray[i]?=aA u:=by simpa using hu
   exact aaa (hu'.symm.trans this)
  obtain ⟨j,ej,hit1,_⟩:=hst1;cases acy ej
  refine fJ heo λh2 he2 sb=>?_;have sb:bE e h1 h2:=sb;have hfr:H s.heap.objs.size=none:=I.hok.fresh (aa3 _);have I1:Inv X pins σ (upd H s.heap.objs.size `V) { s with heap:=s.heap.push { cls:=.type "tuple",data:=.seq #[.int ((i+1:Nat):Int) tk,u'] },toks:=tk+1 }:=
   I.laid (t':=tk+1) (λb o' e'=>aE _ e') (aa3 _) (show cj X.prog X.w _ _ _ `V from ⟨by show (2:Nat)≤sizeLine;decide,[.int ((i+1:Nat):Int) tk,u'],.cons ⟨_,rfl⟩ (.cons ru .nil),⟨_,aJ _ rfl,rfl,_,rfl,rfl⟩⟩)
  have nup:∀b,b < s.heap.objs.size→(upd H s.heap.objs.size `V) b=H b:=λb hb=>ah (aam hb);have fpl:∀b∈[e,it],b < s.heap.objs.size:=λb hb=>(List.mem_cons.mp hb).elim (λz=>z ▸ le) λz=>by rw[List.mem_singleton.mp z];exact li
  have I2:=Inv.tf (h':=h2) (t':=tk+1) (fp:=[e,it]) I1 (λb o' hb e'=>by
   have be:b≠e:=λz=>hb (by rw[z];exact aa6);have bi:b≠it:=λz=>hb (by rw[z];exact aa9 _ aa6);have e':(s.heap.push { cls:=.type "tuple",data:=.seq #[.int ((i+1:Nat):Int) tk,u'] }).get? b=aA o':=e';by_cases hbs:b=s.heap.objs.size
   ·subst hbs;rw[aJ _ rfl] at e';cases e'
    exact (sb.2 _ be).trans ht1
   ·rw[gF _ _ _ hbs] at e';exact (sb.2 _ be).trans (hk1 b o' be bi e')) λb hb=>by
   obtain ⟨f0,f⟩:=hf b hb;exact ⟨(nup b `dN).trans f0,f⟩
  exact ⟨.ref s.heap.objs.size,_,I2,rfl,⟨_,x,λys hy=>by rw[I.tj hy hq];exact hx,hfr,rfl,rfl⟩,⟨⟨u',he2⟩,hit1.at λo' e'=>(sb.2 _ hne.symm).trans e'⟩,λb hb=>(nup b `dN).trans (hf b hb).1⟩
 done:=by
  intro X hP hw hK hc i pins s σ H E I hf st hg;subst hP hw hK;obtain ⟨xs,hq,hx⟩:=hg;obtain ⟨⟨old,he⟩,st2⟩:=st;obtain ⟨its,rv,p,hz⟩:=I.list hq;have hl:=rv.length;obtain ⟨f0,f1,f2,f3,f4,f5⟩:=hf it `c;have hT:s.TypeIs `e5 "enumerate":=⟨_,he,rfl⟩;have hnone:its.toArray[i]?=none:=by simp;omega
  unfold cS;refine aC (dU (bK (name:=aB "__next__") hT fD (bN fD hT kL ?_ (jK _))));show aI _ _ (eL `e5 2 >>=_) _ _ _
  refine aC (bF he rfl (x:=.ref it) rfl (aC (fC `aH st2 p.isList hnone λh' x eb ⟨o,ho,hc'⟩=>aC (eF (T:="StopIteration") (b:=true) ⟨o,ho,hc'⟩ gA ?_))));exact aH ⟨rfl,I.turned (t':=s.toks) (λb o' hb e'=>eb b o' hb e') f0 f1 f3 f4 f5⟩
 self:=λ_ _ _ _ _ st h=>by
  obtain ⟨⟨old,he⟩,_⟩:=st;exact dW he h
theorem Jv {K:aG} {a:Addr} {xs:List V} {g:TG} {tb:TS} {D:Ends} {σ:St} {H:Hp} (Pv:Nat→St→Hp→Prop) (h0:Pv 0 σ H) (hl:∀i σ H,i≤xs.length→Pv i σ H→SqL K H a xs)
  (hs:∀i x σ H p,xs[i]?=aA x→Pv i σ H→H p=none→g `aW σ (upd H p `V) λσ2 H2=>tb { D with nx:=Pv (i+1),ct:=Pv (i+1),bk:=D.nx } σ2 H2) (hd:∀σ H,Pv xs.length σ H→D.nx σ H):Dc g tb D (Ite1 K a) σ H:=by
 refine ⟨λi m σ H=>m=xs.length - i∧i≤xs.length∧Pv i σ H,⟨xs.length,by simp,aai _,h0⟩,?_⟩;rintro i m σ H ⟨rfl,hi,p⟩;have q:=hl i σ H hi p;by_cases hlt:i < xs.length
 ·refine .inr ⟨⟨xs,_,q,aa2 hlt⟩,Pv (i+1),λσ' H' p'=>⟨xs.length - (i+1),by omega,rfl,hlt,p'⟩,λx H' y=>?_⟩;obtain ⟨t,v,hv,hn,rfl,rfl⟩:=y;exact hs i v σ H t (hv xs q) p hn
 ·obtain rfl:i=xs.length:=by omega
  exact .inl ⟨⟨xs,q,aa3 _⟩,hd σ H p⟩
section
variable {X:Cx}
theorem Df {M:Model} {A:bJ} {E:aD→aF→Prop} {s:aF} {env:Env} {pos:Pos} {T:String} {e:Expr} {kws:List iV} {Q:aD→aF→Prop}
  (h:aI M A (kP (cJ pos (bB [e] env))) (λvs s1=>aI M A (evalAll ((gM pos (eU kws env)).map (·.2))) (λkvs s2=>aI M A (call `du vs (((gM pos (eU kws env)).filterMap (·.1)).zip kvs)) Q E s2) E s1) E s)
  (he:cJ pos (bB [e] env)=(false,eval e env)::cJ pos (bB [] env)) (hp:(cJ pos (bB [e] env)).any (·.1)=false)
  (hall:(gM pos (eU kws env)).all (·.1.isSome)=true) (hkw:(gM pos (eU kws env)).any (·.1.isNone)=false):
  aI M A (callWith pos `du [] (cJ pos (bB [e] env)) (gM pos (eU kws env))) Q E s:=by
 unfold callWith;refine aC (bI (bM (Q:=λa s1=>aI M A (call `du a.pos a.kw) Q E s1) ?_ (λa s1 h1=>aC (iH ?_)) λ_ _ x=>x))
 ·rw[he] at h ⊢;exact evalArgs_kwB hall h
 ·simp only[hp,hkw,ady];refine aC (aH ?_);exact aC (bM h1 (λr s2 hr=>aC (bI (wpAny_point (aH hr)))) λ_ _ x=>x)
end
end L2
namespace Pc
open PySem PySem.Spec L2 PyProof.Rows
noncomputable def drwC (ns:List Int) (k:Nat):Int:=if 0 < ns.length then ns.getD (k % ns.length) 0 % 2147483629 else 0
noncomputable def drwM (ns:List Int) (k:Nat):Int:=(drwC ns k+7+91813*((k / max 1 ns.length:Nat):Int))*50021 % 2147483629
noncomputable def drw (ns:List Int) (k:Nat):Int:=drwM ns k*drwM ns k % 2147483587
theorem rb (ns:List Int) (k:Nat):0≤drw ns k:=ab8 _ `a
theorem yi (ns:List Int) (k:Nat):drw ns k < 2147483587:=abo _ `a
def jw (K:aG):Sp:=λvs H Q _=>∃(a:Addr) (ns:List Int) (k:Nat),vs=[.ref a,.int (k:Int)]∧SqL K H a `G∧ns.length≤63∧k≤1000000∧Q (.int (drw ns k)) H
theorem dc {K:aG} {a:Addr} {ns:List Int} {k:Nat} {H:Hp} {Q:VK} {E:XK} (p0:SqL K H a `G) (p1:ns.length≤63) (p2:k≤1000000) (p3:Q (.int (drw ns k)) H):jw K [.ref a,.int (k:Int)] H Q E:=⟨a,ns,k,rfl,p0,p1,p2,p3⟩
noncomputable def wPl (ns:List Int):Nat:=(drw ns 1 % 8).toNat
noncomputable def wTl (ns:List Int) (i:Nat):Nat:=if drw ns 1 / 8 % 2=1 then (drw ns (4+i) % (8 - drw ns 1 % 8)).toNat else (drw ns 2 % (8 - drw ns 1 % 8)).toNat
noncomputable def wd0 (ns:List Int) (i:Nat):Str:=u5 `cL (wPl ns)++ltr ((i:Int)+drw ns 3)++u5 `cL (wTl ns i)
noncomputable def wd (ns:List Int) (i:Nat):Str:=if wd0 ns i=aB "add" then aB "addd" else wd0 ns i
theorem Si (ns:List Int):wPl ns < 8:=by
 unfold wPl;have:=abo (drw ns 1) (show (0:Int) < 8 by decide);have:=ab8 (drw ns 1) (show (8:Int)≠0 by decide);omega
theorem O2 (ns:List Int) (i:Nat):wTl ns i < 8:=by
 unfold wTl;have h1:=abo (drw ns 1) (show (0:Int) < 8 by decide);have h2:=ab8 (drw ns 1) (show (8:Int)≠0 by decide);generalize drw ns 1 % 8=x at h1 h2;split
 ·have:=abo (drw ns (4+i)) (show (0:Int) < 8 - x by omega);omega
 ·have:=abo (drw ns 2) (show (0:Int) < 8 - x by omega);omega
theorem j8 (ns:List Int) (i:Nat):(wd0 ns i).cps.toList=abc (wPl ns) (97+(drw ns 0 % 26).toNat)++((97+(((i:Int)+drw ns 3) % 26).toNat)::abc (wTl ns i) (97+(drw ns 0 % 26).toNat)):=by
 unfold wd0;rw[Eo,Eo,wo,wo,Ck,acw];rfl
theorem Mo {x y z a b p t:Nat} (hxy:x≠y) (hyz:y≠z) (hxz:x≠z) (e:abc p a++(b::abc t a)=[x,y,z]):False:=by
 have hl:=congrArg ac2 e;rw[aa1,aa8,aba,aba] at hl;have hl:p+(t+1)=3:=hl;rcases (show p=0∨p=1∨p=2 by omega) with rfl | rfl | rfl
 ·obtain rfl:t=2:=by omega
  have e:[b,a,a]=[x,y,z]:=e;simp only[acg,and_true] at e;exact hyz (e.2.1.symm.trans e.2.2)
 ·obtain rfl:t=1:=by omega
  have e:[a,b,a]=[x,y,z]:=e;simp only[acg,and_true] at e;exact hxz (e.1.symm.trans e.2.2)
 ·obtain rfl:t=0:=by omega
  have e:[a,a,b]=[x,y,z]:=e;simp only[acg,and_true] at e;exact hxy (e.1.symm.trans e.2.1)
theorem addW:(aB "add").cps.toList=[97,100,100]∧(aB "addd").cps.toList=[97,100,100,100]:=by decide+kernel
theorem wd_at (ns:List Int) (i:Nat):(wd ns i).cps.toList[wPl ns]?=aA (97+(((i:Int)+drw ns 3) % 26).toNat):=by
 have z:(wd0 ns i).cps.toList[wPl ns]?=aA (97+(((i:Int)+drw ns 3) % 26).toNat):=by
  rw[j8,aad (by rw[aba];exact aa3 _),aba,abz];rfl
 unfold wd;by_cases c:wd0 ns i=aB "add"
 ·rw[if_pos c];have e:=j8 ns i;rw[c,addW.1] at e;rw[c,addW.1] at z;rw[addW.2];have p0:wPl ns=0:=by
   rcases ad0 (wPl ns) 3 with h | h
   ·rcases (show wPl ns=0∨wPl ns=1∨wPl ns=2 by omega) with h | h | h
    ·exact h
    ·rw[h] at e;have ht:wTl ns i=1:=by
      have hl:=congrArg ac2 e;simp at hl;omega
     rw[ht] at e;simp only[abc,ad1,aea,acg,and_true] at e;omega
    ·rw[h] at e;simp only[abc,ad1,aea,acg,and_true] at e;omega
   ·rw[abk (by exact h)] at z;cases z
  rw[p0] at z ⊢;exact z
 ·rw[if_neg c];exact z
theorem Hw {ns:List Int} {i j:Nat} (hi:i < 26) (hj:j < 26) (h:wd ns i=wd ns j):i=j:=by
 have h1:=wd_at ns i;rw[h,wd_at ns j] at h1;have h1:=aaa h1;have a1:=Sx (n:=26) `a h1;rw[Int.add_comm,Int.add_comm (i:Int)] at a1;have:=add_mod a1;omega
theorem Fv (ns:List Int) (i:Nat):nmOk `ds∧jx `ds∧(wd ns i).length≤20:=by
 have hp:=Si ns;have ht:=O2 ns i;by_cases c:wd0 ns i=aB "add"
 ·unfold wd;rw[if_pos c];refine ⟨⟨by decide+kernel,by decide+kernel,by decide+kernel⟩,⟨by decide+kernel,by decide+kernel⟩,by decide+kernel⟩
 ·have e:wd ns i=wd0 ns i:=by unfold wd;rw[if_neg c]
  rw[e];have hl:(wd0 ns i).length≤20:=by
   have:(wd0 ns i).length=(wd0 ns i).cps.toList.length:=rfl;rw[this,j8,aa1,aa8,aba,aba];omega
  have no:∀{z:Str} {x y w:Nat},z.cps.toList=[x,y,w]→x≠y→y≠w→x≠w→wd0 ns i≠z:=λhz h1 h2 h3 hw=>by
   have:=j8 ns i;rw[hw,hz] at this;exact Mo h1 h2 h3 this.symm
  refine ⟨⟨?_,?_,?_⟩,⟨λx hx=>?_,by omega⟩,hl⟩
  ·rcases adb (arS (wd0 ns i)) with g | g
   ·exact g
   ·exfalso
    rcases fk g with h | h | h | h
    ·exact c h
    ·exact no (z:=aB "sub") (x:=115) (y:=117) (w:=98) `b `a `a `a h
    ·exact no (z:=aB "mul") (x:=109) (y:=117) (w:=108) `b `a `a `a h
    ·exact no (z:=aB "neg") (x:=110) (y:=101) (w:=103) `b `a `a `a h
  ·exact λh=>no (z:=aB "any") (x:=97) (y:=110) (w:=121) `b `a `a `a (V.str.inj h)
  ·exact λh=>no (z:=aB "var") (x:=118) (y:=97) (w:=114) `b `a `a `a (V.str.inj h)
  ·rw[j8] at hx;have h26:∀x:Int,97+(x % 26).toNat < 128:=λx=>by omega
   rcases List.mem_append.mp hx with hx | hx
   ·rw[(List.mem_replicate.mp hx).2];exact h26 _
   ·rcases List.mem_cons.mp hx with hx | hx
    ·rw[hx];exact h26 _
    ·rw[(List.mem_replicate.mp hx).2];exact h26 _
def vj (K:aG):Sp:=λvs H Q _=>∃(a:Addr) (ns:List Int) (i:Nat),vs=[.ref a,.int (i:Int)]∧SqL K H a `G∧ns.length≤63∧i≤1000∧Q (.str `ds) H
theorem ye {K:aG} {a:Addr} {ns:List Int} {i:Nat} {H:Hp} {Q:VK} {E:XK} (p0:SqL K H a `G) (p1:ns.length≤63) (p2:i≤1000) (p3:Q (.str `ds) H):vj K [.ref a,.int (i:Int)] H Q E:=⟨a,ns,i,rfl,p0,p1,p2,p3⟩
def vi:Sp:=λvs H Q _=>∃c:Int,vs=[.int c]∧0≤c∧c < 2147483587∧∀(x:Int) (H':Hp),ag H H'→x.natAbs < 10 ^ 12→Q `dq H'
theorem Og {c:Int} {H:Hp} {Q:VK} {E:XK} (p0:0≤c) (p1:c < 2147483587) (p2:∀(x:Int) (H':Hp),ag H H'→x.natAbs < 10 ^ 12→Q `dq H'):vi [.int c] H Q E:=⟨c,rfl,p0,p1,p2⟩
def uv:Sp:=λvs H Q _=>∃c:Int,vs=[.int c]∧0≤c∧∀(x:Int) (H':Hp),ag H H'→1≤x→x < 1000000→Q `dq H'
theorem Hi {c:Int} {H:Hp} {Q:VK} {E:XK} (p0:0≤c) (p1:∀(x:Int) (H':Hp),ag H H'→1≤x→x < 1000000→Q `dq H'):uv [.int c] H Q E:=⟨c,rfl,p0,p1⟩
noncomputable def lab (c:Str) (n:Nat):Str:=c++Fz (.int (n:Int))
inductive Lv where
 | h (k:Str)
 | n
 | v
 | c (x:Int)
structure Cnt where
 h:Nat
 n:Nat
 v:Nat
noncomputable def c0:Cnt:=⟨0,0,0⟩
noncomputable def Lv.word:Lv→V
 | .h k=>.str k
 | .n=>gd
 | .v=>fj
 | .c x=>.int x
noncomputable def Lv.gs (l:Lv) (k:Cnt) (bx:Str):List `o:=match l with
 | .h _=>[]
 | .n=>[[.str "put",.str bx,.str (lab "n" (k.n+1))]]
 | .v=>[[.str "load",.str bx,.str (lab "v" (k.v+1))]]
 | .c x=>[[.str "put",.str bx,.int x]]
noncomputable def Lv.lbl (l:Lv) (k:Cnt) (bx:Str):Str:=match l with
 | .h _=>lab "h" (k.h+1)
 | _=>bx
noncomputable def Lv.next (l:Lv) (k:Cnt):Cnt:=match l with
 | .h _=>⟨k.h+1,k.n,k.v⟩
 | .n=>⟨k.h,k.n+1,k.v⟩
 | .v=>⟨k.h,k.n,k.v+1⟩
 | .c _=>k
def Lv.ok (kinds:List Str):Lv→Prop
 | .h k=>k∈kinds
 | .c x=>0≤x∧x < 3
 | _=>True
noncomputable def Cnt.vs (k:Cnt):List V:=[.int (k.h:Int),.int (k.n:Int),.int (k.v:Int)]
noncomputable def r9:List Str:=["add","sub","mul"]
inductive Mk (kinds:List Str):List V→List `o→Prop
 | any:Mk kinds [gd] [[.str "put",.str "out",.str "n1"]]
 | var:Mk kinds [fj] [[.str "load",.str "out",.str "v1"]]
 | neg {k:Str} (h:k∈kinds):Mk kinds [.str "neg",.str k] [[.str "neg",.str "out",.str "h1"]]
 | two {w k1 k2:Str} (hw:w∈r9) (h1:k1∈kinds) (h2:k2∈kinds):Mk kinds [.str w,.str k1,.str k2] [[.str w,.str "out",.str "h1",.str "h2"]]
 | four {k1 k2 k3 k4:Str} (h1:k1∈kinds) (h2:k2∈kinds) (h3:k3∈kinds) (h4:k4∈kinds):Mk kinds [.str "add",.str "add",.str k1,.str k2,.str "add",.str k3,.str k4] [[.str "add",.str "t1",.str "h1",.str "h2"],[.str "add",.str "t2",.str "h3",.str "h4"],[.str "add",.str "out",.str "t1",.str "t2"]]
 | zero {k:Str} (h:k∈kinds):Mk kinds [.str "mul",.int 0,.str k] [[.str "put",.str "t3",.int 1],[.str "put",.str "out",.int 0]]
 | twice {k:Str} (h:k∈kinds):Mk kinds [.str "mul",.int 2,.str k] [[.str "put",.str "t1",.int 9],[.str "add",.str "t1",.str "h1",.str "h1"],[.str "neg",.str "t1",.str "t1"],[.str "neg",.str "out",.str "t1"]]
 | vzero:Mk kinds [.str "mul",fj,.int 0] [[.str "put",.str "out",.int 0]]
 | way {k:Str} {x:Int} (h:k∈kinds) (hx:x.natAbs < 10 ^ 12):Mk kinds [.str k] [[.str "put",.str "t1",.int x],[.str "add",.str "out",.str "h1",.str "t1"],[.str "sub",.str "out",.str "out",.str "t1"]]
 | s1 {l:Lv} (h:l.ok kinds):Mk kinds [.str "neg",l.word] (l.gs c0 "t1"++[[.str "neg",.str "out",.str (l.lbl c0 "t1")]])
 | s2 {w:Str} {l m:Lv} (hw:w∈r9) (hl:l.ok kinds) (hm:m.ok kinds):Mk kinds [.str w,l.word,m.word] (l.gs c0 "t1"++m.gs `ay "t2"++[[.str w,.str "out",.str (l.lbl c0 "t1"),.str (m.lbl `ay "t2")]])
 | s3 {w o:Str} {l m r:Lv} (hw:w∈r9) (ho:o∈r9) (hl:l.ok kinds) (hm:m.ok kinds) (hr:r.ok kinds):Mk kinds [.str w,l.word,.str o,m.word,r.word] (m.gs `ay "t2"++r.gs `Q "t3"++[[.str o,.str "out",.str (m.lbl `ay "t2"),.str (r.lbl `Q "t3")]]++l.gs c0 "t1"++[[.str w,.str "out",.str (l.lbl c0 "t1"),.str "out"]])
 | s4 {w o:Str} {l m r:Lv} (hw:w∈r9) (ho:o∈r9) (hl:l.ok kinds) (hm:m.ok kinds) (hr:r.ok kinds):Mk kinds [.str w,.str o,l.word,m.word,r.word] (l.gs c0 "t1"++m.gs `ay "t2"++[[.str o,.str "out",.str (l.lbl c0 "t1"),.str (m.lbl `ay "t2")]]++r.gs `Q "t3"++[[.str w,.str "out",.str "out",.str (r.lbl `Q "t3")]])
def bp (H:Hp) (as:List Addr) (dd:List `o):Prop:=as.length=dd.length∧∀(j:Nat) (x:List V),dd[j]?=aA x→∃a,as[j]?=aA a∧H a=aA (.tup x)
theorem bp.nil (H:Hp):bp H [] []:=⟨rfl,λj d h=>by simp at h⟩
theorem bp.tk {H H':Hp} {as:List Addr} {dd:List `o} (h:bp H as dd) (s:TK H H'):bp H' as dd:=⟨h.1,λj d e=>by obtain ⟨a,a1,a2⟩:=h.2 j d e;exact ⟨a,a1,s _ _ a2⟩⟩
theorem bp.app {H:Hp} {as bs:List Addr} {ks js:List `o} (h:bp H as ks) (g:bp H bs js):bp H (as++bs) (ks++js):=by
 refine ⟨by rw[aa1,aa1,h.1,g.1],λj x hj=>?_⟩;by_cases c:j < ks.length
 ·rw[aag c] at hj;obtain ⟨a',h1,h2⟩:=h.2 j x hj;exact ⟨a',by rw[aag (by rw[h.1];exact c)];exact h1,h2⟩
 ·rw[aad (by omega)] at hj;obtain ⟨a',h1,h2⟩:=g.2 _ x hj;exact ⟨a',by rw[aad (by rw[h.1];omega),h.1];exact h1,h2⟩
theorem bp.one {H:Hp} {a:Addr} {x:List V} (h:H a=aA (.tup x)):bp H [a] [x]:=⟨rfl,λj y hj=>by
 cases j with
 | zero=>cases hj;exact ⟨a,rfl,h⟩
 | succ j=>simp at hj⟩
theorem bp.cons {H:Hp} {a:Addr} {x:List V} {as:List Addr} {dd:List `o} (h:H a=aA (.tup x)) (g:bp H as dd):bp H (a::as) (x::dd):=(bp.one h).app g
def du (H:Hp) (da:Addr) (dd:List `o):Prop:=∃as:List Addr,H da=aA (.tup (as.map V.ref))∧bp H as dd
theorem du.tk {H H':Hp} {da:Addr} {dd:List `o} (h:du H da dd) (s:TK H H'):du H' da dd:=by
 obtain ⟨as,h1,h2⟩:=h;exact ⟨as,s _ _ h1,h2.tk s⟩
def Pe (H:Hp) (t:Addr) (l:Lv) (k:Cnt) (bx:Str):Prop:=∃da:Addr,H t=aA (.tup [l.word,.ref da,.str (l.lbl k bx)])∧du H da (l.gs k bx)
def jy (H:Hp) (t:Addr) (sh:List V) (dd:List `o):Prop:=∃sa da:Addr,H t=aA `eF∧H sa=aA (.tup sh)∧du H da dd
theorem jy.tk {H H':Hp} {t:Addr} {sh:List V} {dd:List `o} (h:jy H t sh dd) (s:TK H H'):jy H' t sh dd:=by
 obtain ⟨sa,da,h1,h2,h3⟩:=h;exact ⟨sa,da,s _ _ h1,s _ _ h2,h3.tk s⟩
def xm:Sp:=λvs H Q _=>∃(c:Int) (kl sn:Addr) (bx:Str) (kinds:List Str) (k:Cnt),vs=[.int c,.ref kl,.ref sn,.str bx]∧H kl=aA `eI∧H sn=aA (.lst k.vs)∧1≤kinds.length∧k.h≤9∧k.n≤9∧k.v≤9∧∀(l:Lv) (t:Addr) (H':Hp),l.ok kinds→gu sn H H'→H' sn=aA (.lst (l.next k).vs)→Pe H' t l k bx→Q `I H'
theorem En {c:Int} {kl sn:Addr} {bx:Str} {kinds:List Str} {k:Cnt} {H:Hp} {Q:VK} {E:XK} (p0:H kl=aA `eI) (p1:H sn=aA (.lst k.vs)) (p2:1≤kinds.length) (p3:k.h≤9) (p4:k.n≤9) (p5:k.v≤9) (p6:∀(l:Lv) (t:Addr) (H':Hp),l.ok kinds→gu sn H H'→H' sn=aA (.lst (l.next k).vs)→Pe H' t l k bx→Q `I H'):xm [.int c,.ref kl,.ref sn,.str bx] H Q E:=⟨c,kl,sn,bx,kinds,k,rfl,p0,p1,p2,p3,p4,p5,p6⟩
def t4:Sp:=λvs H Q _=>∃(c m:Int) (kl:Addr) (kinds:List Str),vs=[.int c,.int m,.ref kl]∧H kl=aA `eI∧1≤kinds.length∧0≤c∧c < 2147483587∧0≤m∧m < 2147483587∧∀(t:Addr) (sh:List V) (dd:List `o) (H':Hp),Mk kinds sh dd→ag H H'→jy H' t sh dd→Q `I H'
theorem Q0 {c m:Int} {kl:Addr} {kinds:List Str} {H:Hp} {Q:VK} {E:XK} (p0:H kl=aA `eI) (p1:1≤kinds.length) (p2:0≤c) (p3:c < 2147483587) (p4:0≤m) (p5:m < 2147483587) (p6:∀(t:Addr) (sh:List V) (dd:List `o) (H':Hp),Mk kinds sh dd→ag H H'→jy H' t sh dd→Q `I H'):t4 [.int c,.int m,.ref kl] H Q E:=⟨c,m,kl,kinds,rfl,p0,p1,p2,p3,p4,p5,p6⟩
theorem catD {H:Hp} {a b:Addr} {d1 d2:List `o} {Q:VK} (h1:du H a d1) (h2:du H b d2) (hz:d1.length+d2.length≤1000) (q:∀(p:Addr) (H':Hp),ag H H'→du H' p (d1++d2)→Q `aW H'):Le `p `aJ H Q:=by
 obtain ⟨as,a1,a2⟩:=h1;obtain ⟨bs,b1,b2⟩:=h2;have sz:=aV;refine jj a1 b1 (by rw[aa0,aa0,a2.1,b2.1];omega) λp H' s hp=>q p H' s ⟨as++bs,by rw[aab];exact hp,(a2.app b2).tk (TK.of s)⟩
theorem C4 {H:Hp} {a:Addr} {dd:List `o} {deed:List V} {Q:VK} (h:du H a dd) (hl:deed.length≤10) (hz:dd.length≤100) (q:∀(p:Addr) (H':Hp),ag H H'→du H' p (dd++[deed])→Q `aW H'):deed.length≤sizeLine∧∀p2,H p2=none→[V.ref p2].length≤sizeLine∧∀p3,upd H p2 `dY p3=none→Le `p (.ref p3) (upd (upd H p2 `dY) p3 (.tup [.ref p2])) Q:=by
 have sz:=aV;refine ⟨by omega,λp2 hp2=>⟨by show (1:Nat)≤_;omega,λp3 hp3=>?_⟩⟩;have s2:=ab hp2 `dY;have s3:=ab hp3 (.tup [.ref p2]);have s:=s2.trans s3;exact catD (h.tk (TK.of s)) ⟨[p2],aa,bp.one (s3 _ _ aa)⟩ (by show _+1≤_;omega) λp H' s' hp=>q p H' (s.trans s') hp
theorem J5 {H:Hp} {sa da:Addr} {sh:List V} {dd:List `o} {Q:VK} (h1:H sa=aA (.tup sh)) (h2:du H da dd) (q:∀(t:Addr) (H':Hp),ag H H'→jy H' t sh dd→Q `I H'):[V.ref sa,V.ref da].length≤sizeLine∧∀p,H p=none→Q `aW (upd H p `eF):=by
 refine ⟨by show (2:Nat)≤sizeLine;decide,λp hp=>?_⟩;have s:=ab hp `eF;exact q p _ s ⟨sa,da,aa,s _ _ h1,h2.tk (TK.of s)⟩
theorem Lv.bq (l:Lv) (k:Cnt) (bx:Str):(l.gs k bx).length≤1:=by
 cases l <;> simp[Lv.gs]
theorem Lv.gp (l:Lv) {k:Cnt} {n:Nat} (h1:k.h≤n) (h2:k.n≤n) (h3:k.v≤n):(l.next k).h≤n+1∧(l.next k).n≤n+1∧(l.next k).v≤n+1:=by
 cases l <;> simp only[Lv.next] <;> omega
theorem N8 (x:Int):∃w:Str,atI [V.str `h,V.str `D,V.str `u] (x % 3)=aA (.str w)∧w∈r9:=by
 rcases (show x % 3=((0:Nat):Int)∨x % 3=((1:Nat):Int)∨x % 3=((2:Nat):Int) by omega) with e | e | e
 ·exact ⟨"add",by rw[e];exact bb rfl,by decide+kernel⟩
 ·exact ⟨"sub",by rw[e];exact bb rfl,by decide+kernel⟩
 ·exact ⟨"mul",by rw[e];exact bb rfl,by decide+kernel⟩
theorem Dx {H:Hp} {deed:List V} {w:V} {bx:Str} {Q:VK} (hl:deed.length≤10) (q:∀(t:Addr) (H':Hp),ag H H'→(∃da:Addr,H' t=aA (.tup [w,.ref da,.str bx])∧du H' da [deed])→Q `I H'):deed.length≤sizeLine∧∀p,H p=none→[V.ref p].length≤sizeLine∧∀p1,upd H p `dY p1=none→[w,V.ref p1,V.str bx].length≤sizeLine∧∀p2,upd (upd H p `dY) p1 (.tup [.ref p]) p2=none→Q (.ref p2) (upd (upd (upd H p `dY) p1 (.tup [.ref p])) p2 (.tup [w,.ref p1,.str bx])):=by
 have sz:=aV;refine ⟨by omega,λp hp=>⟨by show (1:Nat)≤_;omega,λp1 hp1=>⟨by show (3:Nat)≤_;omega,λp2 hp2=>?_⟩⟩⟩;have s1:=ab hp `dY;have s2:=ab hp1 (.tup [.ref p]);have s3:=ab hp2 (.tup [w,.ref p1,.str bx]);exact q p2 _ (s1.trans (s2.trans s3)) ⟨p1,aa,[p],s3 _ _ aa,bp.one ((s2.trans s3) _ _ aa)⟩
abbrev Md:=List V×List `o
def cq (H:Hp) (as:List Addr) (ms:List Md):Prop:=as.length=ms.length∧∀(j:Nat) (x:Md),ms[j]?=aA x→∃a,as[j]?=aA a∧jy H a x.1 x.2
theorem cq.nil (H:Hp):cq H [] []:=⟨rfl,λj d h=>by simp at h⟩
theorem cq.tk {H H':Hp} {as:List Addr} {ms:List Md} (h:cq H as ms) (s:TK H H'):cq H' as ms:=⟨h.1,λj d e=>by obtain ⟨a,a1,a2⟩:=h.2 j d e;exact ⟨a,a1,a2.tk s⟩⟩
theorem cq.app {H:Hp} {as bs:List Addr} {ks js:List Md} (h:cq H as ks) (g:cq H bs js):cq H (as++bs) (ks++js):=by
 refine ⟨by rw[aa1,aa1,h.1,g.1],λj x hj=>?_⟩;by_cases c:j < ks.length
 ·rw[aag c] at hj;obtain ⟨a',h1,h2⟩:=h.2 j x hj;exact ⟨a',by rw[aag (by rw[h.1];exact c)];exact h1,h2⟩
 ·rw[aad (by omega)] at hj;obtain ⟨a',h1,h2⟩:=g.2 _ x hj;exact ⟨a',by rw[aad (by rw[h.1];omega),h.1];exact h1,h2⟩
theorem cq.one {H:Hp} {a:Addr} {x:Md} (h:jy H a x.1 x.2):cq H [a] [x]:=⟨rfl,λj y hj=>by
 cases j with
 | zero=>cases hj;exact ⟨a,rfl,h⟩
 | succ j=>simp at hj⟩
def x5 (K:aG):Sp:=λvs H Q _=>∃(a kl:Addr) (ns:List Int) (kinds:List Str),vs=[.ref a,.ref kl]∧SqL K H a `G∧ns.length≤63∧H kl=aA `eI∧1≤kinds.length∧∀(l:Addr) (as:List Addr) (ms:List Md) (H':Hp),ag H H'→H l=none→H' l=aA `e→cq H' as ms→ms.length≤4→(∀x∈ms,Mk kinds x.1 x.2)→Q `B H'
theorem Vr {K:aG} {a kl:Addr} {ns:List Int} {kinds:List Str} {H:Hp} {Q:VK} {E:XK} (p0:SqL K H a `G) (p1:ns.length≤63) (p2:H kl=aA `eI) (p3:1≤kinds.length) (p4:∀(l:Addr) (as:List Addr) (ms:List Md) (H':Hp),ag H H'→H l=none→H' l=aA `e→cq H' as ms→ms.length≤4→(∀x∈ms,Mk kinds x.1 x.2)→Q `B H'):x5 K [.ref a,.ref kl] H Q E:=⟨a,kl,ns,kinds,rfl,p0,p1,p2,p3,p4⟩
abbrev Rd:=Rl×List `o
def jo (H:Hp) (a:Addr) (r:Rd):Prop:=∃sa da:Addr,H a=aA (.tup [.str r.1.name,.str r.1.kind,.int r.1.price,.ref sa,.ref da])∧H sa=aA (.tup r.1.shape)∧du H da r.2
theorem jo.tk {H H':Hp} {a:Addr} {r:Rd} (h:jo H a r) (s:TK H H'):jo H' a r:=by
 obtain ⟨sa,da,h1,h2,h3⟩:=h;exact ⟨sa,da,s _ _ h1,s _ _ h2,h3.tk s⟩
theorem jo.rule {H:Hp} {a:Addr} {r:Rd} (h:jo H a r):oh H a r.1:=by
 obtain ⟨sa,da,h1,h2,as,h3,_⟩:=h;exact ⟨sa,da,_,h1,h2,h3⟩
def ck (H:Hp) (ra:List Addr) (rs:List Rd):Prop:=ra.length=rs.length∧∀(i:Nat) (r:Rd),rs[i]?=aA r→∃a,ra[i]?=aA a∧jo H a r
theorem ck.nil (H:Hp):ck H [] []:=⟨rfl,λj d h=>by simp at h⟩
theorem ck.tk {H H':Hp} {ra:List Addr} {rs:List Rd} (h:ck H ra rs) (s:TK H H'):ck H' ra rs:=⟨h.1,λj d e=>by obtain ⟨a,a1,a2⟩:=h.2 j d e;exact ⟨a,a1,a2.tk s⟩⟩
theorem ck.app {H:Hp} {as bs:List Addr} {ks js:List Rd} (h:ck H as ks) (g:ck H bs js):ck H (as++bs) (ks++js):=by
 refine ⟨by rw[aa1,aa1,h.1,g.1],λj x hj=>?_⟩;by_cases c:j < ks.length
 ·rw[aag c] at hj;obtain ⟨a',h1,h2⟩:=h.2 j x hj;exact ⟨a',by rw[aag (by rw[h.1];exact c)];exact h1,h2⟩
 ·rw[aad (by omega)] at hj;obtain ⟨a',h1,h2⟩:=g.2 _ x hj;exact ⟨a',by rw[aad (by rw[h.1];omega),h.1];exact h1,h2⟩
theorem ck.one {H:Hp} {a:Addr} {x:Rd} (h:jo H a x):ck H [a] [x]:=⟨rfl,λj y hj=>by
 cases j with
 | zero=>cases hj;exact ⟨a,rfl,h⟩
 | succ j=>simp at hj⟩
theorem ck.drop {H:Hp} {as:List Addr} {ks:List Rd} (h:ck H as ks) (n:Nat):ck H (as.drop n) (ks.drop n):=⟨by rw[aau,aau,h.1],λj x hj=>by
 rw[List.getElem?_drop] at hj ⊢;exact h.2 _ x hj⟩
theorem ck.take {H:Hp} {as:List Addr} {ks:List Rd} (h:ck H as ks) (n:Nat):ck H (as.take n) (ks.take n):=⟨by rw[ab1,ab1,h.1],λj x hj=>by
 have hl:=(List.getElem?_eq_some_iff.mp hj).1;rw[ab1] at hl;rw[ad8 (by omega)] at hj ⊢;exact h.2 _ x hj⟩
theorem ck.rules {H:Hp} {ra:List Addr} {rs:List Rd} (h:ck H ra rs):qe H ra (rs.map (·.1)):=⟨by rw[aa0];exact h.1,λi r hr=>by
 rw[aa5] at hr;obtain ⟨x,hx,rfl⟩:=Option.map_eq_some_iff.mp hr;obtain ⟨a,a1,a2⟩:=h.2 i x hx;exact ⟨a,a1,a2.rule⟩⟩
def fc (H:Hp) (b:Addr) (kinds:List Str) (rs:List Rd):Prop:=∃(kt rt:Addr) (ra:List Addr),H b=aA `cX∧H kt=aA (.tup `i)∧H rt=aA (.tup `bO)∧ck H ra rs
theorem fc.tk {H H':Hp} {b:Addr} {kinds:List Str} {rs:List Rd} (h:fc H b kinds rs) (s:TK H H'):fc H' b kinds rs:=by
 obtain ⟨kt,rt,ra,h1,h2,h3,h4⟩:=h;exact ⟨kt,rt,ra,s _ _ h1,s _ _ h2,s _ _ h3,h4.tk s⟩
theorem fc.same {H H':Hp} {b:Addr} {kinds:List Str} {rs:List Rd} (h:fc H b kinds rs) (s:ag H H'):fc H' b kinds rs:=h.tk (TK.of s)
theorem fc.book {H:Hp} {b:Addr} {kinds:List Str} {rs:List Rd} (h:fc H b kinds rs):qt H b kinds (rs.map (·.1)):=by
 obtain ⟨kt,rt,ra,h1,h2,h3,h4⟩:=h;exact ⟨kt,rt,ra,h1,h2,h3,h4.rules⟩
structure Bd (ns:List Int) (kinds:List Str) (rs:List Rd):Prop where
 bk:Bk kinds (rs.map (·.1))
 md:∀r∈rs,Mk kinds r.1.shape r.2
 k3:kinds.length≤3
 k1:1≤kinds.length
 r1:1≤rs.length
 r20:rs.length≤17
 kw:∀z∈kinds,∃i,i < 3∧z=wd ns i
 rw:∀r∈rs,∃i,i < 17∧r.1.name=wd ns (3+i)
def ya (K:aG):Sp:=λvs H Q _=>∃(a:Addr) (ns:List Int),vs=[.ref a]∧SqL K H a `G∧ns.length≤63∧∀(bt:Addr) (kinds:List Str) (rs:List Rd) (H':Hp),ag H H'→fc H' bt kinds rs→Bd ns kinds rs→Q (.ref bt) H'
theorem Vv {K:aG} {a:Addr} {ns:List Int} {H:Hp} {Q:VK} {E:XK} (p0:SqL K H a `G) (p1:ns.length≤63) (p2:∀(bt:Addr) (kinds:List Str) (rs:List Rd) (H':Hp),ag H H'→fc H' bt kinds rs→Bd ns kinds rs→Q (.ref bt) H'):ya K [.ref a] H Q E:=⟨a,ns,rfl,p0,p1,p2⟩
def Bh (ns:List Int) (kinds:List Str) (rs:List Rd):Prop:=∀(i:Nat) (r:Rd),rs[i]?=aA r→r.1.name=wd ns (3+i)∧r.1.kind∈kinds∧1≤r.1.price∧Mk kinds r.1.shape r.2
theorem Bh.nil (ns:List Int) (kinds:List Str):Bh ns kinds []:=λi r h=>by simp at h
theorem Bh.snoc {ns:List Int} {kinds:List Str} {rs:List Rd} (h:Bh ns kinds rs) {r:Rd} (h1:r.1.name=wd ns (3+rs.length)) (h2:r.1.kind∈kinds) (h3:1≤r.1.price) (h4:Mk kinds r.1.shape r.2):Bh ns kinds (rs++[r]):=λi x hx=>by
 by_cases c:i < rs.length
 ·rw[aag c] at hx;exact h i x hx
 ·have hl:=(List.getElem?_eq_some_iff.mp hx).1;rw[aa1,aa4] at hl;obtain rfl:i=rs.length:=by omega
  rw[aad (aa3 _),abz] at hx;cases hx
  exact ⟨h1,h2,h3,h4⟩
theorem Lv.wOk {kinds:List Str} (hk:Kinds kinds) {l:Lv} (h:l.ok kinds):isW l.word∧arV l.word=0:=by
 cases l with
 | h k=>exact ⟨⟨.inr k,rfl⟩,(hk k h).1⟩
 | n=>exact ⟨⟨.inr _,rfl⟩,yh⟩
 | v=>exact ⟨⟨.inr _,rfl⟩,we⟩
 | c x=>exact ⟨⟨.inl x,rfl⟩,rfl⟩
theorem oa {w:Str} (h:w∈r9):arV (.str w)=2:=by
 have a:∀w∈r9,arV (.str w)=2:=by decide+kernel
 exact a w h
theorem Mk.sh {kinds:List Str} (hk:Kinds kinds) {sh:List V} {dd:List `o} (h:Mk kinds sh dd):(∀v∈sh,isW v)∧isTerm sh∧sh.length≤7:=by
 have st:∀z:Str,isW `J:=λz=>⟨.inr z,rfl⟩;have it:∀x:Int,isW `dq:=λx=>⟨.inl x,rfl⟩;have k0:∀{k:Str},k∈kinds→arV (.str k)=0:=λh=>(hk _ h).1;have ng:arV (.str "neg")=1:=by decide+kernel
 have ad:arV (.str "add")=2:=by decide+kernel
 have mu:arV (.str "mul")=2:=by decide+kernel
 have i0:∀x:Int,arV `dq=0:=λ_=>rfl;have aw:isW gd:=⟨.inr _,rfl⟩;have vw:isW fj:=⟨.inr _,rfl⟩;cases h with
 | any=>exact ⟨by simp[aw],by unfold isTerm;simp only[aas,abg,yh];rfl,by decide⟩
 | var=>exact ⟨by simp[vw],by unfold isTerm;simp only[aas,abg,we];rfl,by decide⟩
 | neg h=>exact ⟨by simp[st],by unfold isTerm;simp only[aas,abg,ng,k0 h];rfl,by simp⟩
 | two hw h1 h2=>exact ⟨by simp[st],by unfold isTerm;simp only[aas,abg,oa hw,k0 h1,k0 h2];rfl,by simp⟩
 | four h1 h2 h3 h4=>exact ⟨by simp[st],by unfold isTerm;simp only[aas,abg,ad,k0 h1,k0 h2,k0 h3,k0 h4];rfl,by simp⟩
 | zero h=>exact ⟨by simp[st,it],by unfold isTerm;simp only[aas,abg,mu,i0,k0 h];rfl,by simp⟩
 | twice h=>exact ⟨by simp[st,it],by unfold isTerm;simp only[aas,abg,mu,i0,k0 h];rfl,by simp⟩
 | vzero=>exact ⟨by simp[st,it,vw],by unfold isTerm;simp only[aas,abg,mu,i0,we];rfl,by simp⟩
 | way h hx=>exact ⟨by simp[st],by unfold isTerm;simp only[aas,abg,k0 h];rfl,by simp⟩
 | s1 h=>exact ⟨by simp[st,(Lv.wOk hk h).1],by unfold isTerm;simp only[aas,abg,ng,(Lv.wOk hk h).2];rfl,by simp⟩
 | s2 hw hl hm=>exact ⟨by simp[st,(Lv.wOk hk hl).1,(Lv.wOk hk hm).1],by unfold isTerm;simp only[aas,abg,oa hw,(Lv.wOk hk hl).2,(Lv.wOk hk hm).2];rfl,by simp⟩
 | s3 hw ho hl hm hr=>exact ⟨by simp[st,(Lv.wOk hk hl).1,(Lv.wOk hk hm).1,(Lv.wOk hk hr).1],by unfold isTerm;simp only[aas,abg,oa hw,oa ho,(Lv.wOk hk hl).2,(Lv.wOk hk hm).2,(Lv.wOk hk hr).2];rfl,by simp⟩
 | s4 hw ho hl hm hr=>exact ⟨by simp[st,(Lv.wOk hk hl).1,(Lv.wOk hk hm).1,(Lv.wOk hk hr).1],by unfold isTerm;simp only[aas,abg,oa hw,oa ho,(Lv.wOk hk hl).2,(Lv.wOk hk hm).2,(Lv.wOk hk hr).2];rfl,by simp⟩
theorem bd_of {ns:List Int} {mk:Nat} {rs:List Rd} (h1:1≤mk) (h3:mk≤3) (R:Bh ns ((abh mk).map (wd ns)) rs) (r1:1≤rs.length) (r17:rs.length≤17) (k:Nat):Bd ns ((abh mk).map (wd ns)) (rs.drop k++rs.take k):=by
 have kd:Kinds ((abh mk).map (wd ns)):=λz hz=>by
  obtain ⟨i,_,rfl⟩:=List.mem_map.mp hz;exact (Fv ns i).1
 have hp:(rs.drop k++rs.take k).Perm rs:=List.perm_append_comm.trans (by rw[adk]);have at':∀r∈rs.drop k++rs.take k,∃i,i < rs.length∧rs[i]?=aA r:=λr hr=>by
  obtain ⟨i,hi⟩:=List.mem_iff_getElem?.mp (hp.mem_iff.mp hr);exact ⟨i,(List.getElem?_eq_some_iff.mp hi).1,hi⟩
 refine ⟨⟨kd,?_,λr hr=>?_,?_,?_,?_,λr hr=>?_,λr hr=>?_⟩,λr hr=>?_,?_,?_,?_,?_,λz hz=>?_,λr hr=>?_⟩
 ·rw[abd];refine (hp.map _).nodup_iff.mpr ?_;refine List.pairwise_iff_getElem.mpr λi j hi hj hij ez=>?_;rw[aa0] at hi hj;rw[aez,aez] at ez;have e1:=(R i _ (aa2 hi)).1;have e2:=(R j _ (aa2 hj)).1;have ez:rs[i].1.name=rs[j].1.name:=ez;rw[e1,e2] at ez;have:=Hw (by omega) (by omega) ez;omega
 ·obtain ⟨x,hx,rfl⟩:=List.mem_map.mp hr;obtain ⟨i,_,hi⟩:=at' x hx;obtain ⟨a,b,c⟩:=(R i x hi).2.2.2.sh kd;exact ⟨a,b,by omega⟩
 ·rw[aa0,hp.length_eq];omega
 ·refine List.pairwise_map.mpr (ae6 ?_ List.nodup_range);intro a b ha hb n e;have:=List.mem_range.mp ha;have:=List.mem_range.mp hb;exact n (Hw (by omega) (by omega) e)
 ·rw[aa0,abw];omega
 ·obtain ⟨x,hx,rfl⟩:=List.mem_map.mp hr;obtain ⟨i,_,hi⟩:=at' x hx;exact (R i x hi).2.2.1
 ·obtain ⟨x,hx,rfl⟩:=List.mem_map.mp hr;obtain ⟨i,_,hi⟩:=at' x hx;exact (R i x hi).2.1
 ·obtain ⟨i,_,hi⟩:=at' r hr;exact (R i r hi).2.2.2
 ·rw[aa0,abw];omega
 ·rw[aa0,abw];omega
 ·rw[hp.length_eq];omega
 ·rw[hp.length_eq];omega
 ·obtain ⟨i,hi,rfl⟩:=List.mem_map.mp hz;exact ⟨i,by have:=List.mem_range.mp hi;omega,rfl⟩
 ·obtain ⟨i,hl,hi⟩:=at' r hr;exact ⟨i,by omega,(R i r hi).1⟩
theorem wc {H1 HA HB:Hp} {ml t:Addr} {as:List Addr} {ms:List Md} {sh:List V} {dd:List `o} {Q:VK} (fml:H1 ml=none) (sA:ag H1 HA) (mA:HA ml=aA `e) (MA:cq HA as ms) (lA:ms.length≤50) (sB:ag HA HB) (hM:jy HB t sh dd) (q:∀H',ag H1 H'→H' ml=aA (.lst ((as++[t]).map V.ref))→cq H' (as++[t]) (ms++[(sh,dd)])→(∀b o,b≠ml→HB b=aA o→H' b=aA o)→Q .non H'):ou (.ref ml) [.ref t] HB Q:=by
 have sz:=aV;have mB:=sB _ _ mA;have al:=MA.1;have tk:TK HB (upd HB ml `U):=TK.put mB (λ_ z=>nomatch z);exact ⟨ml,_,_,rfl,rfl,mB,by rw[aa0];omega,q _ ((sA.trans sB).upd fml _) (by rw[aa,aab];rfl) (((MA.tk (TK.of sB)).app (cq.one hM)).tk tk) λb o ne h=>by rw[ah ne];exact h⟩
theorem Bq {H1 HA HB:Hp} {rl t:Addr} {ra:List Addr} {rs:List Rd} {r:Rd} {Q:VK} (frl:H1 rl=none) (sA:ag H1 HA) (mA:HA rl=aA (.lst `bO)) (RA:ck HA ra rs) (lA:rs.length≤50) (sB:ag HA HB) (hR:jo HB t r) (q:∀H',ag H1 H'→H' rl=aA (.lst ((ra++[t]).map V.ref))→ck H' (ra++[t]) (rs++[r])→(∀b o,b≠rl→HB b=aA o→H' b=aA o)→Q .non H'):ou `da [.ref t] HB Q:=by
 have sz:=aV;have mB:=sB _ _ mA;have al:=RA.1;have tk:TK HB (upd HB rl (.lst (ra.map V.ref++[V.ref t]))):=TK.put mB (λ_ z=>nomatch z);exact ⟨rl,_,_,rfl,rfl,mB,by rw[aa0];omega,q _ ((sA.trans sB).upd frl _) (by rw[aa,aab];rfl) (((RA.tk (TK.of sB)).app (ck.one hR)).tk tk) λb o ne h=>by rw[ah ne];exact h⟩
theorem Ja {kinds:List Str} {ms:List Md} {sh:List V} {dd:List `o} (h:∀x∈ms,Mk kinds x.1 x.2) (g:Mk kinds sh dd):∀x∈ms++[(sh,dd)],Mk kinds x.1 x.2:=λx hx=>by
 rcases List.mem_append.mp hx with hx | hx
 ·exact h x hx
 ·rw[List.mem_singleton.mp hx];exact g
def WdF (ns:List Int) (v:V):Prop:=(∃x:Int,v=.int x∧x.natAbs < 10 ^ 12)∨(∃i,i∈[21,22,0,4]∧v=.str `ds)∨0 < arV v
def x8 (K:aG):Sp:=λvs H Q _=>∃(a:Addr) (ns:List Int) (p m:Nat),vs=[.ref a,.int (p:Int),.int (m:Int)]∧SqL K H a `G∧ns.length≤63∧p≤1000∧1≤m∧m≤100∧∀(t:Addr) (H':Hp) (ws:List V),ag H H'→H' t=aA `a3→Tw ws→ws.length≤m+2→(∀v∈ws,WdF ns v)→Q `I H'
theorem Tt {K:aG} {a:Addr} {ns:List Int} {p m:Nat} {H:Hp} {Q:VK} {E:XK} (p0:SqL K H a `G) (p1:ns.length≤63) (p2:p≤1000) (p3:1≤m) (p4:m≤100) (p5:∀(t:Addr) (H':Hp) (ws:List V),ag H H'→H' t=aA `a3→Tw ws→ws.length≤m+2→(∀v∈ws,WdF ns v)→Q `I H'):x8 K [.ref a,.int (p:Int),.int (m:Int)] H Q E:=⟨a,ns,p,m,rfl,p0,p1,p2,p3,p4,p5⟩
def Dn:Sp:=λvs H Q _=>∃(t:Addr) (ws:List V) (p:Nat),vs=[.ref t,.int (p:Int)]∧H t=aA `a3∧Tw ws∧p < ws.length∧∀H',ag H H'→Q (.int (endAt ws p:Nat)) H'
theorem mkEndF {t:Addr} {ws:List V} {p:Nat} {H:Hp} {Q:VK} {E:XK} (p0:H t=aA `a3) (p1:Tw ws) (p2:p < ws.length) (p3:∀H',ag H H'→Q (.int (endAt ws p:Nat)) H'):Dn [.ref t,.int (p:Int)] H Q E:=⟨t,ws,p,rfl,p0,p1,p2,p3⟩
def Di:Sp:=λvs H Q _=>∃(kt st wt:Addr) (kinds:List Str) (sh ws:List V) (p:Nat),vs=[.ref kt,.ref st,.ref wt,.int (p:Int)]∧H kt=aA (.tup `i)∧H st=aA (.tup sh)∧H wt=aA `a3∧Kinds kinds∧(∀v∈sh,isW v)∧isTerm sh∧sh.length≤100∧Tw ws∧p < ws.length∧∀H',ag H H'→told `bK H' Q
theorem mkFitF {kt st wt:Addr} {kinds:List Str} {sh ws:List V} {p:Nat} {H:Hp} {Q:VK} {E:XK} (p0:H kt=aA (.tup `i)) (p1:H st=aA (.tup sh)) (p2:H wt=aA `a3) (p3:Kinds kinds) (p4:∀v∈sh,isW v) (p5:isTerm sh) (p6:sh.length≤100) (p7:Tw ws) (p8:p < ws.length) (p9:∀H',ag H H'→told `bK H' Q):Di [.ref kt,.ref st,.ref wt,.int (p:Int)] H Q E:=⟨kt,st,wt,kinds,sh,ws,p,rfl,p0,p1,p2,p3,p4,p5,p6,p7,p8,p9⟩
def ux:Sp:=λvs H Q _=>∃(b ra kt rt:Addr) (kinds:List Str) (r:Rl),vs=[.ref b,.ref ra]∧H b=aA `cX∧H kt=aA (.tup `i)∧oh H ra r∧(∀v∈r.shape,isW v)∧r.shape.length≤100∧∀(l:Addr) (H':Hp),ag H H'→H l=none→H' l=aA (.lst ((ak kinds r.shape).map V.str))→Q `B H'
theorem Pg {b ra kt rt:Addr} {kinds:List Str} {r:Rl} {H:Hp} {Q:VK} {E:XK} (p0:H b=aA `cX) (p1:H kt=aA (.tup `i)) (p2:oh H ra r) (p3:∀v∈r.shape,isW v) (p4:r.shape.length≤100) (p5:∀(l:Addr) (H':Hp),ag H H'→H l=none→H' l=aA (.lst ((ak kinds r.shape).map V.str))→Q `B H'):ux [.ref b,.ref ra] H Q E:=⟨b,ra,kt,rt,kinds,r,rfl,p0,p1,p2,p3,p4,p5⟩
def qh (H:Hp) (l1 l2 l3:Addr) (u:Und):Prop:=H l1=aA (.lst `eh)∧H l2=aA (.lst u.ns)∧H l3=aA (.lst u.vs)
theorem qh.same {H H':Hp} {l1 l2 l3:Addr} {u:Und} (h:qh H l1 l2 l3 u) (s:ag H H'):qh H' l1 l2 l3 u:=⟨s _ _ h.1,s _ _ h.2.1,s _ _ h.2.2⟩
theorem qh.put1 {H:Hp} {l1 l2 l3:Addr} {u:Und} (h:qh H l1 l2 l3 u) (n21:l2≠l1) (n31:l3≠l1) (p:Nat) (x:V):qh (upd H l1 (.lst (u.hs.map plV++[plV p]))) l1 l2 l3 (u.put lH p x):=by
 unfold Und.put;rw[if_pos rfl];refine ⟨?_,by rw[ah n21];exact h.2.1,by rw[ah n31];exact h.2.2⟩;rw[aa,aab];rfl
theorem qh.put2 {H:Hp} {l1 l2 l3:Addr} {u:Und} (h:qh H l1 l2 l3 u) (n21:l2≠l1) (n32:l3≠l2) (p:Nat) (x:V):qh (upd H l2 (.lst (u.ns++[x]))) l1 l2 l3 (u.put lN p x):=by
 unfold Und.put;rw[if_neg lets.1,if_pos rfl];exact ⟨by rw[ah n21.symm];exact h.1,aa,by rw[ah n32];exact h.2.2⟩
theorem qh.put3 {H:Hp} {l1 l2 l3:Addr} {u:Und} (h:qh H l1 l2 l3 u) (n31:l3≠l1) (n32:l3≠l2) (p:Nat) (x:V):qh (upd H l3 (.lst (u.vs++[x]))) l1 l2 l3 (u.put lV p x):=by
 unfold Und.put;rw[if_neg lets.2.1,if_neg lets.2.2.2.1,if_pos rfl];exact ⟨by rw[ah n31.symm];exact h.1,by rw[ah n32.symm];exact h.2.1,aa⟩
theorem ar_sum {x:V} (hx:isW x) (c:Nat):((c:Int)+1 - 1+2*(if inV x [V.str `h,V.str `D,V.str `u]=true then 1 else 0)+if x=V.str `w then 1 else 0)=((c+arV x:Nat):Int):=by
 have h3:(inV x [V.str `h,V.str `D,V.str `u]=true)↔arV x=2:=Ft hx;by_cases c2:arV x=2
 ·have hn:¬x=V.str `w:=λe=>by
   rw[e] at c2;exact absurd c2 `b
  rw[if_pos (h3.mpr c2),if_neg hn,c2];omega
 ·rw[if_neg λe=>c2 (h3.mp e)];have h1:x=V.str `w↔arV x=1:=neg_is hx c2;have:=Rk x;by_cases c1:arV x=1
  ·rw[if_pos (h1.mpr c1),c1];omega
  ·rw[if_neg λe=>c1 (h1.mp e),show arV x=0 by omega];omega
theorem iteOr {A B P1 P2 X Y:Prop} [Decidable A] [Decidable B] (p1:P1) (p2:P2) (h:X) (h2:¬A→¬B→Y):if A then X else P1∧P2∧if B then X else Y:=by
 by_cases a:A
 ·rw[if_pos a];exact h
 ·rw[if_neg a];refine ⟨p1,p2,?_⟩;by_cases b:B
  ·rw[if_pos b];exact h
  ·rw[if_neg b];exact h2 a b
theorem two_out {v:V} (hv:isW v) (na:v≠gd) (nv:v≠fj):¬inV v [V.str (aB "any"),V.str `a6]=true:=by
 obtain ⟨k,rfl⟩:=hv;cases k with
 | inl i=>intro h;exact absurd h (by simp[inV,eqV,kV])
 | inr z=>
  intro h;have:=oy h;simp only[aan,aac,or_false] at this;rcases this with e | e
  ·exact na e
  ·exact nv e
theorem ifN {c A B:Prop} [Decidable c] (h1:¬c→A) (h2:c→B):if (!decide c)=true then A else B:=by
 by_cases h:c
 ·rw[if_neg (by rw[decide_eq_true h];decide)];exact h2 h
 ·rw[if_pos (by rw[decide_eq_false h];decide)];exact h1 h
noncomputable def cx (ws:List V) (p:Nat):Nat:=(eat 1 `H).getD 0
noncomputable def Jl (kinds:List Str) (sh:List V):Nat:=(sh.filter λv=>decide (ay kinds v≠lH)).length
theorem Cg (kinds:List Str) (v:V) (r:List V):Jl kinds (v::r)=(if ay kinds v=lH then 0 else 1)+Jl kinds r:=by
 unfold Jl;rw[ab9];by_cases c:ay kinds v=lH
 ·rw[if_neg (by simpa using c),if_pos c,abu]
 ·rw[if_pos (by simpa using c),if_neg c,aa8,ae4]
theorem cy {r:List Nat} {n:Nat} (h:eat 1 r=aA n):1≤n:=by
 cases r with
 | nil=>cases h
 | cons a r=>
  obtain ⟨k,_,e⟩:=Option.map_eq_some_iff.mp (show (eat (0+a) r).map (·+1)=aA n from h);have e:k+1=n:=e;omega
theorem Jo {kinds:List Str} {ws r:List V} {v x:V} {q d m:Nat} (hk:Kinds kinds) (hv:isW v) (hx:ws[q]?=aA x) (hxw:isW x) (hp:pend (d+1) (arV v::r.map arV)=aA 0) (he:eat (d+1) `dz=aA m)
  (hl:lies `q v x=true):∃d' m',pend d' `eR=aA 0∧eat d' `af=aA m'∧m=m'+(if ay kinds v=lH then cx ws q else 1):=by
 have hq:q < ws.length:=(List.getElem?_eq_some_iff.mp hx).1;have ed:ws.drop q=x::ws.drop (q+1):=by
  rw[aaw hq];congr 1
  rw[aa2 hq] at hx;exact aaa hx
 obtain ⟨e1,e2,e3,e4,e5,e6⟩:=lets;have hp:pend (d+arV v) `eR=aA 0:=hp;have one:arV v=arV x→ay kinds v≠lH→∃d' m',pend d' `eR=aA 0∧eat d' `af=aA m'∧m=m'+(if ay kinds v=lH then cx ws q else 1):=λh n=>by
  rw[if_neg n,if_neg n];rw[ed,aas,ff] at he;obtain ⟨k,hk',e⟩:=Option.map_eq_some_iff.mp he;exact ⟨d+arV v,k,hp,by rw[h];exact hk',e.symm⟩
 unfold lies at hl;rcases dj (kinds:=kinds) hv with ⟨rfl,h⟩ | ⟨rfl,h⟩ | ⟨⟨z,hz,rfl⟩,h⟩ | ⟨h,_⟩
 ·refine one ?_ (by rw[h];exact e1);rw[h,if_neg e1,if_pos rfl] at hl;rw[yh];obtain ⟨k,rfl⟩:=hxw;cases k with
  | inl i=>rfl
  | inr y=>cases hl
 ·refine one ?_ (by rw[h];exact e2);rw[h,if_neg e2,if_neg e4,if_pos rfl,ac1] at hl;rw[we];exact (of_decide_eq_true hl.2).symm
 ·rw[if_pos h,if_pos h];have a0:arV `J=0:=(hk z hz).1;rw[a0] at hp;rw[show d+1=1+d by omega,uy] at he;cases h1:eat 1 `dz with
  | none=>rw[h1] at he;cases he
  | some n=>
   rw[h1] at he;obtain ⟨k,hk',e⟩:=Option.map_eq_some_iff.mp (show (eat d (((ws.drop q).map arV).drop n)).map (n+·)=aA m from he);refine ⟨d,k,hp,?_,?_⟩
   ·unfold endAt;rw[h1,show (aA n).getD 0=n from rfl,←acz];rw[←ac6] at hk';exact hk'
   ·unfold cx;rw[h1];have e:n+k=m:=e;show m=k+n
    omega
 ·refine one ?_ (by rw[h];exact e3);rw[h,if_neg e3,if_neg e5,if_neg e6] at hl;rw[of_decide_eq_true hl]
noncomputable def szs (ws:List V) (hs:List Nat):Nat:=(hs.map (cx ws)).sum
theorem Va (ws:List V) (a b:List Nat):szs ws (a++b)=szs ws a+szs ws b:=by
 unfold szs;rw[aab,adt]
theorem Bi {kinds:List Str} {ws:List V} (hk:Kinds kinds) (hw:∀v∈ws,isW v):∀(sh:List V) (p:Nat) (u u':Und) (d m:Nat),(∀v∈sh,isW v)→pend d `d6=aA 0→eat d `H=aA m→bu kinds ws sh p u=aA u'→szs ws u'.hs+Jl kinds sh=szs ws u.hs+m
 | [],p,u,u',d,m,_,hp,he,h=>by
  have h:aA u=aA u':=h;cases h
  have hp:aA d=aA 0:=hp;cases hp
  have he:aA 0=aA m:=by rw[←he];cases (ws.drop p).map arV <;> rfl
  cases he
  rfl
 | v::r,p,u,u',0,m,_,hp,_,_=>nomatch hp
 | v::r,p,u,u',d+1,m,hs,hp,he,h=>by
  have hpl:p < ws.length:=by
   rcases ad0 p ws.length with g | g
   ·exact g
   ·rw[abr g] at he;cases he
  have hx:ws[p]?=aA ws[p]:=aa2 hpl;rw[cv] at h;have eg:ws.getD p .non=ws[p]:=by rw[aa7,hx];rfl
  rw[eg] at h;by_cases c:lies `q v ws[p]=true
  ·rw[if_pos c] at h;obtain ⟨d',m',h1,h2,h3⟩:=Jo hk (hs v aa6) hx `e7 hp he c;have ih:=Bi hk hw r _ _ u' d' m' (λx hx=>hs x `ct) h1 h2 h;rw[Cg];by_cases cH:ay kinds v=lH
   ·rw[if_pos cH] at h3 ⊢;have e:(u.put `q p ws[p]).hs=u.hs++[p]:=by unfold Und.put;rw[if_pos cH]
    rw[e,Va] at ih;have e2:szs ws [p]=cx ws p:=by unfold szs;simp
    omega
   ·rw[if_neg cH] at h3 ⊢;have e:(u.put `q p ws[p]).hs=u.hs:=by
     unfold Und.put;rw[if_neg cH];split
     ·rfl
     ·split <;> rfl
    rw[e] at ih;omega
  ·rw[if_neg c] at h;cases h
noncomputable def zw (kinds:List Str) (g:Ky→Option Int) (p:Nat) (v:Int):Nat:=(kinds.filter λk=>match g (p,k) with | some x=>decide (x < v) | none=>false).length
theorem Ku (kinds:List Str) (g:Ky→Option Int) (p:Nat) (v:Int):zw kinds g p v≤kinds.length:=aei _ _
theorem filter_lt {α:Type} {P R:α→Bool}:∀{l:List α} {x:α},(∀y∈l,P y=true→R y=true)→x∈l→P x=false→R x=true→(l.filter P).length < (l.filter R).length
 | [],x,_,h,_,_=>nomatch h
 | y::l,x,hs,h,hp,hr=>by
  have le:(l.filter P).length≤(l.filter R).length:=by
   clear h hp hr;induction l with
   | nil=>exact aa3 _
   | cons z l ih=>
    have ih:=ih λw hw=>hs w (by
     rcases List.mem_cons.mp hw with rfl | hw
     ·exact aa6
     ·exact aa9 _ (aa9 _ hw))
    rw[ab9,ab9];by_cases c:P z=true
    ·rw[if_pos c,if_pos (hs z `eZ c),aa8,aa8];omega
    ·rw[if_neg c];split
     ·rw[aa8];omega
     ·exact ih
  rw[ab9,ab9];rcases List.mem_cons.mp h with rfl | h
  ·rw[if_neg (by rw[hp];decide),if_pos hr,aa8];omega
  ·have ih:=filter_lt (λw hw=>hs w (aa9 _ hw)) h hp hr;by_cases c:P y=true
   ·rw[if_pos c,if_pos (hs y aa6 c),aa8,aa8];omega
   ·rw[if_neg c];split
    ·rw[aa8];omega
    ·exact ih
theorem V2 {kinds:List Str} {g:Ky→Option Int} {p:Nat} {v w:Int} {z:Str} (hz:z∈kinds) (hg:g (p,z)=aA w) (h:w < v):zw kinds g p w < zw kinds g p v:=by
 refine filter_lt (x:=z) (λy _ hy=>?_) hz ?_ ?_
 ·cases e:g (p,y) with
  | none=>rw[e] at hy;cases hy
  | some x=>
   rw[e] at hy;have:x < w:=of_decide_eq_true hy;exact decide_eq_true (by omega)
 ·rw[hg];exact decide_eq_false (by omega)
 ·rw[hg];exact decide_eq_true h
noncomputable def phi (kinds:List Str) (ws:List V) (g:Ky→Option Int) (k:Ky):Nat:=(kinds.length+1)*(cx ws k.1 - 1)+1+zw kinds g k.1 ((g k).getD 0)
noncomputable def qg (kinds:List Str) (ws:List V) (g:Ky→Option Int) (ks:List Ky):Nat:=(ks.map (phi kinds ws g)).sum
theorem i7 (kinds:List Str) (ws:List V) (g:Ky→Option Int) (k:Ky) (ks:List Ky):qg kinds ws g (k::ks)=phi kinds ws g k+qg kinds ws g ks:=by
 unfold qg;rw[aas,adz]
theorem Qk (kinds:List Str) (ws:List V) (g:Ky→Option Int) (a b:List Ky):qg kinds ws g (a++b)=qg kinds ws g a+qg kinds ws g b:=by
 unfold qg;rw[aab,adt]
theorem Ru (kinds:List Str) (ws:List V) (g:Ky→Option Int) (k:Ky) (h:1≤cx ws k.1):phi kinds ws g k≤(kinds.length+1)*cx ws k.1:=by
 unfold phi;have:=Ku kinds g k.1 ((g k).getD 0);obtain ⟨n,hn⟩:∃n,cx ws k.1=n+1:=⟨cx ws k.1 - 1,by omega⟩;rw[hn,adw,aed,Nat.mul_one];omega
theorem zi (kinds:List Str) (ws:List V) (g:Ky→Option Int):∀ks:List Ky,ks.length≤qg kinds ws g ks
 | []=>aai _
 | k::ks=>by
  have:=zi kinds ws g ks;rw[i7,aa8];have:1≤phi kinds ws g k:=by unfold phi;omega
  omega
theorem Fp (kinds:List Str) (ws:List V) (g:Ky→Option Int):∀(hs:List Nat) (zs:List Str),(∀h∈hs,1≤cx ws h)→qg kinds ws g (hs.zip zs)≤(kinds.length+1)*szs ws hs
 | [],zs,_=>by show (0:Nat)≤_;omega
 | h::hs,[],_=>by show (0:Nat)≤_;omega
 | h::hs,z::zs,hp=>by
  have ih:=Fp kinds ws g hs zs λx hx=>hp x `ct;have h1:=Ru kinds ws g (h,z) (hp h aa6);have e:szs ws (h::hs)=cx ws h+szs ws hs:=by unfold szs;rw[aas,adz]
  rw[adx,i7,e,aed];have h1:phi kinds ws g (h,z)≤(kinds.length+1)*cx ws h:=h1;omega
theorem size_pos {ws:List V} (tw:Tw ws) {p:Nat} (h:p < ws.length):1≤cx ws p:=by
 obtain ⟨n,hn⟩:=tw.eat h;unfold cx;rw[hn];exact cy hn
theorem Ho {K:aG} {i:Nat} {σ:L2.St} {H:Hp} {Q Q':Bool→Hp→Prop} (h:∀b H1,Q b H1→Q' b H1) (c:tBD `b3 σ H Q):tBD `b3 σ H Q':=by
 simp only[qz,tB,tOp,i6,rI0,Ci,tCB,G7,tNil,pj,tC] at c ⊢;obtain ⟨v,hv,c⟩:=c;refine ⟨v,hv,?_⟩;cases v with
 | ref p=>
  obtain ⟨ys,h1,i,j,e2,e3,cc,e4,hq⟩:=c;exact ⟨ys,h1,i,j,e2,e3,cc,e4,h _ _ hq⟩
 | _=>exact c.elim
abbrev Fd:=Rd×List Ky
noncomputable def fg (kinds:List Str) (ws:List V) (p:Nat) (kd:Str) (g:Ky→Option Int) (r:Rd):Option Fd:=
 if r.1.kind=kd then match bu kinds ws r.1.shape p ⟨[],[],[]⟩ with
  | some u=>if (u.hs.zip `A).all (λk=>(g k).isSome)=true then aA (r,u.hs.zip `A) else none
  | none=>none
 else none
noncomputable def qy (kinds:List Str) (rs:List Rd) (ws:List V) (p:Nat) (kd:Str) (g:Ky→Option Int):List Fd:=rs.filterMap `cB
def FdAt (H:Hp) (no:Addr→Prop) (a:Addr) (f:Fd):Prop:=∃ra hl,¬no hl∧H a=aA (.tup [.ref ra,.ref hl])∧jo H ra f.1∧HsAt H hl f.2
def ee (H:Hp) (no:Addr→Prop) (as:List Addr) (fs:List Fd):Prop:=as.length=fs.length∧∀(j:Nat) (f:Fd),fs[j]?=aA f→∃a,as[j]?=aA a∧FdAt H no a f
def oq:Sp:=λvs H Q _=>∃(b wt d:Addr) (p:Nat) (kd:Str) (kinds:List Str) (rs:List Rd) (ws:List V) (g:Ky→Option Int) (n:Nat),vs=[.ref b,.ref wt,.int (p:Int),.str kd,.ref d]∧fc H b kinds rs∧H wt=aA `a3∧Bk kinds (rs.map (·.1))∧Tw ws∧p < ws.length∧vk H d g n∧∀(l:Addr) (as:List Addr) (H':Hp),ag H H'→H l=none→H' l=aA `e→ee H' (λx=>H x≠none) as (qy kinds rs ws p kd g)→Q `B H'
theorem E5 {b wt d:Addr} {p:Nat} {kd:Str} {kinds:List Str} {rs:List Rd} {ws:List V} {g:Ky→Option Int} {n:Nat} {H:Hp} {Q:VK} {E:XK} (p0:fc H b kinds rs) (p1:H wt=aA `a3) (p2:Bk kinds (rs.map (·.1))) (p3:Tw ws) (p4:p < ws.length) (p5:vk H d g n) (p6:∀(l:Addr) (as:List Addr) (H':Hp),ag H H'→H l=none→H' l=aA `e→ee H' (λx=>H x≠none) as (qy kinds rs ws p kd g)→Q `B H'):oq [.ref b,.ref wt,.int (p:Int),.str kd,.ref d] H Q E:=⟨b,wt,d,p,kd,kinds,rs,ws,g,n,rfl,p0,p1,p2,p3,p4,p5,p6⟩
theorem FdAt.kx {no:Addr→Prop} {H H':Hp} {a:Addr} {f:Fd} (h:FdAt H no a f) (x:Kx no H H'):FdAt H' no a f:=by
 obtain ⟨ra,hl,g2,g3,g4,g5⟩:=h;exact ⟨ra,hl,g2,x.t g3,g4.tk (λ_ _ h=>x.t h),g5.kx x g2⟩
theorem ee.kx {no:Addr→Prop} {H H':Hp} {as:List Addr} {fs:List Fd} (h:ee H no as fs) (x:Kx no H H'):ee H' no as fs:=⟨h.1,λj f e=>by
 obtain ⟨a,g1,g2⟩:=h.2 j f e;exact ⟨a,g1,g2.kx x⟩⟩
theorem ee.same {no:Addr→Prop} {H H':Hp} {as:List Addr} {fs:List Fd} (h:ee H no as fs) (s:ag H H'):ee H' no as fs:=h.kx (Kx.same s)
theorem ee.weak {no no':Addr→Prop} {H:Hp} {as:List Addr} {fs:List Fd} (h:ee H no as fs) (w:∀x,no' x→no x):ee H no' as fs:=⟨h.1,λj f e=>by
 obtain ⟨a,g1,ra,hl,g2,g3⟩:=h.2 j f e;exact ⟨a,g1,ra,hl,λz=>g2 (w _ z),g3⟩⟩
theorem ee.snoc {no:Addr→Prop} {H:Hp} {as:List Addr} {fs:List Fd} {a:Addr} {f:Fd} (h:ee H no as fs) (hf:FdAt H no a f):ee H no (as++[a]) (fs++[f]):=by
 refine ⟨by rw[aa1,aa1,h.1];rfl,λi f' hi=>?_⟩;by_cases c:i < fs.length
 ·rw[aag c] at hi;obtain ⟨a',g1,g2⟩:=h.2 i f' hi;exact ⟨a',by rw[aag (by rw[h.1];exact c)];exact g1,g2⟩
 ·rw[aad (by omega)] at hi;have hz:i - fs.length=0:=by
   rcases adb (i - fs.length) with g | g
   ·exact g
   ·rw[abk (by rw[aa4];omega)] at hi;cases hi
  rw[hz] at hi;cases hi
  exact ⟨a,by rw[aad (by rw[h.1];omega),h.1,hz];rfl,hf⟩
theorem ee.nil (H:Hp) (no:Addr→Prop):ee H no [] []:=⟨rfl,λj f h=>by simp at h⟩
theorem ee.get {no:Addr→Prop} {H:Hp} {as:List Addr} {fs:List Fd} (h:ee H no as fs) {i:Nat} {a:Addr} (ha:as[i]?=aA a):∃f,fs[i]?=aA f∧FdAt H no a f:=by
 have hi:i < fs.length:=by rw[←h.1];exact (List.getElem?_eq_some_iff.mp ha).1
 obtain ⟨a',h1,h2⟩:=h.2 i _ (aa2 hi);obtain rfl:a'=a:=aaa (h1.symm.trans ha);exact ⟨_,aa2 hi,h2⟩
theorem all_map {κ:Type} {f:κ→Bool} {ks:List κ}:(ks.map f).all id=ks.all f:=by
 rw[List.all_map];rfl
structure Rnk (kinds:List Str) (rs:List Rd) (ws:List V) (g:Ky→Option Int):Prop where
 low:∀k v,g k=aA v→∃f∈qy kinds rs ws k.1 k.2 g,∀h∈f.2,∃w,g h=aA w∧w < v
 at':∀k v,g k=aA v→k.1 < ws.length∧k.2∈kinds
def Rki (kinds:List Str) (rs:List Rd) (ws:List V) (g:Ky→Option Int) (n:Nat):Prop:=Rnk kinds rs ws g∧∀k v,g k=aA v→v < (n:Int)
theorem Mz {kinds:List Str} {ws:List V} {p:Nat} {kd:Str} {g g':Ky→Option Int} (up:∀k,(g k).isSome=true→(g' k).isSome=true) {r:Rd} {f:Fd} (h:fg kinds ws p kd g r=aA f):fg kinds ws p kd g' r=aA f:=by
 unfold fg at h ⊢;by_cases c:r.1.kind=kd
 ·rw[if_pos c] at h ⊢;cases hu:bu kinds ws r.1.shape p ⟨[],[],[]⟩ with
  | none=>rw[hu] at h;cases h
  | some u=>
   rw[hu] at h;have h:(if (u.hs.zip `A).all (λk=>(g k).isSome)=true then aA (r,u.hs.zip `A) else none)=aA f:=h;show (if (u.hs.zip `A).all (λk=>(g' k).isSome)=true then aA (r,u.hs.zip `A) else none)=aA f
   by_cases c2:(u.hs.zip `A).all (λk=>(g k).isSome)=true
   ·rw[if_pos c2] at h;rw[if_pos (List.all_eq_true.mpr λx hx=>up x (List.all_eq_true.mp c2 x hx))];exact h
   ·rw[if_neg c2] at h;cases h
 ·rw[if_neg c] at h;cases h
theorem K3 {kinds:List Str} {rs:List Rd} {ws:List V} {p:Nat} {kd:Str} {g g':Ky→Option Int} (up:∀k,(g k).isSome=true→(g' k).isSome=true) {f:Fd} (h:f∈qy kinds rs ws p kd g):f∈qy kinds rs ws p kd g':=by
 obtain ⟨r,hr,e⟩:=List.mem_filterMap.mp h;exact List.mem_filterMap.mpr ⟨r,hr,Mz up e⟩
theorem G4 {kinds:List Str} {ws:List V} {p:Nat} {kd:Str} {g:Ky→Option Int} {r:Rd} {f:Fd} (h:fg kinds ws p kd g r=aA f):f.1=r∧r.1.kind=kd∧∃u,bu kinds ws r.1.shape p ⟨[],[],[]⟩=aA u∧f.2=u.hs.zip `A∧∀k∈f.2,(g k).isSome=true:=by
 unfold fg at h;by_cases c:r.1.kind=kd
 ·rw[if_pos c] at h;cases hu:bu kinds ws r.1.shape p ⟨[],[],[]⟩ with
  | none=>rw[hu] at h;cases h
  | some u=>
   rw[hu] at h;have h:(if (u.hs.zip `A).all (λk=>(g k).isSome)=true then aA (r,u.hs.zip `A) else none)=aA f:=h;by_cases c2:(u.hs.zip `A).all (λk=>(g k).isSome)=true
   ·rw[if_pos c2] at h;cases h
    exact ⟨rfl,c,u,rfl,rfl,List.all_eq_true.mp c2⟩
   ·rw[if_neg c2] at h;cases h
 ·rw[if_neg c] at h;cases h
theorem qb {kinds:List Str} {rs:List Rd} {ws:List V} {p:Nat} {kd:Str} {g:Ky→Option Int} {f:Fd} (h:f∈qy kinds rs ws p kd g):f.1∈rs∧f.1.1.kind=kd∧∃u,bu kinds ws f.1.1.shape p ⟨[],[],[]⟩=aA u∧f.2=u.hs.zip (ak kinds f.1.1.shape)∧∀k∈f.2,(g k).isSome=true:=by
 obtain ⟨r,hr,e⟩:=List.mem_filterMap.mp h;obtain ⟨e1,e2,e3⟩:=G4 e;rw[e1];exact ⟨hr,e2,e3⟩
theorem Rki.put {kinds:List Str} {rs:List Rd} {ws:List V} {g:Ky→Option Int} {n:Nat} (h:Rki kinds rs ws g n) {k:Ky} (hn:g k=none) (h1:k.1 < ws.length) (h2:k.2∈kinds) (hf:0 < (qy kinds rs ws k.1 k.2 g).length):Rki kinds rs ws (Jp g k (n:Int)) (n+1):=by
 have up:∀x,(g x).isSome=true→(Jp g k (n:Int) x).isSome=true:=λx hx=>by
  by_cases c:x=k
  ·rw[c,vv];rfl
  ·rw[yd c];exact hx
 have old:∀x v,g x=aA v→Jp g k (n:Int) x=aA v:=λx v hx=>by
  rw[yd (λc=>by rw[c,hn] at hx;cases hx)];exact hx
 have val:∀x v,Jp g k (n:Int) x=aA v→(x=k∧v=(n:Int))∨g x=aA v:=λx v hx=>by
  by_cases c:x=k
  ·rw[c,vv] at hx;exact .inl ⟨c,(aaa hx).symm⟩
  ·rw[yd c] at hx;exact .inr hx
 refine ⟨⟨λx v hx=>?_,λx v hx=>?_⟩,λx v hx=>?_⟩
 ·rcases val x v hx with ⟨rfl,rfl⟩ | hx
  ·have hm:=aaj hf;refine ⟨_,K3 up hm,λy hy=>?_⟩;have hs:=(qb hm).2.2;obtain ⟨u,_,_,hs⟩:=hs;obtain ⟨w,hw⟩:=Option.isSome_iff_exists.mp (hs y hy);exact ⟨w,old y w hw,h.2 y w hw⟩
  ·obtain ⟨f,hf',hl⟩:=h.1.low x v hx;refine ⟨f,K3 up hf',λy hy=>?_⟩;obtain ⟨w,hw,lt⟩:=hl y hy;exact ⟨w,old y w hw,lt⟩
 ·rcases val x v hx with ⟨rfl,rfl⟩ | hx
  ·exact ⟨h1,h2⟩
  ·exact h.1.at' x v hx
 ·rcases val x v hx with ⟨rfl,rfl⟩ | hx
  ·omega
  ·have:=h.2 x v hx;omega
theorem TbK.new {H:Hp} {d b:Addr} {g:Ky→Option Int} {ks:List Ky} {k:Ky} {v:Int} (h:TbK H d g ks) (hb:H b=aA (kyT k)) (hn:ks.length≤1000000) (e:g k=none):∃o,va H d `aJ (.int v) (upd H d o)∧TbK (upd H d o) d (Jp g k v) (ks++[k]):=by
 have hm:=h.mem k;obtain ⟨kvs,h1,h2,nd,h3⟩:=h;have sz:=aV;have hl:kvs.length=ks.length:=by
  have:=congrArg ac2 h2;rw[aa0,aa0] at this;exact this
 have hk:=h3 k;rw[e] at hk;refine ⟨_,va.t (k:=kyK k) h1 hb (by omega),_,aa,?_,?_,λj=>?_⟩
 ·rw[Gp _ hk,aab,aab,h2];rfl
 ·refine List.nodup_append.mpr ⟨nd,by simp,λa ha c hc e2=>?_⟩;rw[List.mem_singleton.mp hc] at e2;rw[e2] at ha;have:=hm.mp ha;rw[e] at this;cases this
 ·rw[cg];by_cases e':j=k
  ·subst e';rw[if_pos rfl,vv];rfl
  ·rw[if_neg (λz=>e' (Ke z)),yd e'];exact h3 j
theorem TbK.len {H:Hp} {d:Addr} {g:Ky→Option Int} {ks:List Ky} (h:TbK H d g ks):∃kvs:List (List Key×V),H d=aA `ca∧kvs.length=ks.length:=by
 obtain ⟨kvs,h1,h2,_⟩:=h;have:=congrArg ac2 h2;rw[aa0,aa0] at this;exact ⟨kvs,h1,this⟩
def ur:Sp:=λvs H Q _=>∃(b wt:Addr) (kinds:List Str) (rs:List Rd) (ws:List V),vs=[.ref b,.ref wt]∧fc H b kinds rs∧H wt=aA `a3∧Bk kinds (rs.map (·.1))∧kinds.length≤3∧Tw ws∧∀(d:Addr) (H':Hp) (g:Ky→Option Int) (ks:List Ky),ag H H'→H d=none→TbK H' d g ks→Rnk kinds rs ws g→Q `X H'
theorem Ra {b wt:Addr} {kinds:List Str} {rs:List Rd} {ws:List V} {H:Hp} {Q:VK} {E:XK} (p0:fc H b kinds rs) (p1:H wt=aA `a3) (p2:Bk kinds (rs.map (·.1))) (p3:kinds.length≤3) (p4:Tw ws) (p5:∀(d:Addr) (H':Hp) (g:Ky→Option Int) (ks:List Ky),ag H H'→H d=none→TbK H' d g ks→Rnk kinds rs ws g→Q `X H'):ur [.ref b,.ref wt] H Q E:=⟨b,wt,kinds,rs,ws,rfl,p0,p1,p2,p3,p4,p5⟩
end Pc
namespace L2
open PySem PySem.Spec PyProof.Rows
theorem yl {X:Cx} (K:aG) (hK:X.K=K) (hc:X.calm=true):fo X (.builtin "all") (λxs H Q=>∃p bs,xs=[.ref p]∧SqL K H p (ael V.bl bs)∧Q (.bl (bs.all id)) H):=by subst hK;exact qo hc
end L2
namespace Pc
open PySem PySem.Spec L2 PyProof.Rows
inductive Cvd (kinds:List Str) (rs:List Rd) (ws:List V):List Ky→List Rd→Prop
 | nil:Cvd kinds rs ws [] []
 | cons {k:Ky} {st:List Ky} {r:Rd} {u:Und} {cs:List Rd} (hr:r∈rs) (hk:r.1.kind=k.2) (hu:bu kinds ws r.1.shape k.1 ⟨[],[],[]⟩=aA u) (h:Cvd kinds rs ws (u.hs.zip `A++st) cs):Cvd kinds rs ws (k::st) (r::cs)
theorem Fq {kinds:List Str} {rs:List Rl} {ws:List V} (g:Ky→Option Int) (bk:Bk kinds rs) (tw:Tw ws) {r:Rl} (hr:r∈rs) {p:Nat} (hp:p < ws.length) {u:Und} (hu:bu kinds ws r.shape p ⟨[],[],[]⟩=aA u):(∃z,z∈kinds∧u.hs.zip `bs=[(p,z)])∨qg kinds ws g (u.hs.zip `bs)+1≤(kinds.length+1)*(cx ws p - 1)+1:=by
 obtain ⟨w1,w2,w3⟩:=bk.sh r hr;obtain ⟨n,hn⟩:=tw.eat hp;have hww:∀v∈ws,isW v:=λv hv=>(tw.w v hv).1;have hs:=Bi bk.kd hww _ _ _ _ 1 n w1 w2 hn hu;have hin:=u6 bk.kd hww _ _ _ _ 1 n w1 w2 hn (λ_ z=>(aac z).elim) hu;have hsz:cx ws p=n:=by unfold cx;rw[hn];rfl
 have hs:szs ws u.hs+Jl kinds r.shape=n:=by
  have:szs ws ([]:List Nat)=0:=rfl;have hs:szs ws u.hs+Jl kinds r.shape=szs ws []+n:=hs;omega
 have zp:=Fp kinds ws g u.hs `bs λx hx=>size_pos tw (hin x hx);cases e:r.shape with
 | nil=>rw[e] at w2;exact absurd rfl w2.ne
 | cons v0 sh=>
  by_cases c:ay kinds v0=lH
  ·have wv:isW v0:=w1 v0 (by rw[e];exact aa6);rcases dj (kinds:=kinds) wv with ⟨_,hh⟩ | ⟨_,hh⟩ | ⟨⟨z,hz,rfl⟩,_⟩ | ⟨hh,_⟩
   ·rw[hh] at c;exact absurd c lets.1
   ·rw[hh] at c;exact absurd c lets.2.1
   ·have a0:arV `J=0:=(bk.kd z hz).1;have w2':pend 1 (arV (V.str z)::sh.map arV)=aA 0:=by rw[e] at w2;exact w2
    rw[a0] at w2';have w2':pend 0 `d6=aA 0:=w2';have hsh:sh=[]:=by
     cases sh with
     | nil=>rfl
     | cons=>cases w2'
    subst hsh;have ho:ak kinds [V.str z]=[z]:=by
     unfold ak;rw[ac7];simp[hz]
    have hu':u.hs=[p]:=by
     rw[e,cv,if_pos (by unfold lies;rw[if_pos c])] at hu;have hu:aA _=aA u:=hu;cases hu
     unfold Und.put;rw[if_pos c];rfl
    exact .inl ⟨z,hz,by rw[ho,hu'];rfl⟩
   ·rw[hh] at c;exact absurd c lets.2.2.1
  ·have nh:1≤Jl kinds r.shape:=by
    rw[e,Cg,if_neg c];omega
   rw[←e,hsz];have:(kinds.length+1)*szs ws u.hs≤(kinds.length+1)*(n - 1):=Nat.mul_le_mul_left _ (by omega);exact .inr (by omega)
theorem Kl {kinds:List Str} {rs:List Rl} {ws:List V} {g:Ky→Option Int} (bk:Bk kinds rs) (tw:Tw ws) {r:Rl} (hr:r∈rs) {k:Ky} (hp:k.1 < ws.length) {u:Und} (hu:bu kinds ws r.shape k.1 ⟨[],[],[]⟩=aA u):qg kinds ws g (u.hs.zip `bs)≤phi kinds ws g k+kinds.length:=by
 rcases Fq g bk tw hr hp hu with ⟨z,hz,e⟩ | h
 ·rw[e,i7];have q0:qg kinds ws g []=0:=rfl;have:=Ku kinds g k.1 ((g (k.1,z)).getD 0);unfold phi;show _*(cx ws k.1 - 1)+1+zw kinds g k.1 _+_≤_
  omega
 ·unfold phi;omega
theorem Uy {kinds:List Str} {rs:List Rl} {ws:List V} {g:Ky→Option Int} (bk:Bk kinds rs) (tw:Tw ws) {r:Rl} (hr:r∈rs) {k:Ky} (hp:k.1 < ws.length) {v:Int} (hv:g k=aA v) {u:Und} (hu:bu kinds ws r.shape k.1 ⟨[],[],[]⟩=aA u) (low:∀h∈u.hs.zip `bs,∃w,g h=aA w∧w < v):qg kinds ws g (u.hs.zip `bs)+1≤phi kinds ws g k:=by
 rcases Fq g bk tw hr hp hu with ⟨z,hz,e⟩ | h
 ·obtain ⟨w,hw,lt⟩:=low (k.1,z) (by rw[e];exact aa6);rw[e,i7];have q0:qg kinds ws g []=0:=rfl;have rk:=V2 hz hw lt;unfold phi;rw[hw,hv];show _*(cx ws k.1 - 1)+1+zw kinds g k.1 w+_+1≤_*(cx ws k.1 - 1)+1+zw kinds g k.1 v
  omega
 ·unfold phi;omega
noncomputable def ltB (g:Ky→Option Int) (v:Int) (h:Ky):Bool:=match g h with | some w=>decide (w < v) | none=>false
noncomputable def Bf (g:Ky→Option Int) (v:Int) (f:Fd):Bool:=f.2.all (ltB g v)
def ub (K:aG):Sp:=λvs H Q _=>∃(a b wt d:Addr) (ns:List Int) (n0:Nat) (kd:Str) (kinds:List Str) (rs:List Rd) (ws:List V) (g:Ky→Option Int) (ks:List Ky),vs=[.ref a,.int (n0:Int),.ref b,.ref wt,.ref d,.str kd]∧SqL K H a `G∧ns.length≤63∧n0≤1000∧fc H b kinds rs∧H wt=aA `a3∧Bk kinds (rs.map (·.1))∧kinds.length≤3∧Tw ws∧TbK H d g ks∧Rnk kinds rs ws g∧(g (0,kd)).isSome=true∧∀(t:Addr) (H':Hp) (cs:List Rd),ag H H'→H' t=aA `c0→Cvd kinds rs ws [(0,kd)] cs→cs.length≤4*ws.length+80→Q `I H'
theorem Oo {K:aG} {a b wt d:Addr} {ns:List Int} {n0:Nat} {kd:Str} {kinds:List Str} {rs:List Rd} {ws:List V} {g:Ky→Option Int} {ks:List Ky} {H:Hp} {Q:VK} {E:XK} (p0:SqL K H a `G) (p1:ns.length≤63) (p2:n0≤1000) (p3:fc H b kinds rs) (p4:H wt=aA `a3) (p5:Bk kinds (rs.map (·.1))) (p6:kinds.length≤3) (p7:Tw ws) (p8:TbK H d g ks) (p9:Rnk kinds rs ws g) (p10:(g (0,kd)).isSome=true) (p11:∀(t:Addr) (H':Hp) (cs:List Rd),ag H H'→H' t=aA `c0→Cvd kinds rs ws [(0,kd)] cs→cs.length≤4*ws.length+80→Q `I H'):ub K [.ref a,.int (n0:Int),.ref b,.ref wt,.ref d,.str kd] H Q E:=⟨a,b,wt,d,ns,n0,kd,kinds,rs,ws,g,ks,rfl,p0,p1,p2,p3,p4,p5,p6,p7,p8,p9,p10,p11⟩
theorem Sn {H:Hp} {l:Addr} {x:V} {xs:List V} {Q:VK} (h:H l=aA (.lst (x::xs))) (q:Q x (upd H l `ab)):Qz `B [.int 0] H Q:=by
 have e:mQ 0 (x::xs).length=aA 0:=(C9 (Vk (p:=0) (by rw[aa8];omega))).1;exact ⟨l,x::xs,0,0,x,rfl,rfl,h,by decide,by decide,e,rfl,q⟩
theorem size_le {ws:List V} (p:Nat):cx ws p≤ws.length:=by
 unfold cx;cases e:eat 1 `H with
 | none=>exact aai _
 | some n=>
  have:=rh _ _ _ e;rw[aa0,aau] at this;show n≤ws.length
  omega
theorem K0 {kinds:List Str} {ws:List V} {g:Ky→Option Int} (k3:kinds.length≤3) (tw:Tw ws) (k:Ky) (h:k.1 < ws.length):phi kinds ws g k≤4*ws.length:=by
 have h1:=Ru kinds ws g k (size_pos tw h);have h2:=size_le (ws:=ws) k.1;have:(kinds.length+1)*cx ws k.1≤4*ws.length:=ade (by omega) h2;omega
theorem Gx {g:Ky→Option Int} {v:Int} {f:Fd}:Bf g v f=true↔∀h∈f.2,∃w,g h=aA w∧w < v:=by
 unfold Bf;rw[List.all_eq_true];refine ⟨λa h hh=>?_,λa h hh=>?_⟩
 ·have:=a h hh;unfold ltB at this;cases e:g h with
  | none=>rw[e] at this;cases this
  | some w=>rw[e] at this;exact ⟨w,rfl,of_decide_eq_true this⟩
 ·obtain ⟨w,e,lt⟩:=a h hh;unfold ltB;rw[e];exact decide_eq_true lt
theorem Jw.head {H:Hp} {l:Addr} {ks:List Ky} (h:Jw H l ks) {k:Ky} {r:List Ky} (e:ks=k::r):∃(a:Addr) (as:List Addr),H l=aA (.lst (V.ref a::as.map V.ref))∧H a=aA (kyT k)∧as.length=r.length∧∀(j:Nat) (x:Ky),r[j]?=aA x→∃a,as[j]?=aA a∧H a=aA (kyT x):=by
 subst e;obtain ⟨as,h1,h2,h3⟩:=h;cases as with
 | nil=>cases h2
 | cons a as=>
  obtain ⟨a',b1,b2⟩:=h3 0 k rfl;cases b1
  exact ⟨a,as,h1,b2,by rw[aa8,aa8] at h2;omega,λj x hx=>h3 (j+1) x hx⟩
structure CvI (kinds:List Str) (rs:List Rd) (ws:List V) (g:Ky→Option Int) (kd:Str) (cs:List Rd) (st:List Ky):Prop where
 go:∀cs',Cvd kinds rs ws st cs'→Cvd kinds rs ws [(0,kd)] (cs++cs')
 rk:∀k∈st,(g k).isSome=true
 few:cs.length+qg kinds ws g st+4*(20 - cs.length)≤4*ws.length+80
theorem CvI.step {kinds:List Str} {rs:List Rd} {ws:List V} {g:Ky→Option Int} {kd:Str} {cs:List Rd} {k:Ky} {st:List Ky} (h:CvI kinds rs ws g kd cs (k::st)) (bk:Bk kinds (rs.map (·.1))) (k3:kinds.length≤3) (tw:Tw ws) {v:Int} (hv:g k=aA v) (hp:k.1 < ws.length) {f:Fd} (hf:f∈qy kinds rs ws k.1 k.2 g) (low:20≤cs.length→Bf g v f=true):CvI kinds rs ws g kd (cs++[f.1]) (f.2++st):=by
 obtain ⟨h1,h2,u,h3,h4,h5⟩:=qb hf;have hm:f.1.1∈rs.map (·.1):=aby h1;refine ⟨λcs' hc=>?_,λx hx=>?_,?_⟩
 ·rw[acw];exact h.go _ (.cons h1 h2 h3 (by rw[←h4];exact hc))
 ·rcases List.mem_append.mp hx with z | z
  ·exact h5 x z
  ·exact h.rk x (aa9 _ z)
 ·have fw:=h.few;rw[i7] at fw;rw[aa1,aa4,Qk];by_cases c:20≤cs.length
  ·have:=Uy bk tw hm hp hv h3 (by rw[←h4];exact Gx.mp (low c));rw[←h4] at this;omega
  ·have:=Kl (g:=g) bk tw hm hp h3;rw[←h4] at this;omega
theorem Qj {H:Hp} {bs as:List Addr} {hs st:List Ky} (l1:bs.length=hs.length) (h1:∀(j:Nat) (x:Ky),hs[j]?=aA x→∃a,bs[j]?=aA a∧H a=aA (kyT x)) (h2:∀(j:Nat) (x:Ky),st[j]?=aA x→∃a,as[j]?=aA a∧H a=aA (kyT x)):∀(j:Nat) (x:Ky),(hs++st)[j]?=aA x→∃a,(bs++as)[j]?=aA a∧H a=aA (kyT x):=λj x hx=>by
 by_cases c:j < hs.length
 ·rw[aag c] at hx;rw[aag (by omega)];exact h1 j x hx
 ·rw[aad (by omega)] at hx;rw[aad (by omega),l1];exact h2 _ x hx
structure Ou (ns:List Int) (m:Nat) (H:Hp) (t:Addr) (bt wt:Addr) (x:V) (ct:Addr) (kinds:List Str) (rs:List Rd) (ws:List V):Prop where
 h:H t=aA (.tup [.ref bt,.ref wt,x,.ref ct])
 b:fc H bt kinds rs
 bd:Bd ns kinds rs
 w:H wt=aA `a3
 tw:Tw ws
 wl:ws.length≤m+3
 wd:∀v∈ws,WdF ns v
 c:x=.non∨∃(kd:Str) (cs:List Rd),x=.str kd∧kd∈kinds∧Cvd kinds rs ws [(0,kd)] cs∧H ct=aA `c0∧cs.length≤4*ws.length+80
def xo (K:aG):Sp:=λvs H Q _=>∃(a:Addr) (ns:List Int) (m:Nat),vs=[.ref a,.int (m:Int)]∧SqL K H a `G∧ns.length≤63∧1≤m∧m≤90∧∀(t bt wt:Addr) (x:V) (ct:Addr) (kinds:List Str) (rs:List Rd) (ws:List V) (H':Hp),ag H H'→Ou ns m H' t bt wt x ct kinds rs ws→Q `I H'
theorem Tj {K:aG} {a:Addr} {ns:List Int} {m:Nat} {H:Hp} {Q:VK} {E:XK} (p0:SqL K H a `G) (p1:ns.length≤63) (p2:1≤m) (p3:m≤90) (p4:∀(t bt wt:Addr) (x:V) (ct:Addr) (kinds:List Str) (rs:List Rd) (ws:List V) (H':Hp),ag H H'→Ou ns m H' t bt wt x ct kinds rs ws→Q `I H'):xo K [.ref a,.int (m:Int)] H Q E:=⟨a,ns,m,rfl,p0,p1,p2,p3,p4⟩
end Pc
namespace L2
open PySem PySem.Spec PyProof.Rows
theorem range_any (bs:List Bool) (tr:Nat→Bool) (h:∀(i:Nat) b,bs[i]?=aA b→tr i=b):(abh bs.length).any tr=bs.any id:=by
 apply Bool.eq_iff_iff.mpr
 constructor
 ·intro h1;obtain ⟨i,hi,e⟩:=List.any_eq_true.mp h1;have hl:i < bs.length:=List.mem_range.mp hi;rw[h i _ (aa2 hl)] at e;exact List.any_eq_true.mpr ⟨_,aaj hl,e⟩
 ·intro h1;obtain ⟨b,hb,e⟩:=List.any_eq_true.mp h1;obtain ⟨i,hi⟩:=ab7 hb;exact List.any_eq_true.mpr ⟨i,List.mem_range.mpr (List.getElem?_eq_some_iff.mp hi).1,by rw[h i b hi];exact e⟩
section
variable {X:Cx}
theorem Ax (hc:X.calm=true):fo X (.builtin "any") (λxs H Q=>∃p bs,xs=[.ref p]∧SqL X.K H p (ael V.bl bs)∧Q (.bl (bs.any id)) H):=by
 intro pins s σ H xs us Q I r h;obtain ⟨p,bs,rfl,hq,q⟩:=h;obtain ⟨u,rfl,rx⟩:=vals1 r;cases rx
 obtain ⟨its,rv,pl,hz⟩:=I.list hq;have hlen:bs.length=its.length:=by rw[←rv.length,aa0]
 refine call_any_walk (dI pl.isList ?_);have hne:p≠s.heap.objs.size:=by
  obtain ⟨o,n,e,_⟩:=pl;exact aam (aK e)
 have I1:Inv X pins σ H { s with heap:=s.heap.push { cls:=.type "list_iterator",data:=.fields #[.ref p,.int 0 0] } }:=I.kept (t':=s.toks) λb o e=>aE _ e;have fp:=I.nu (H':=H) (aa3 s.heap.objs.size) `au;obtain ⟨f0,f1,f2,f3,f4,f5⟩:=fp;refine ⟨s.heap.objs.size,_,_,its.toArray.size,_,_,λi=>(bs[i]?).getD false,rfl,Walks.list (A:=X.A.in1) (by show X.A.handled=none;exact I.ok.hd hc) s.heap.objs.size p hne its.toArray,⟨⟨_,aJ _ rfl,rfl,rfl⟩,?_⟩,?_,λh' tk kk=>?_⟩
 ·obtain ⟨o,ho,r⟩:=pl.isList;exact ⟨o,aE _ ho,r⟩
 ·intro i v s' Q' E' hv hQ;have hv':its[i]?=aA v:=by simpa using hv
  have hi:i < bs.length:=by rw[hlen];exact (List.getElem?_eq_some_iff.mp hv').1
  have hb:(bs.map V.bl)[i]?=aA (V.bl bs[i]):=by rw[aa5,aa2 hi];rfl
  obtain ⟨u',hu',ru'⟩:=rv.get hb;rw[hv'] at hu';cases hu'
  cases ru'
  dsimp only at hQ;rw[aa2 hi] at hQ;exact dH hQ
 ·rw[aae,←hlen,range_any bs _ (λi b e=>by rw[e];rfl)];exact ⟨.bl _,H,I1.turned (it:=s.heap.objs.size) (λb o hb e=>kk b o (by simpa using hb) e) f0 f1 f3 f4 f5,rfl,q⟩
theorem yr (K:aG) (hK:X.K=K) (hc:X.calm=true):fo X (.builtin "any") (λxs H Q=>∃p bs,xs=[.ref p]∧SqL K H p (ael V.bl bs)∧Q (.bl (bs.any id)) H):=by subst hK;exact Ax hc
end
theorem b_any:bO "any"=aA (.builtin "any"):=by decide+kernel
structure jc (X:Cx) (scope:Scope) (bn:Str) (fr:List Str) (ix:List Nat) (cl:List (Str×Addr)):Prop where
 clos:closureFor scope X.env=pure cl
 kind:scope.kind=.function
 one:∀n acc,jN n scope.names acc=(bn,n)::acc
 push:∀h,pushCells h scope.names=h.push { cls:=.type "cell",data:=.cell none }
 names:(scope.names.all λy=>decide (y.2≠.local)||decide (scope.names.lookup y.1=aA .local))=true
 sub:SubP X.env.cells cl
 has:((cY scope X.env).names.all λy=>!(decide (y.2=.cell)||decide (y.2=.free))||(decide (y.1=bn)||(cl.lookup y.1).isSome))=true
 fb:(fr.all λx=>!decide (x=bn))=true
 out':Eh X scope fr ix
noncomputable def cxK (X:Cx) (scope:Scope) (cl:List (Str×Addr)) (bn:Str) (ns:List Str) (fp:List Addr) (s:aF) (H:Hp):Cx where
 prog:=X.prog
 w:=X.w
 K:=X.K
 mg:=X.mg
 base:=X.base
 A:=X.A
 N:=ns
 s₀:=s
 H₀:=H
 env:=nL scope ((bn,s.heap.objs.size+1)::cl) s.heap.objs.size X.env
 outer:=X.stack
 stack:=X.stack
 ex:=fp
 fn:=λx=>x==bn
 calm:=X.calm
 pn:=[]
 xe:=λ_ _=>False
section
variable {X:Cx} {scope:Scope} {bn:Str} {fr:List Str} {ix:List Nat} {cl:List (Str×Addr)} {pins:List (Addr×Obj)} {σ:St} {H:Hp} {s:aF} {fp:List Addr}
theorem jc.len (C:jc X scope bn fr ix cl):fr.length=ix.length:=C.out'.len
theorem jc.out (C:jc X scope bn fr ix cl):∀(k j:Nat),ix[k]?=aA j→∃x,fr[k]?=aA x∧X.N[j]?=aA x∧Vis X.env.scope x∧X.env.kindOf x≠aA .local∧(cY scope X.env).names.lookup x≠aA .local∧x≠bn:=λk j e=>by
 obtain ⟨x,h1,h2,h3,h4⟩:=C.out'.get k j e;refine ⟨x,h1,h2,.inr (.inl h3),(by rw[h3];intro z;cases z),(by rw[h4];intro z;cases z),?_⟩;have:=List.all_eq_true.mp C.fb x (aak h1);intro z;rw[decide_eq_true z] at this;cases this
theorem jc.Dq (C:jc X scope bn fr ix cl):∀x∈scope.names,x.2=.local→scope.names.lookup x.1=aA .local:=λx hx e=>by
 have h:=List.all_eq_true.mp C.names x hx;rw[acs] at h;rcases h with h | h
 ·exact absurd e (of_decide_eq_true h)
 ·exact of_decide_eq_true h
theorem jc.ui (C:jc X scope bn fr ix cl):∀x c,cl.lookup x=aA c→X.env.cells.lookup x=aA c:=λx c h=>C.sub.of _ (lookup_mem h)
theorem Bv {n:Nat} {x:Str} {c:Addr} (h:((bn,n)::cl).lookup x=aA c):(x=bn∧c=n)∨(x≠bn∧cl.lookup x=aA c):=by
 rw[aco] at h;cases e:x==bn with
 | true=>
  rw[e] at h;exact .inl ⟨eq_of_beq e,(aaa h).symm⟩
 | false=>
  rw[e] at h;exact .inr ⟨(λz=>by rw[z,beq_self_eq_true] at e;cases e),h⟩
theorem Fm {n:Nat} {x:Str} (h:x≠bn):((bn,n)::cl).lookup x=cl.lookup x:=by
 rw[aco];cases e:x==bn with
 | true=>exact absurd (eq_of_beq e) h
 | false=>rfl
theorem Jc {n:Nat}:((bn,n)::cl).lookup bn=aA n:=by
 rw[aco,beq_self_eq_true]
theorem jc.has' (C:jc X scope bn fr ix cl) (n:Nat):∀x,((cY scope X.env).names.lookup x=aA .cell∨(cY scope X.env).names.lookup x=aA .free)→∃c,((bn,n)::cl).lookup x=aA c:=λx hx=>by
 have key:∀k,(cY scope X.env).names.lookup x=aA k→(k=.cell∨k=.free)→∃c,((bn,n)::cl).lookup x=aA c:=λk e hk=>by
  have h:=List.all_eq_true.mp C.has (x,k) (lookup_mem e);by_cases xb:x=bn
  ·exact ⟨n,by rw[xb];exact Jc⟩
  ·rw[Fm xb];rw[acs,acs] at h;rcases h with h | h | h
   ·rcases hk with rfl | rfl
    ·simp at h
    ·simp at h
   ·exact absurd (of_decide_eq_true h) xb
   ·exact Option.isSome_iff_exists.mp h
 rcases hx with h | h
 ·exact key _ h `W
 ·exact key _ h (.inr rfl)
theorem cxK_ok (C:jc X scope bn fr ix cl) (I:Inv X pins σ H s) (f:∀b∈fp,ma X pins H b) (lt:∀b∈fp,b < s.heap.objs.size):(cxK X scope cl bn ([bn]++fr) fp s H).Ok where
 mod:=I.ok.mod
 kind:=C.kind
 glob:=I.ok.glob
 blt:=I.ok.blt
 above:=aa3 _
 inj:=λx y c h1 h2=>by
  have low:∀z,cl.lookup z=aA c→c≠s.heap.objs.size+1:=λz hz e=>by
   obtain ⟨v,q⟩:=I.cell z c (C.ui z c hz);exact absurd (e ▸ q.lt) (Nat.not_lt.mpr (abe _))
  rcases Bv h1 with ⟨e1,c1⟩ | ⟨_,e1⟩ <;> rcases Bv h2 with ⟨e2,c2⟩ | ⟨_,e2⟩
  ·rw[e1,e2]
  ·exact absurd c1 (low y e2)
  ·exact absurd c2 (low x e1)
  ·exact I.ok.inj x y c (C.ui x c e1) (C.ui y c e2)
 has:=λx hx=>C.has' _ x hx
 cab:=λx c h e=>by
  rcases Bv e with ⟨_,c1⟩ | ⟨n1,_⟩
  ·rw[c1];exact abe _
  ·exact absurd (eq_of_beq h) n1
 hd:=I.ok.hd
 frames:=I.ok.frames
 stk:=.inl rfl
 exf:=λb' hb=>⟨aam (lt b' hb),λx c e=>by
  rcases Bv e with ⟨_,c1⟩ | ⟨_,e1⟩
  ·intro z;have:=lt b' hb;rw[←z,c1] at this;exact absurd this (Nat.not_lt.mpr (abe _))
  ·exact (f b' hb).2.2.2.2.1 x c (C.ui x c e1)⟩
 bs:=λb o e=>I.bs b o e
 bsz:=ab4 I.ok.bsz I.sz
 noex:=λb o e hb=>by
  rcases (f b hb).2.2.2.1 with z | z
  ·exact I.ok.noex b o e z
  ·exact absurd (aao (aK e) (ab4 I.ok.bsz z)) (abi _)
 exfs:=λb hb z=>by
  rcases List.mem_cons.mp (I.Dj b z) with q | q
  ·exact (f b hb).2.1 q
  ·exact (f b hb).2.2.1 q
 vb:=I.stack
 frf:=I.Ea
theorem Lw (C:jc X scope bn fr ix cl) (I:Inv X pins σ H s) (f:∀b∈fp,ma X pins H b) (lt:∀b∈fp,b < s.heap.objs.size) {h₁:Heap} {t:Nat} {m:Str→Option aD}
  (hns:h₁.Ns s.heap.objs.size m) (hcell:h₁.IsCell (s.heap.objs.size+1) none) (k:∀b o,s.heap.get? b=aA o→h₁.get? b=aA o):
  Inv `S [] ([none]++m7 ix σ) H { s with heap:=h₁,toks:=t } where
 ok:=cxK_ok C I f lt
 os:=rfl
 bare:=I.bare
 base:=Un.kept k
 loc:=⟨m,hns,λi x v e1 e2 e3=>by
  have e1:([bn]++fr)[i]?=aA x:=e1;cases i with
  | zero=>cases e2
  | succ i=>
   have e1:fr[i]?=aA x:=e1;have e2:(m7 ix σ)[i]?=aA (aA v):=e2;unfold m7 at e2;rw[aa5] at e2;cases q:ix[i]? with
   | none=>rw[q] at e2;cases e2
   | some j=>
    rw[q] at e2;have e2':(σ[j]?).getD none=aA v:=aaa e2;obtain ⟨x',hx',hN,hv,hk,hl',nb⟩:=C.out _ j q;rw[e1] at hx';cases hx'
    have e4:σ[j]?=aA (aA v):=by
     cases z:σ[j]? with
     | none=>rw[z] at e2';cases e2'
     | some w=>rw[z] at e2';exact congrArg aA e2'
    obtain ⟨mX,hnX,hl⟩:=I.loc;obtain ⟨u,r,l⟩:=hl j x v hN e4 hv;rcases l with ⟨kl,_⟩ | ⟨kk,c,ec,z⟩
    ·exact absurd kl hk
    ·have kY:(cY scope X.env).names.lookup x=aA .cell∨(cY scope X.env).names.lookup x=aA .free:=by
      rcases e3 with e3 | e3 | e3
      ·exact absurd e3 hl'
      ·exact .inl e3
      ·exact .inr e3
     obtain ⟨c',hc'⟩:=C.has' (s.heap.objs.size+1) x kY;have hc2:=hc';rw[Fm nb] at hc2;have hcc:=C.ui x c' hc2;rw[ec] at hcc;cases hcc
     obtain ⟨o,ho,hd⟩:=z;exact ⟨u,r,.inr ⟨kY,c,hc',⟨o,k c o ho,hd⟩⟩⟩⟩
 cell:=λx c e=>by
  rcases Bv e with ⟨_,c1⟩ | ⟨_,e1⟩
  ·rw[c1];exact ⟨none,hcell⟩
  ·obtain ⟨v,o,ho,hd⟩:=I.cell x c (C.ui x c e1);exact ⟨v,o,k c o ho,hd⟩
 free:=I.hok.fresh (aa3 _)
 freeC:=λx c e=>by
  rcases Bv e with ⟨_,c1⟩ | ⟨_,e1⟩
  ·rw[c1];exact I.hok.fresh (abe _)
  ·exact I.freeC x c (C.ui x c e1)
 pin:=λp hp=>by cases hp
 hok:=I.hok.kept k
 len:=by
  show ([none]++m7 ix σ).length=([bn]++fr).length
  rw[aa1,aa1,C.len];unfold m7;rw[aa0];rfl
theorem Nk (I:Inv X pins σ H s) (f:∀b∈fp,ma X pins H b) {ns:List Str} {τ:St} {H':Hp} {s':aF} {pins':List (Addr×Obj)} (J:Inv (cxK X scope cl bn ns fp s H) pins' τ H' s'):Inv X pins σ H' s':=
 I.call' (ch:=fp) J.os J.base J.hok J.bare λb hb=>⟨(f b hb).2.2.2.1,(f b hb).2.1,(f b hb).2.2.2.2.1,(f b hb).2.2.2.2.2⟩
end
theorem Ta {M:Model} {A:bJ} {E:aD→aF→Prop} {s:aF} {scope:Scope} {globals:Addr} {cl:List (Str×Addr)} {qual:Str} {func:Option Addr} {code:aD} {outer:Env} {builtins:Addr} {Q:Env→aF→Prop} {bn:Str}
  (hone:∀n acc,jN n scope.names acc=(bn,n)::acc) (hpush:∀h,pushCells h scope.names=h.push { cls:=.type "cell",data:=.cell none })
  (hQ:Q (newEnv scope s.heap.objs.size globals ((bn,s.heap.objs.size+1)::cl) qual func code (aA outer) builtins) { s with heap:=(s.heap.push { cls:=.type "dict",data:=.dict #[] }).push { cls:=.type "cell",data:=.cell none } }):
  aI M A (gY scope globals cl [] qual func code (aA outer) builtins) Q E s:=by
 simp only[gY,aeq,if_true];refine aC (wpAny_alloc ?_);refine aC (wpAny_layCells _ (λname kind cells=>by cases hkc:kind==NameKind.cell <;> simp[hkc]) _ _ _ _ ?_);rw[hone,hpush,show ({ s with heap:=s.heap.push { cls:=.type "dict",data:=.dict #[] } }:aF).heap.objs.size=s.heap.objs.size+1 from bD ..];refine aC ?_;rw[abq];exact aH (aH hQ)
section
variable {X:Cx} {scope:Scope} {bn:Str} {fr:List Str} {ix:List Nat} {cl:List (Str×Addr)} {elt iter tg:Expr} {ifs:List Expr} {pos:Pos} {wi:TI} {g:TG} {tc:TT} {te:TE}
theorem Gh {E:aD→aF→Prop} {RR:aD→Addr→iC→aF→Prop} (C:jc X scope bn fr ix cl) (hc:X.calm=true)
  (hg:∀fp s H,PG `S tg g) (ht:∀fp s H,Jd `S ifs tc) (he:∀fp s H,PE `S elt te)
  {pins:List (Addr×Obj)} {σ:St} {H2:Hp} {s2:aF} {it:Addr} {fp:List Addr} {tn:Nat→Heap→Prop} {J:It} {Q:Hp→Prop} (I2:Inv X pins σ H2 s2) (T:Turn X.prog X.w X.K tg J fp it tn) (st2:tn 0 s2.heap) (f2:∀b∈fp,ma X pins H2 b)
  (q:LC 1 (m7 ix σ) g tc te J s2.heap.objs.size H2 Q)
  (hRR:∀(s3 s':aF) (H3 H':Hp) (τ:St),Inv X pins σ H3 s3→Inv X pins σ H' s'→H' s3.heap.objs.size=none→(∃m,s'.heap.Ns s3.heap.objs.size m)→Q H'→RR `aq s3.heap.objs.size (.ok .next) s'):
  aI `d X.A (newList []) (λacc s₃=>aI `d X.A `c3 (λcenv s₄=>
   dO `d X.A `dg (RR acc cenv.locals) s₄) E s₃) E s2:=by
 refine cI ?_;have I3:Inv X pins σ `g { s2 with heap:=s2.heap.push { cls:=.type "list",dict:=none,data:=.seq ([]:List aD).toArray } }:=I2.lnew (t':=s2.toks) (its:=[]) .nil (aai _);have lt2:∀b∈fp,b < s2.heap.objs.size:=λb hb=>by
  obtain ⟨o,e,_⟩:=T.obj 0 _ st2 b hb;exact aK e
 have fneD:∀b∈fp,b≠s2.heap.objs.size:=λb hb=>aam (lt2 b hb);generalize hs3:({ s2 with heap:=s2.heap.push { cls:=.type "list",dict:=none,data:=.seq ([]:List aD).toArray } }:aF)=s3 at I3 ⊢;have hsz:s3.heap.objs.size=s2.heap.objs.size+1:=by rw[←hs3];exact bD ..
 have kp23:∀b o,s2.heap.get? b=aA o→s3.heap.get? b=aA o:=λb o e=>by rw[←hs3];exact aE _ e
 have f3:∀b∈fp,ma X pins `g b:=λb hb=>by
  obtain ⟨f0,fr⟩:=f2 b hb;exact ⟨by rw[ah (fneD b hb)];exact f0,fr⟩
 have lt3:∀b∈fp,b < s3.heap.objs.size:=λb hb=>by rw[hsz];exact acj (lt2 b hb)
 refine Ta C.one C.push ?_;obtain ⟨h₁,eh₁⟩:∃h₁,h₁=(s3.heap.push { cls:=.type "dict",data:=.dict #[] }).push { cls:=.type "cell",data:=.cell none }:=⟨_,rfl⟩;rw[←eh₁];have k34:∀b o,s3.heap.get? b=aA o→h₁.get? b=aA o:=λb o e=>by rw[eh₁];exact aE _ (aE _ e)
 have hns₁:h₁.Ns s3.heap.objs.size (λ_=>none):=by rw[eh₁];exact (Heap.Ns.new s3.heap `cc).keeps λb o e=>aE _ e
 have hc₁:h₁.IsCell (s3.heap.objs.size+1) none:=by
  rw[eh₁];refine ⟨{ cls:=.type "cell",data:=.cell none },?_,rfl⟩;have:=aJ (s3.heap.push { cls:=.type "dict",data:=.dict #[] }) (o:={ cls:=.type "cell",data:=.cell none }) rfl;rw[bD] at this;exact this
 have I4:=Lw C I3 f3 lt3 (t:=s3.toks) hns₁ hc₁ k34;have st4:tn 0 h₁:=T.keep 0 _ _ st2 λb _ o e=>k34 b o (kp23 b o e);obtain ⟨W,⟨m0,w0⟩,turn⟩:=q;have loop:∀s4:aF,s4={ s3 with heap:=h₁ }→
   dO `d X.A (.compLoop `r 0 `bv `aq (nL scope ((bn,s3.heap.objs.size+1)::cl) s3.heap.objs.size X.env)) (RR `aq s3.heap.objs.size) s4:=by
  rintro s4 rfl;have stat:∀{H':Hp},(∀b∈fp,H' b=none)→∀b∈fp,ma `am [] H' b:=λ{H'} hn b hb=>
   ⟨hn b hb,aam (lt3 b hb),I4.ok.exfs b hb,.inl hb,(I4.ok.exf b hb).2,λp hp=>by cases hp⟩
  refine uo (λn s'=>∃i τ H',τ.length=1∧Inv `am [] (τ++m7 ix σ) H' s'∧tn i s'.heap∧(∀b∈fp,H' b=none)∧W i n H') ?_ m0
   ⟨0,[none],_,rfl,I4,st4,λb hb=>(f3 b hb).1,w0⟩
  rintro n s5 ⟨i,τ,H5,hτ,I5,st5,fr5,w5⟩;rcases turn i n H5 w5 with ⟨stop,qn⟩ | ⟨go,step⟩
  ·refine bM (T.done `am rfl rfl rfl hc i [] s5 _ H5 (λ_ _=>False) I5 (stat fr5) st5 stop) (λr s6 ⟨hr,I6⟩=>?_) λ_ _ z=>z.elim;subst hr;obtain ⟨mm,hmm,_⟩:=I6.loc;exact hRR s3 s6 _ H5 τ I3 (Nk I3 f3 I6) I6.free ⟨mm,hmm⟩ qn
  ·refine bM (T.item `am rfl rfl rfl hc i [] s5 _ H5 (λ_ _=>False) I5 (stat fr5) st5 go) (λr s6 ⟨u,hr,h6⟩=>?_) λ_ _ z=>z.elim;subst hr;refine bM h6 (λ_ s7 ⟨x,H7,I7,r7,y7,st7,fr7⟩=>?_) λ_ _ z=>z.elim;have I7':=I7.pinned (stat fr7) (T.obj _ _ st7);refine bM `dt (λ_ s8 ⟨σ8,H8,I8,⟨τ',hτ',e8⟩,q8⟩=>?_) λ_ _ z=>z.elim;have fin:∀{H9:Hp} {s9:aF},Inv `am ([]++vx fp s7.heap) σ8 H9 s9→(∃m',m' < n∧W (i+1) m' H9)→
     ∃m,m < n∧∃i τ H',τ.length=1∧Inv `am [] (τ++m7 ix σ) H' s9∧tn i s9.heap∧(∀b∈fp,H' b=none)∧W i m H':=λ{H9 s9} I9 hw=>by
    obtain ⟨m',hm,w9⟩:=hw;refine ⟨m',hm,i+1,τ',H9,hτ',e8 ▸ I9.og,T.keep _ _ _ st7 λb hb o e=>(I9.pin (b,o) `bl).1,λb hb=>?_,w9⟩;obtain ⟨o,e,d⟩:=T.obj _ _ st7 b hb;exact (I9.pin (b,o) `bl).2.1
   refine bM (ht fp s3 _ _ s8 σ8 H8 _ I8 q8) (λok s9 ⟨H9,I9,q9⟩=>?_) λ_ _ z=>z.elim;cases ok with
   | false=>exact fin I9 q9
   | true=>
    refine bM (he fp s3 _ _ s9 σ8 H9 _ I9 q9) (λy s10 ⟨v10,H10,I10,r10,ys,hD,hz,q10⟩=>?_) λ_ _ z=>z.elim;refine bM (vm (X:=cxK X scope cl bn ([bn]++fr) fp s3 `g) _ s10 σ8 H10 `aq [v10] _ [y] (λ_ H'=>∃m',m' < n∧W (i+1) m' H') I10 rfl (.cons r10 .nil) ⟨_,ys,v10,rfl,rfl,hD,hz,q10⟩) (λ_ s11 ⟨_,H11,I11,_,q11⟩=>?_) λ_ _ z=>z.elim;exact fin I11 q11
 exact kB (loop _ rfl) (T.self _ 0 _ _ _ st4 (loop _ rfl))
theorem pe_lcK (C:jc X scope bn fr ix cl) (hc:X.calm=true) (hi:PI X tg iter wi) (hg:∀fp s H,PG `S tg g)
  (ht:∀fp s H,Jd `S ifs tc) (he:∀fp s H,PE `S elt te)
  (hs:∀x,gE iter X.env x=pure x:=by intro _;rfl):PE X `r (tLC 1 ix wi g tc te):=by
 intro pins s σ H Q I h;rw[eval_ListComp];refine fV (use:=none) rfl hs C.clos C.kind C.Dq (thn `bE λv s1 h1=>thn h1 λitv s2 h2=>?_);obtain ⟨it,fp,tn,J,H2,e,I2,T,st2,f2,q⟩:=h2;subst e;refine Gh (RR:=λacc D=>compPost `d X.A X.xe none `ag acc D) C hc hg ht he I2 T st2 f2 (q _ `dj) λs3 s' H3 H' τ I3 I' hn hm q'=>?_;obtain ⟨m,hm⟩:=hm;exact ⟨m,hm,λh' sb=>⟨.ref s2.heap.objs.size,H',Ar I3 I' hn sb,rfl,q'⟩⟩
end
end L2
namespace Pc
open PySem PySem.Spec L2 PyProof.Rows
def ny (rd:List Rd) (H:Hp) (t:Addr) (r:Rl) (u:Und):Prop:=∃(x:Rd) (ra ut:Addr),x∈rd∧x.1=r∧H t=aA `eG∧jo H ra x∧j0 H ut u
theorem j0.tk' {H H':Hp} {t:Addr} {u:Und} (h:j0 H t u) (s:TK H H'):j0 H' t u:=by
 obtain ⟨t1,t2,t3,h1,h2,h3,h4⟩:=h;exact ⟨t1,t2,t3,s _ _ h1,s _ _ h2,s _ _ h3,s _ _ h4⟩
theorem ny.tk {rd:List Rd} {H H':Hp} {t:Addr} {r:Rl} {u:Und} (h:ny rd H t r u) (s:TK H H'):ny rd H' t r u:=by
 obtain ⟨x,ra,ut,h1,h2,h3,h4,h5⟩:=h;exact ⟨x,ra,ut,h1,h2,s _ _ h3,h4.tk s,h5.tk' s⟩
theorem ny.step {rd:List Rd} {H:Hp} {t:Addr} {r:Rl} {u:Und} (h:ny rd H t r u):Jn H t r u:=by
 obtain ⟨x,ra,ut,h1,rfl,h3,h4,h5⟩:=h;exact ⟨ra,ut,h3,h4.rule,h5⟩
theorem N3 {rd:List Rd} {rs:List Rl} {H H8:Hp} {ra:List Addr} (hRD:ck H ra rd) (hrs:rs=rd.map (·.1)) {j:Nat} {x:Rl} {a:Addr} (hrj:rs[j]?=aA x) (ha:ra[j]?=aA a) {pr t:Addr} {u:Und} (e:H8 pr=aA (.tup [.ref a,.ref t])) (s:TK H H8) (hu:j0 H8 t u):ny rd H8 pr x u:=by
 rw[hrs,aa5] at hrj;obtain ⟨y,hy,rfl⟩:=Option.map_eq_some_iff.mp hrj;obtain ⟨a',ha',hR⟩:=hRD.2 j y hy;obtain rfl:a'=a:=aaa (ha'.symm.trans ha);exact ⟨y,a',t,aak hy,rfl,e,hR.tk s,hu⟩
def dm (rd:List Rd) (H:Hp) (as:List Addr) (ds:List (Rl×Und)):Prop:=as.length=ds.length∧∀(j:Nat) (d:Rl×Und),ds[j]?=aA d→∃a,as[j]?=aA a∧ny rd H a d.1 d.2
theorem dm.nil (rd:List Rd) (H:Hp):dm rd H [] []:=⟨rfl,λj d h=>by simp at h⟩
theorem dm.tk {rd:List Rd} {H H':Hp} {as:List Addr} {ds:List (Rl×Und)} (h:dm rd H as ds) (s:TK H H'):dm rd H' as ds:=⟨h.1,λj d e=>by obtain ⟨a,a1,a2⟩:=h.2 j d e;exact ⟨a,a1,a2.tk s⟩⟩
theorem dm.snoc {rd:List Rd} {H:Hp} {as:List Addr} {ds:List (Rl×Und)} (h:dm rd H as ds) {a:Addr} {d:Rl×Und} (g:ny rd H a d.1 d.2):dm rd H (as++[a]) (ds++[d]):=by
 refine ⟨by rw[aa1,aa1,h.1];rfl,λi f' hi=>?_⟩;by_cases c:i < ds.length
 ·rw[aag c] at hi;obtain ⟨a',g1,g2⟩:=h.2 i f' hi;exact ⟨a',by rw[aag (by rw[h.1];exact c)];exact g1,g2⟩
 ·rw[aad (by omega)] at hi;have hz:i - ds.length=0:=by
   rcases adb (i - ds.length) with g | g
   ·exact g
   ·rw[abk (by rw[aa4];omega)] at hi;cases hi
  rw[hz] at hi;cases hi
  exact ⟨a,by rw[aad (by rw[h.1];omega),h.1,hz];rfl,g⟩
noncomputable def gx:List Str:=["out","t1","t2","t3"]
noncomputable def sy (b:Str) (dd:List `o):Bool:=dd.any λx=>inV `ee x
noncomputable def b9 (dd:List `o):List Str:=gx.filter λb=>sy b dd
def nc:Sp:=λvs H Q _=>∃(ra:Addr) (r:Rd),vs=[.ref ra]∧jo H ra r∧(∀x∈r.2,∀v∈x,isW v)∧r.2.length≤100∧∀(l:Addr) (H':Hp),ag H H'→H l=none→H' l=aA (.lst ((b9 r.2).map V.str))→Q `B H'
theorem Gw {ra:Addr} {r:Rd} {H:Hp} {Q:VK} {E:XK} (p0:jo H ra r) (p1:∀x∈r.2,∀v∈x,isW v) (p2:r.2.length≤100) (p3:∀(l:Addr) (H':Hp),ag H H'→H l=none→H' l=aA (.lst ((b9 r.2).map V.str))→Q `B H'):nc [.ref ra] H Q E:=⟨ra,r,rfl,p0,p1,p2,p3⟩
theorem any_map {κ:Type} {f:κ→Bool} {ks:List κ}:(ks.map f).any id=ks.any f:=by
 rw[List.any_map];rfl
theorem Sg {K:aG} {a:Addr} {xs:List V} {fr:L2.St} {tc:TT} {te:TE} {D:Addr} {H1:Hp} {Q:Hp→Prop} (P:Nat→List V→Hp→Prop) (mono:∀i ys H H',(∀b o,b≠D→H b=aA o→H' b=aA o)→P i ys H→P i ys H') (hS:SqL K H1 a xs) (hn:xs.length < sizeLine) (hD:H1 D=none) (h0:P 0 [] H1)
  (step:∀i x ys H (G:Hp→Prop) (K':V→Hp→Prop),xs[i]?=aA x→P i ys H→ys.length≤i→ag H1 H→H D=aA `aS→(∀H3,ag H H3→P (i+1) ys H3→G H3)→(∀y H4,ag H H4→P (i+1) (ys++[y]) H4→K' y H4)→tc ([aA x]++fr) H λb H3=>if b=true then te ([aA x]++fr) H3 K' else G H3)
  (done:∀ys H,P xs.length ys H→ys.length≤xs.length→ag H1 H→H D=aA `aS→Q H):LC 1 fr (gh 0) tc te (Itl K a) D H1 Q:=by
 refine ⟨λi m H=>m=xs.length - i∧i≤xs.length∧∃ys,H D=aA `aS∧P i ys H∧ys.length≤i∧ag H1 H,⟨xs.length,by simp,aai _,[],aa,mono _ _ _ _ (λb o hb h=>by rw[ah hb];exact h) h0,aa3 _,ab hD _⟩,?_⟩;rintro i m H ⟨rfl,hi,ys,hys,hP,hl,hs⟩;by_cases hlt:i < xs.length
 ·have hx:xs[i]?=aA xs[i]:=aa2 hlt;refine .inr ⟨⟨xs,_,hs.seq hS,hx⟩,λτ x H' hτ hy=>?_⟩;obtain ⟨e1,e2⟩:=hy;subst e1;obtain rfl:x=xs[i]:=aaa ((e2 xs (hs.seq hS)).symm.trans hx);obtain ⟨c,rfl⟩:∃c,τ=[c]:=List.length_eq_one_iff.mp hτ;refine ⟨⟨[aA xs[i]],rfl,rfl⟩,step i _ ys H' _ _ hx hP hl hs hys (λH3 q1 q2=>?_) (λy H4 q1 q2=>?_)⟩
  ·exact ⟨xs.length - (i+1),by omega,rfl,hlt,ys,q1 _ _ hys,q2,adf hl,hs.trans q1⟩
  ·refine ⟨ys,q1 _ _ hys,by omega,xs.length - (i+1),by omega,rfl,hlt,ys++[y],aa,mono _ _ _ _ (λb o hb h=>by rw[ah hb];exact h) q2,?_,(hs.trans q1).upd hD _⟩;rw[aa1,aa4];omega
 ·obtain rfl:i=xs.length:=by omega
  exact .inl ⟨⟨xs,hs.seq hS,aa3 _⟩,done ys H hP hl hs hys⟩
noncomputable def er (ds:List (Rl×Und)):List Nat:=ds.map λd=>d.2.hs.length
theorem Fx {ar:List Nat} (h:pend 1 ar=aA 0) {p:Nat} (hp:p < ar.length):∃m,pend (m+ar.getD p 0) `cn=aA 0:=by
 have hd:ar.drop p=ar.getD p 0::ar.drop (p+1):=by
  rw[aaw hp,aa7,aa2 hp];rfl
 obtain ⟨m,hm⟩:=pd _ 1 h p;rw[hd] at hm;cases m with
 | zero=>cases hm
 | succ m=>exact ⟨m,hm⟩
def um:Sp:=λvs H Q _=>∃(sl:Addr) (as:List Addr) (rd:List Rd) (ds:List (Rl×Und)),vs=[.ref sl]∧H sl=aA `e∧dm rd H as ds∧pend 1 (er ds)=aA 0∧ds.length≤1000∧∀(D:Addr) (rs:List Addr) (H':Hp),ag H H'→H' D=aA `aT→rs.length=ds.length→dq H' rs (az (er ds))→Q (.ref D) H'
theorem Rj {sl:Addr} {as:List Addr} {rd:List Rd} {ds:List (Rl×Und)} {H:Hp} {Q:VK} {E:XK} (p0:H sl=aA `e) (p1:dm rd H as ds) (p2:pend 1 (er ds)=aA 0) (p3:ds.length≤1000) (p4:∀(D:Addr) (rs:List Addr) (H':Hp),ag H H'→H' D=aA `aT→rs.length=ds.length→dq H' rs (az (er ds))→Q (.ref D) H'):um [.ref sl] H Q E:=⟨sl,as,rd,ds,rfl,p0,p1,p2,p3,p4⟩
noncomputable def gv (ar:List Nat):Nat→Nat→List Nat
 | 0,_=>[]
 | n+1,p=>(az ar p).flatMap (gv ar n)++[p]
noncomputable def ik (ar:List Nat):Nat→Nat→List Nat
 | 0,_=>[]
 | k+1,p=>p::ik ar k (p+(eat 1 `aa).getD 0)
theorem j5 {ar:List Nat} {k p m:Nat} (h:eat 1 `aa=aA m):ik ar (k+1) p=p::ik ar k (p+m):=by
 show p::ik ar k (p+(eat 1 `aa).getD 0)=_
 rw[h];rfl
theorem n6 {ar:List Nat} {k p n:Nat} (h:eat (k+1) `aa=aA n):∃m,eat 1 `aa=aA m∧m≤n∧1≤m∧eat k (ar.drop (p+m))=aA (n - m):=by
 rw[ae4 k 1,uy] at h;cases e:eat 1 `aa with
 | none=>rw[e] at h;cases h
 | some m=>
  rw[e] at h;have h:(eat k ((ar.drop p).drop m)).map (m+·)=aA n:=h;obtain ⟨t,ht,et⟩:=Option.map_eq_some_iff.mp h;rw[acz] at ht;have et:m+t=n:=et;exact ⟨m,rfl,by omega,cy e,by rw[ht];congr 1;omega⟩
theorem wx {ar:List Nat}:∀(k p n:Nat),eat k `aa=aA n→(starts p `aa).take k=ik ar k p
 | 0,p,n,h=>rfl
 | k+1,p,n,h=>by
  obtain ⟨m,hm,_,_,hk⟩:=n6 h;have hd:=wu _ 1 m p hm;rw[acz] at hd;have hne:ar.drop p≠[]:=λe=>by rw[e] at hm;cases hm
  obtain ⟨t,ht⟩:=xa _ p hne;rw[ht] at hd ⊢;have hd:t=starts (p+m) (ar.drop (p+m)):=hd;rw[j5 hm,List.take_succ_cons,hd,wx k (p+m) _ hk]
theorem gb {ar:List Nat} {p s:Nat} (h:eat 1 `aa=aA s):p < ar.length∧az ar p=ik ar `eW (p+1)∧∃n,eat `eW `cn=aA n∧s=n+1:=by
 have hp:p < ar.length:=Nat.lt_of_not_le λz=>by rw[abr z] at h;cases h
 have hd:ar.drop p=ar.getD p 0::ar.drop (p+1):=by
  rw[aaw hp,aa7,aa2 hp];rfl
 rw[hd] at h;have h:(eat (0+ar.getD p 0) `cn).map (·+1)=aA s:=h;obtain ⟨n,hn,en⟩:=Option.map_eq_some_iff.mp h;rw[abu] at hn;exact ⟨hp,wx _ _ _ hn,n,hn,en.symm⟩
theorem Hr {ar:List Nat}:∀(k p n:Nat),eat k `aa=aA n→∀q∈ik ar k p,∃s,eat 1 (ar.drop q)=aA s∧s≤n∧p≤q∧q+s≤p+n
 | 0,p,n,h,q,hq=>nomatch hq
 | k+1,p,n,h,q,hq=>by
  obtain ⟨m,hm,h1,h2,hk⟩:=n6 h;rw[j5 hm] at hq;rcases List.mem_cons.mp hq with rfl | hq
  ·exact ⟨m,hm,h1,aa3 _,by omega⟩
  ·obtain ⟨s,a,b,c,d⟩:=Hr k _ _ hk q hq;exact ⟨s,a,by omega,by omega,by omega⟩
theorem i8 {ar:List Nat} {p s:Nat} (h:eat 1 `aa=aA s):∀q∈az ar p,∃t,eat 1 (ar.drop q)=aA t∧t+1≤s∧p < q:=λq hq=>by
 obtain ⟨_,hb,n,hn,e⟩:=gb h;rw[hb] at hq;obtain ⟨t,a,b,c,d⟩:=Hr _ _ _ hn q hq;exact ⟨t,a,by omega,by omega⟩
theorem Fs {ar:List Nat} {f:Nat→List Nat}:∀(k q t:Nat),eat k (ar.drop q)=aA t→(∀x s,eat 1 (ar.drop x)=aA s→s≤t→(f x).length=s)→((ik ar k q).flatMap f).length=t
 | 0,q,t,h,hf=>by
  rw[jd] at h;cases h
  rfl
 | k+1,q,t,h,hf=>by
  obtain ⟨m,hm,h1,h2,hk⟩:=n6 h;rw[j5 hm,abx,aa1,hf q m hm h1,Fs k _ _ hk λx s hx hs=>hf x s hx (by omega)];omega
theorem E6 {ar:List Nat}:∀(n p s:Nat),eat 1 `aa=aA s→s≤n→(gv ar n p).length=s
 | 0,p,s,h,hs=>by have:=cy h;omega
 | n+1,p,s,h,hs=>by
  obtain ⟨_,hb,m,hm,e⟩:=gb h;show ((az ar p).flatMap (gv ar n)++[p]).length=s
  rw[aa1,aa4,hb,Fs _ _ _ hm λx t hx ht=>E6 n x t hx (by omega)];omega
theorem km {α β:Type} {f g:α→List β}:∀{l:List α},(∀x∈l,f x=g x)→l.flatMap f=l.flatMap g
 | [],_=>rfl
 | x::l,h=>by
  rw[abx,abx,h x aa6,km λy hy=>h y (aa9 _ hy)]
theorem Cc {ar:List Nat}:∀(n p s:Nat),eat 1 `aa=aA s→s≤n→gv ar (n+1) p=gv ar n p
 | 0,p,s,h,hs=>by have:=cy h;omega
 | n+1,p,s,h,hs=>by
  show (az ar p).flatMap (gv ar (n+1))++[p]=(az ar p).flatMap (gv ar n)++[p]
  rw[km λq hq=>by
   obtain ⟨t,a,b,_⟩:=i8 h q hq;exact Cc n q t a (by omega)]
noncomputable def post (ar:List Nat) (p:Nat):List Nat:=gv ar ar.length p
theorem Eg {ar:List Nat} {p s:Nat} (h:eat 1 `aa=aA s):p+s≤ar.length:=by
 have:=rh _ _ _ h;rw[aau] at this;have:=(gb h).1;omega
theorem post_eq {ar:List Nat} {p s:Nat} (h:eat 1 `aa=aA s):post ar p=(az ar p).flatMap (post ar)++[p]:=by
 have h1:=Eg h;have h2:=cy h;unfold post;obtain ⟨n,hn⟩:∃n,ar.length=n+1:=⟨ar.length - 1,by omega⟩;rw[hn];show (az ar p).flatMap (gv ar n)++[p]=_
 rw[km λq hq=>by
  obtain ⟨t,a,b,_⟩:=i8 h q hq;exact (Cc n q t a (by omega)).symm]
theorem o8 {ar:List Nat} {p s:Nat} (h:eat 1 `aa=aA s):(post ar p).length=s:=E6 _ _ _ h (by have:=Eg h;omega)
noncomputable def back (ar:List Nat) (p:Nat):List Nat:=(post ar p).reverse
theorem back_eq {ar:List Nat} {p s:Nat} (h:eat 1 `aa=aA s):back ar p=p::(az ar p).reverse.flatMap (back ar):=by
 unfold back;rw[post_eq h,ad5,List.reverse_flatMap];rfl
theorem yq {ar:List Nat}:∀{w:List Nat},(∀q∈w,∃s,eat 1 (ar.drop q)=aA s)→w.length≤(w.flatMap (back ar)).length
 | [],_=>aa3 _
 | q::w,h=>by
  have:=yq λx hx=>h x `ct;obtain ⟨s,hs⟩:=h q aa6;have h1:=cy hs;rw[abx,aa1,aa8];have:(back ar q).length=s:=by unfold back;rw[aat,o8 hs]
  omega
def sx:Sp:=λvs H Q _=>∃(hl:Addr) (rs:List Addr) (ar:List Nat),vs=[.ref hl]∧H hl=aA `aT∧dq H rs (az ar)∧rs.length=ar.length∧pend 1 ar=aA 0∧ar.length≤1000∧∀(l:Addr) (H':Hp),ag H H'→H' l=aA (.lst ((post ar 0).map plV))→Q `B H'
theorem Rg {hl:Addr} {rs:List Addr} {ar:List Nat} {H:Hp} {Q:VK} {E:XK} (p0:H hl=aA `aT) (p1:dq H rs (az ar)) (p2:rs.length=ar.length) (p3:pend 1 ar=aA 0) (p4:ar.length≤1000) (p5:∀(l:Addr) (H':Hp),ag H H'→H' l=aA (.lst ((post ar 0).map plV))→Q `B H'):sx [.ref hl] H Q E:=⟨hl,rs,ar,rfl,p0,p1,p2,p3,p4,p5⟩
abbrev Sd:=Rd×Und
def xf (H:Hp) (t:Addr) (e:Sd):Prop:=∃ra ut:Addr,H t=aA `eG∧jo H ra e.1∧j0 H ut e.2
theorem xf.tk {H H':Hp} {t:Addr} {e:Sd} (h:xf H t e) (s:TK H H'):xf H' t e:=by
 obtain ⟨ra,ut,h1,h2,h3⟩:=h;exact ⟨ra,ut,s _ _ h1,h2.tk s,h3.tk' s⟩
def nq (H:Hp) (as:List Addr) (es:List Sd):Prop:=as.length=es.length∧∀(j:Nat) (e:Sd),es[j]?=aA e→∃a,as[j]?=aA a∧xf H a e
theorem nq.tk {H H':Hp} {as:List Addr} {es:List Sd} (h:nq H as es) (s:TK H H'):nq H' as es:=⟨h.1,λj e he=>by obtain ⟨a,a1,a2⟩:=h.2 j e he;exact ⟨a,a1,a2.tk s⟩⟩
theorem dm.cons {rd:List Rd} {H:Hp} {a:Addr} {as:List Addr} {d:Rl×Und} {ds:List (Rl×Und)} (h:dm rd H (a::as) (d::ds)):ny rd H a d.1 d.2∧dm rd H as ds:=by
 obtain ⟨h1,h2⟩:=h;rw[aa8,aa8] at h1;refine ⟨?_,by omega,λj x hx=>h2 (j+1) x hx⟩;obtain ⟨a',b1,b2⟩:=h2 0 d rfl;cases b1
 exact b2
theorem dm.steps {rd:List Rd} {H:Hp}:∀{as:List Addr} {ds:List (Rl×Und)},dm rd H as ds→∃es:List Sd,es.map (λe=>(e.1.1,e.2))=ds∧(∀e∈es,e.1∈rd)∧nq H as es
 | [],[],_=>⟨[],rfl,(λ_ h=>nomatch h),rfl,λj e h=>by simp at h⟩
 | [],_::_,h=>by cases h.1
 | _::_,[],h=>by cases h.1
 | a::as,d::ds,h=>by
  obtain ⟨h1,h2⟩:=h.cons;obtain ⟨es,e1,e2,e3,e4⟩:=dm.steps h2;obtain ⟨x,ra,ut,hx,hxd,g1,g2,g3⟩:=h1;refine ⟨(x,d.2)::es,by rw[aas,e1,hxd],λe he=>?_,by rw[aa8,aa8,e3],λj e he=>?_⟩
  ·rcases List.mem_cons.mp he with rfl | he
   ·exact hx
   ·exact e2 e he
  ·cases j with
   | zero=>cases he;exact ⟨a,rfl,ra,ut,g1,g2,g3⟩
   | succ j=>exact e4 j e he
noncomputable def nbE (es:List Sd) (p:Nat):Nat:=((es[p]?).map λe=>(b9 e.1.2).length).getD 0
noncomputable def baseOf (nb:Nat→Nat):List Nat→Nat→Nat→Nat
 | [],c,_=>c
 | o::r,c,p=>if o=p then c else baseOf nb r (c+nb o) p
noncomputable def sumOf (nb:Nat→Nat) (os:List Nat):Nat:=(os.map nb).sum
theorem yf {nb:Nat→Nat}:∀{os:List Nat} {r:List Nat} {c p:Nat},p∉os→baseOf nb (os++r) c p=baseOf nb r (c+sumOf nb os) p
 | [],r,c,p,_=>rfl
 | o::os,r,c,p,h=>by
  show (if o=p then c else baseOf nb (os++r) (c+nb o) p)=_
  rw[if_neg λe=>h (by rw[e];exact aa6),yf λz=>h (aa9 _ z)];congr 1
  unfold sumOf;rw[aas,adz];omega
theorem xv {nb:Nat→Nat}:∀{os:List Nat} {r:List Nat} {c p:Nat},p∈os→baseOf nb (os++r) c p=baseOf nb os c p
 | o::os,r,c,p,h=>by
  show (if o=p then c else baseOf nb (os++r) (c+nb o) p)=if o=p then c else baseOf nb os (c+nb o) p
  by_cases e:o=p
  ·rw[if_pos e,if_pos e]
  ·rw[if_neg e,if_neg e];rcases List.mem_cons.mp h with z | z
   ·exact absurd z.symm e
   ·exact xv z
theorem Cf {nb:Nat→Nat} {os:List Nat} {c p:Nat} (h:p∉os):baseOf nb (os++[p]) c p=c+sumOf nb os:=by
 rw[yf h];show (if p=p then _ else _)=_
 rw[if_pos rfl]
theorem Fc (nb:Nat→Nat) (os:List Nat) (p:Nat):sumOf nb (os++[p])=sumOf nb os+nb p:=by
 unfold sumOf;rw[aab,adt];simp
theorem Kr (dd:List `o):(b9 dd).length≤4:=aei _ _
theorem nb_le (es:List Sd) (p:Nat):nbE es p≤4:=by
 unfold nbE;cases es[p]? with
 | none=>exact aai _
 | some e=>exact Kr _
theorem Qo (es:List Sd):∀os:List Nat,sumOf `aN os≤4*os.length
 | []=>aa3 _
 | o::os=>by
  have h1:=Qo es os;have h2:=nb_le es o;unfold sumOf at h1 ⊢;rw[aas,adz,aa8];omega
def m9 (H:Hp) (no:Addr→Prop) (d:Addr) (es:List Sd) (os:List Nat):Prop:=∃kvs:List (Key×V),H d=aA `aU∧kvs.length≤os.length∧∀p∈os,∃l,¬no l∧bf kvs (bA (p:Int))=aA `B∧H l=aA (.lst ((acm (baseOf `aN os 0 p) (nbE es p)).map plV))
theorem ua {κ:Type} [DecidableEq κ] (kvs:List (κ×V)) (k:κ) (v:V):(putK kvs k v).length≤kvs.length+1:=by
 unfold putK;split
 ·rw[aa0];omega
 ·rw[aa1,aa4];exact aa3 _
theorem m9.nil {H:Hp} {no:Addr→Prop} {d:Addr} {es:List Sd}:m9 (upd H d `bU) no d es []:=⟨[],aa,aa3 _,λp h=>nomatch h⟩
theorem m9.same {H H':Hp} {no:Addr→Prop} {d:Addr} {es:List Sd} {os:List Nat} (h:m9 H no d es os) (s:ag H H'):m9 H' no d es os:=by
 obtain ⟨kvs,h1,h2,h3⟩:=h;exact ⟨kvs,s _ _ h1,h2,λp hp=>by obtain ⟨l,a,b,c⟩:=h3 p hp;exact ⟨l,a,b,s _ _ c⟩⟩
theorem m9.weak {H:Hp} {no no':Addr→Prop} {d:Addr} {es:List Sd} {os:List Nat} (h:m9 H no d es os) (w:∀x,no' x→no x):m9 H no' d es os:=by
 obtain ⟨kvs,h1,h2,h3⟩:=h;exact ⟨kvs,h1,h2,λp hp=>by obtain ⟨l,a,b,c⟩:=h3 p hp;exact ⟨l,λz=>a (w _ z),b,c⟩⟩
theorem m9.snoc {H:Hp} {no:Addr→Prop} {d l:Addr} {es:List Sd} {os:List Nat} {p:Nat} (h:m9 H no d es os) (hd:no d) (hp:p∉os) (hl:¬no l) (e:H l=aA (.lst ((acm (sumOf `aN os) (nbE es p)).map plV))):∃kvs,H d=aA `aU∧kvs.length≤os.length∧m9 (upd H d (.dK (putK kvs (bA (p:Int)) `B))) no d es (os++[p]):=by
 obtain ⟨kvs,h1,h2,h3⟩:=h;refine ⟨kvs,h1,h2,_,aa,?_,λq hq=>?_⟩
 ·have:=ua kvs (bA (p:Int)) `B;rw[aa1,aa4];omega
 ·by_cases c:q=p
  ·subst c;refine ⟨l,hl,by rw[cg,if_pos rfl],?_⟩;rw[ah (λz:l=d=>hl (by rw[z];exact hd)),e,Cf hp,abu]
  ·have hq':q∈os:=by
    rcases List.mem_append.mp hq with z | z
    ·exact z
    ·exact absurd `eo c
   obtain ⟨l',a1,a2,a3⟩:=h3 q hq';refine ⟨l',a1,?_,?_⟩
   ·rw[cg,if_neg λz=>c (by have:=jR z;omega)];exact a2
   ·rw[ah (λz:l'=d=>a1 (by rw[z];exact hd)),a3,xv hq']
theorem Rh (b n:Nat):(abh n).map (λk:Nat=>V.int ((b:Int)+(k:Int)))=(acm b n).map plV:=by
 rw[List.range'_eq_map_range,abd];refine adu λk _=>?_;show V.int _=V.int ((b+k:Nat):Int)
 congr 1
def yp (e:Sd):Prop:=(∀x∈e.1.2,∀v∈x,isW v)∧e.1.2.length≤100
def oz:Sp:=λvs H Q _=>∃(sl ol:Addr) (as:List Addr) (es:List Sd) (os:List Nat),vs=[.ref sl,.ref ol]∧H sl=aA `e∧nq H as es∧H ol=aA `b6∧os.Nodup∧(∀o∈os,o < es.length)∧(∀e∈es,yp e)∧os.length≤1000∧∀(d:Addr) (H':Hp),ag H H'→H d=none→m9 H' (λx=>H x≠none) d es os→Q `X H'
theorem Mh {sl ol:Addr} {as:List Addr} {es:List Sd} {os:List Nat} {H:Hp} {Q:VK} {E:XK} (p0:H sl=aA `e) (p1:nq H as es) (p2:H ol=aA `b6) (p3:os.Nodup) (p4:∀o∈os,o < es.length) (p5:∀e∈es,yp e) (p6:os.length≤1000) (p7:∀(d:Addr) (H':Hp),ag H H'→H d=none→m9 H' (λx=>H x≠none) d es os→Q `X H'):oz [.ref sl,.ref ol] H Q E:=⟨sl,ol,as,es,os,rfl,p0,p1,p2,p3,p4,p5,p6,p7⟩
noncomputable def n8 (m:Str→Option V) (k:Str) (v:V):Str→Option V:=λz=>if z=k then aA v else m z
noncomputable def bz (c:Str) (n:Nat):Str:=(iB++c)++aB (toString ((n:Nat):Int))
noncomputable def putL (c:Str):List V→Nat→(Str→Option V)→(Str→Option V)
 | [],_,m=>m
 | x::xs,j,m=>putL c xs (j+1) (n8 m (bz c (j+1)) x)
theorem qc (c:Str) (x:V):∀(xs:List V) (j:Nat) (m:Str→Option V),putL c (xs++[x]) j m=n8 (putL c xs j m) (bz c (j+xs.length+1)) x
 | [],j,m=>rfl
 | y::xs,j,m=>by
  show putL c (xs++[x]) (j+1) _=n8 (putL c xs (j+1) _) _ x
  rw[qc c x xs (j+1),aa8,show j+1+xs.length+1=j+(xs.length+1)+1 by omega]
noncomputable def my (us:List Str) (bs:List Int):Str→Option V:=λz=>bf (b7 `b2 []) (aM z)
noncomputable def chS (ch:Nat):Str:=⟨#[ch]⟩
noncomputable def ir (e:Sd) (is bs:List Int):Str→Option V:=putL `cm e.2.vs 0 (putL `bV e.2.ns 0 (putL `K `bP 0 `d7))
def DM (H:Hp) (d:Addr) (m:Str→Option V) (n:Nat):Prop:=∃kvs:List (Key×V),H d=aA `aU∧kvs.length≤n∧(∀z,bf kvs (aM z)=m z)∧∀i,bf kvs (bA i)=none
theorem DM.same {H H':Hp} {d:Addr} {m:Str→Option V} {n:Nat} (h:DM H d m n) (s:ag H H'):DM H' d m n:=by
 obtain ⟨kvs,h1,h2⟩:=h;exact ⟨kvs,s _ _ h1,h2⟩
theorem DM.put {H:Hp} {d:Addr} {m:Str→Option V} {n:Nat} (h:DM H d m n) (hn:n≤100000) (z:Str) (v:V):∃H',va H d `J v H'∧DM H' d (n8 m z v) (n+1)∧∃o,H'=upd H d o:=by
 obtain ⟨kvs,h1,h2,h3,h4⟩:=h;have sz:=aV;refine ⟨_,va.k (k:=aM z) h1 (by omega),⟨_,aa,?_,λy=>?_,λi=>?_⟩,_,rfl⟩
 ·have:=ua kvs (aM z) v;omega
 ·rw[cg];unfold n8;by_cases c:y=z
  ·rw[if_pos (by rw[c]),if_pos c]
  ·rw[if_neg (λe=>c (eB e)),if_neg c];exact h3 y
 ·rw[cg,if_neg (λe=>nomatch e)];exact h4 i
def xt:Sp:=λvs H Q _=>∃(st rl bl:Addr) (e:Sd) (is bs:List Int),vs=[.ref st,.ref rl,.ref bl]∧xf H st e∧yp e∧H rl=aA (.lst `bP)∧H bl=aA `dx∧bs.length=(b9 e.1.2).length∧is.length≤1000∧e.2.ns.length≤1000∧e.2.vs.length≤1000∧∀(d:Addr) (H':Hp),ag H H'→DM H' d `d8 4000→Q `X H'
theorem Vb {st rl bl:Addr} {e:Sd} {is bs:List Int} {H:Hp} {Q:VK} {E:XK} (p0:xf H st e) (p1:yp e) (p2:H rl=aA (.lst `bP)) (p3:H bl=aA `dx) (p4:bs.length=(b9 e.1.2).length) (p5:is.length≤1000) (p6:e.2.ns.length≤1000) (p7:e.2.vs.length≤1000) (p8:∀(d:Addr) (H':Hp),ag H H'→DM H' d `d8 4000→Q `X H'):xt [.ref st,.ref rl,.ref bl] H Q E:=⟨st,rl,bl,e,is,bs,rfl,p0,p1,p2,p3,p4,p5,p6,p7,p8⟩
noncomputable def mI (e:Sd) (is bs:List Int):Nat→Str→Option V
 | 0=>my (b9 e.1.2) bs
 | 1=>putL `K `bP 0 `d7
 | 2=>putL `bV e.2.ns 0 (putL `K `bP 0 `d7)
 | _=>ir e is bs
theorem Ct {i:Int}:∀(ps acc:List (Key×V)),(∀p∈ps,∃z:Str,p.1=aM z)→bf acc (bA i)=none→bf (b7 ps acc) (bA i)=none
 | [],acc,_,h=>h
 | p::ps,acc,hp,h=>by
  show bf (b7 ps `c2) (bA i)=none
  refine Ct ps _ (λq hq=>hp q (aa9 _ hq)) ?_;obtain ⟨z,hz⟩:=hp p aa6;rw[cg,hz,if_neg (λe=>nomatch e)];exact h
theorem DM.first {H:Hp} {d:Addr} {us:List Str} {bs:List Int} (hl:us.length≤4):DM (upd H d (.dK (b7 `b2 []))) d (my us bs) 4:=by
 refine ⟨_,aa,?_,λz=>rfl,λi=>Ct _ _ (λp hp=>?_) rfl⟩
 ·have:=jg `b2 [];rw[abm,aa0] at this;have e:([]:List (Key×V)).length=0:=rfl;omega
 ·obtain ⟨z,_,e⟩:=List.mem_map.mp (ac3 (a:=p.1) (b:=p.2) hp).1;exact ⟨z,e.symm⟩
theorem DM.mono {H:Hp} {d:Addr} {m:Str→Option V} {n n':Nat} (h:DM H d m n) (e:n≤n'):DM H d m n':=by
 obtain ⟨kvs,h1,h2,h3⟩:=h;exact ⟨kvs,h1,by omega,h3⟩
noncomputable def wOf (m:Str→Option V):V→V
 | .str z=>(m z).getD `J
 | v=>v
noncomputable def rowOf (m:Str→Option V) (x:List V):List V:=x.take 1++(x.drop 1).map (wOf m)
noncomputable def j6 (e:Sd) (is bs:List Int):List `o:=e.1.2.map (rowOf `d8)
theorem bp.snoc1 {H:Hp} {as:List Addr} {dd:List `o} (h:bp H as dd) {a:Addr} {x:List V} (e:H a=aA (.tup x)):bp H (as++[a]) (dd++[x]):=by
 refine ⟨by rw[aa1,aa1,h.1];rfl,λi f' hi=>?_⟩;by_cases c:i < dd.length
 ·rw[aag c] at hi;obtain ⟨a',g1,g2⟩:=h.2 i f' hi;exact ⟨a',by rw[aag (by rw[h.1];exact c)];exact g1,g2⟩
 ·rw[aad (by omega)] at hi;have hz:i - dd.length=0:=by
   rcases adb (i - dd.length) with g | g
   ·exact g
   ·rw[abk (by rw[aa4];omega)] at hi;cases hi
  rw[hz] at hi;cases hi
  exact ⟨a,by rw[aad (by rw[h.1];omega),h.1,hz];rfl,e⟩
theorem DM.get {H:Hp} {d:Addr} {m:Str→Option V} {n:Nat} (h:DM H d m n) {v:V} (hv:isW v):∃o,e9 H d v o∧o.getD v=wOf m v:=by
 obtain ⟨kvs,h1,h2,h3,h4⟩:=h;obtain ⟨k,rfl⟩:=hv;refine ⟨_,e9.k h1,?_⟩;cases k with
 | inl i=>rw[h4 i];rfl
 | inr z=>rw[h3 z];rfl
theorem DM.ty {K:aG} {H:Hp} {d:Addr} {m:Str→Option V} {n:Nat} (h:DM H d m n):tyV K "dict" (.ref d) H:=by
 obtain ⟨kvs,h1,_⟩:=h;exact Rw h1
theorem Vl (x:List V) (h:1≤x.length):jk x none (aA 1)=x.take 1:=uk x 1 h
def xn:Sp:=λvs H Q _=>∃(st rl bl:Addr) (e:Sd) (is bs:List Int),vs=[.ref st,.ref rl,.ref bl]∧xf H st e∧yp e∧H rl=aA (.lst `bP)∧H bl=aA `dx∧bs.length=(b9 e.1.2).length∧is.length≤1000∧e.2.ns.length≤1000∧e.2.vs.length≤1000∧(∀x∈e.1.2,x.length≤100)∧(∀x∈e.1.2,1≤x.length)∧∀(l:Addr) (as:List Addr) (H':Hp),ag H H'→H l=none→H' l=aA `e→bp H' as (j6 e is bs)→Q `B H'
theorem Tg {st rl bl:Addr} {e:Sd} {is bs:List Int} {H:Hp} {Q:VK} {E:XK} (p0:xf H st e) (p1:yp e) (p2:H rl=aA (.lst `bP)) (p3:H bl=aA `dx) (p4:bs.length=(b9 e.1.2).length) (p5:is.length≤1000) (p6:e.2.ns.length≤1000) (p7:e.2.vs.length≤1000) (p8:∀x∈e.1.2,x.length≤100) (p9:∀x∈e.1.2,1≤x.length) (pa:∀(l:Addr) (as:List Addr) (H':Hp),ag H H'→H l=none→H' l=aA `e→bp H' as (j6 e is bs)→Q `B H'):xn [.ref st,.ref rl,.ref bl] H Q E:=⟨st,rl,bl,e,is,bs,rfl,p0,p1,p2,p3,p4,p5,p6,p7,p8,p9,pa⟩
structure EsOk (e:Sd):Prop where
 dy:yp e
 ns:e.2.ns.length≤1000
 vs:e.2.vs.length≤1000
 fl:∀x∈e.1.2,x.length≤100
 ne:∀x∈e.1.2,1≤x.length
noncomputable def resP (es:List Sd) (os ar:List Nat) (p:Nat):List Int:=(az ar p).map λq=>((baseOf `aN os 0 q:Nat):Int)
noncomputable def bxP (es:List Sd) (os:List Nat) (p:Nat):List Int:=(acm (baseOf `aN os 0 p) (nbE es p)).map λq=>((q:Nat):Int)
noncomputable def oj (es:List Sd) (os ar:List Nat) (p:Nat):List `o:=match es[p]? with
 | some e=>j6 e (resP es os ar p) (bxP es os p)
 | none=>[]
def x6:Sp:=λvs H Q _=>∃(sl hl ol d:Addr) (as rs:List Addr) (es:List Sd) (os ar:List Nat) (no:Addr→Prop),vs=[.ref sl,.ref hl,.ref ol,.ref d]∧H sl=aA `e∧nq H as es∧H hl=aA `aT∧dq H rs (az ar)∧rs.length=es.length∧H ol=aA `b6∧m9 H no d es os∧(∀o∈os,o < es.length)∧(∀e∈es,EsOk e)∧(∀o∈os,(az ar o).length≤1000∧∀q∈az ar o,q∈os∧1≤nbE es q)∧os.length≤1000∧∀(l:Addr) (bs:List Addr) (H':Hp),ag H H'→H l=none→H' l=aA `bN→bp H' bs (os.flatMap `eS)→Q `B H'
theorem Vu {sl hl ol d:Addr} {as rs:List Addr} {es:List Sd} {os ar:List Nat} {no:Addr→Prop} {H:Hp} {Q:VK} {E:XK} (p0:H sl=aA `e) (p1:nq H as es) (p2:H hl=aA `aT) (p3:dq H rs (az ar)) (p4:rs.length=es.length) (p5:H ol=aA `b6) (p6:m9 H no d es os) (p7:∀o∈os,o < es.length) (p8:∀e∈es,EsOk e) (p9:∀o∈os,(az ar o).length≤1000∧∀q∈az ar o,q∈os∧1≤nbE es q) (pa:os.length≤1000) (pb:∀(l:Addr) (bs:List Addr) (H':Hp),ag H H'→H l=none→H' l=aA `bN→bp H' bs (os.flatMap `eS)→Q `B H'):x6 [.ref sl,.ref hl,.ref ol,.ref d] H Q E:=⟨sl,hl,ol,d,as,rs,es,os,ar,no,rfl,p0,p1,p2,p3,p4,p5,p6,p7,p8,p9,pa,pb⟩
theorem Bx {es:List Sd} (h:∀e∈es,EsOk e) (os ar:List Nat):∀xs:List Nat,(xs.flatMap `eS).length≤100*xs.length
 | []=>aa3 _
 | x::xs=>by
  have ih:=Bx h os ar xs;rw[abx,aa1,aa8];have:(oj es os ar x).length≤100:=by
   unfold oj;cases e:es[x]? with
   | none=>exact aai _
   | some a=>
    show (j6 a _ _).length≤100
    unfold j6;rw[aa0];exact (h a (aak e)).dy.2
  omega
theorem Ca {ar:List Nat} {f:Nat→List Nat}:∀(k p t:Nat),eat k `aa=aA t→(∀x s,eat 1 (ar.drop x)=aA s→s≤t→p≤x→x+s≤p+t→(∀q∈f x,x≤q∧q < x+s)∧(f x).Nodup)→(∀q∈(ik ar k p).flatMap f,p≤q∧q < p+t)∧((ik ar k p).flatMap f).Nodup
 | 0,p,t,h,hf=>⟨(λq hq=>nomatch hq),acx⟩
 | k+1,p,t,h,hf=>by
  obtain ⟨m,hm,h1,h2,hk⟩:=n6 h;obtain ⟨a1,a2⟩:=hf p m hm h1 (aa3 _) (by omega);obtain ⟨b1,b2⟩:=Ca k (p+m) (t - m) hk λx s hx hs hp hq=>hf x s hx (by omega) (by omega) (by omega);rw[j5 hm,abx];refine ⟨λq hq=>?_,List.nodup_append.mpr ⟨a2,b2,λx hx y hy=>?_⟩⟩
  ·rcases List.mem_append.mp hq with z | z
   ·have:=a1 q z;omega
   ·have:=b1 q z;omega
  ·have:=a1 x hx;have:=b1 y hy;omega
theorem vt {ar:List Nat}:∀(n p s:Nat),eat 1 `aa=aA s→s≤n→(∀q∈gv ar n p,p≤q∧q < p+s)∧(gv ar n p).Nodup
 | 0,p,s,h,hs=>by have:=cy h;omega
 | n+1,p,s,h,hs=>by
  obtain ⟨hp,hb,m,hm,e⟩:=gb h;have k:=Ca _ (p+1) m hm (f:=gv ar n) λx t hx ht _ _=>vt n x t hx (by omega);show (∀q∈(az ar p).flatMap (gv ar n)++[p],p≤q∧q < p+s)∧((az ar p).flatMap (gv ar n)++[p]).Nodup
  rw[hb];refine ⟨λq hq=>?_,List.nodup_append.mpr ⟨k.2,by simp,λx hx y hy=>?_⟩⟩
  ·rcases List.mem_append.mp hq with z | z
   ·have:=k.1 q z;omega
   ·rw[List.mem_singleton.mp z];omega
  ·have:=k.1 x hx;rw[List.mem_singleton.mp hy];omega
theorem Cp {ar:List Nat} {n p:Nat}:p∈gv ar (n+1) p:=aar _ aa6
theorem zq {ar:List Nat}:∀(n p s:Nat),eat 1 `aa=aA s→s≤n→∀o∈gv ar n p,(∃t,eat 1 (ar.drop o)=aA t)∧∀q∈az ar o,q∈gv ar n p
 | 0,p,s,h,hs=>by have:=cy h;omega
 | n+1,p,s,h,hs=>λo ho=>by
  have ho:o∈(az ar p).flatMap (gv ar n)++[p]:=ho;rcases List.mem_append.mp ho with z | z
  ·obtain ⟨k,hk,hok⟩:=List.mem_flatMap.mp z;obtain ⟨t,ht,h1,h2⟩:=i8 h k hk;obtain ⟨g1,g2⟩:=zq n k t ht (by omega) o hok;exact ⟨g1,λq hq=>abp _ (List.mem_flatMap.mpr ⟨k,hk,g2 q hq⟩)⟩
  ·obtain rfl:=List.mem_singleton.mp z;refine ⟨⟨s,h⟩,λq hq=>abp _ (List.mem_flatMap.mpr ⟨q,hq,?_⟩)⟩;obtain ⟨t,ht,h1,h2⟩:=i8 h q hq;have:=cy ht;obtain ⟨n',rfl⟩:∃n',n=n'+1:=⟨n - 1,by omega⟩;exact Cp
theorem Uv {ar:List Nat} (h:pend 1 ar=aA 0):(post ar 0).Nodup∧(post ar 0).length=ar.length∧(∀o∈post ar 0,o < ar.length)∧(∀o∈post ar 0,∀q∈az ar o,q∈post ar 0)∧0∈post ar 0:=by
 have e0:eat 1 (ar.drop 0)=aA ar.length:=by rw[acn];exact gc _ _ h
 have t:=vt ar.length 0 ar.length e0 (aa3 _);have b:=zq ar.length 0 ar.length e0 (aa3 _);refine ⟨t.2,o8 e0,λo ho=>by have:=t.1 o ho;omega,λo ho=>(b o ho).2,?_⟩;have hp:=(gb e0).1;unfold post;obtain ⟨n,hn⟩:∃n,ar.length=n+1:=⟨ar.length - 1,by omega⟩;rw[hn];exact Cp
theorem Jk {ar:List Nat} (p:Nat):(az ar p).length≤ar.length:=by
 unfold az;rw[ab1];have:=Bo `cn (p+1);rw[aau] at this;omega
theorem rm {kinds:List Str} {rs:List Rl} {ws:List V} (bk:Bk kinds rs):∀{ns:List Str} {st:List Ky} {ds:List (Rl×Und)},cu kinds rs ws ns st=aA ds→pend st.length (er ds)=aA 0
 | [],[],ds,h=>by
  have h:aA []=aA ds:=h;cases h
  rfl
 | [],_::_,ds,h=>by cases h
 | _::_,[],ds,h=>by cases h
 | nm::r,k::st,ds,h=>by
  cases e:dr kinds rs ws nm k.2 k.1 with
  | none=>rw[ia e] at h;cases h
  | some d=>
   rw[gz e] at h;obtain ⟨ds',h',rfl⟩:=Option.map_eq_some_iff.mp h;have ih:=rm bk h';rw[aa1] at ih;have el:(Be kinds d).length=d.2.hs.length:=by
    obtain ⟨a1,a2⟩:=o7 (r:=d.1) (u:=d.2) e;unfold Be;rw[abm];obtain ⟨a3,a4,a5⟩:=a2;have:=(uu bk.kd d.1.shape k.1 _ d.2 (bk.sh d.1 a1).1 a5).1;have z:(⟨[],[],[]⟩:Und).hs.length=0:=rfl;omega
   show pend (st.length+d.2.hs.length) (er ds')=aA 0
   rw[←el,ae4];exact ih
theorem Hl {kinds:List Str} {ws:List V}:∀(sh:List V) (p:Nat) (u u':Und),bu kinds ws sh p u=aA u'→u'.ns.length≤u.ns.length+sh.length∧u'.vs.length≤u.vs.length+sh.length
 | [],p,u,u',h=>by
  have h:aA u=aA u':=h;cases h
  exact ⟨aaz _ _,aaz _ _⟩
 | v::sh,p,u,u',h=>by
  rw[cv] at h;by_cases c:lies `q v `aE=true
  ·rw[if_pos c] at h;have ih:=Hl sh _ _ _ h;have e:(u.put `q p `aE).ns.length≤u.ns.length+1∧(u.put `q p `aE).vs.length≤u.vs.length+1:=by
    unfold Und.put;split
    ·exact ⟨abe _,abe _⟩
    ·split
     ·exact ⟨by rw[aa1];exact aa3 _,abe _⟩
     ·split
      ·exact ⟨abe _,by rw[aa1];exact aa3 _⟩
      ·exact ⟨abe _,abe _⟩
   rw[aa8];omega
  ·rw[if_neg c] at h;cases h
theorem Bl {kinds:List Str} {rs:List Rl} {ws:List V} (bk:Bk kinds rs):∀{ns:List Str} {st:List Ky} {ds:List (Rl×Und)},cu kinds rs ws ns st=aA ds→∀d∈ds,d.2.ns.length≤100∧d.2.vs.length≤100
 | [],[],ds,h=>by
  have h:aA []=aA ds:=h;cases h
  exact λd hd=>nomatch hd
 | [],_::_,ds,h=>by cases h
 | _::_,[],ds,h=>by cases h
 | nm::r,k::st,ds,h=>by
  cases e:dr kinds rs ws nm k.2 k.1 with
  | none=>rw[ia e] at h;cases h
  | some d=>
   rw[gz e] at h;obtain ⟨ds',h',rfl⟩:=Option.map_eq_some_iff.mp h;intro x hx;rcases List.mem_cons.mp hx with rfl | hx
   ·obtain ⟨a1,a3,a4,a5⟩:=o7 (r:=x.1) (u:=x.2) e;have h1:=Hl _ _ _ _ a5;have h2:=(bk.sh x.1 a1).2.2;have z1:(⟨[],[],[]⟩:Und).ns.length=0:=rfl;have z2:(⟨[],[],[]⟩:Und).vs.length=0:=rfl;omega
   ·exact Bl bk h' x hx
structure Hv (x:Rd):Prop where
 w:∀d∈x.2,(∀v∈d,isW v)∧1≤d.length∧d.length≤100
 n:x.2.length≤100
 out:sy "out" x.2=true
theorem Hv.nb {es:List Sd} (h:∀e∈es,Hv e.1) {p:Nat} (hp:p < es.length):1≤nbE es p:=by
 unfold nbE;rw[aa2 hp];have:=(h _ (aaj hp)).out;show 1≤(b9 es[p].1.2).length
 unfold b9 gx;rw[ab9,if_pos this,aa8];omega
noncomputable def ud (es:List Sd) (ar:List Nat):List `o:=(post ar 0).flatMap (oj es (post ar 0) ar)
noncomputable def yy (es:List Sd) (ar:List Nat):Nat:=baseOf `aN (post ar 0) 0 0
noncomputable def tS:List Str:=["t1","t2","t3"]
noncomputable def hasT (b:Str) (dd:List `o):Bool:=dd.any λx=>inV `ee (x.drop 1)
noncomputable def fq (dd:List `o):List Str:=aB "out"::tS.filter λb=>hasT b dd
theorem Cvd.cover {kinds:List Str} {rd:List Rd} {ws:List V} (bk:Bk kinds (rd.map (·.1))) {st:List Ky} {cs:List Rd} (h:Cvd kinds rd ws st cs):∃us:List Und,us.length=cs.length∧cu kinds (rd.map (·.1)) ws (cs.map λr=>r.1.name) st=aA ((cs.map (·.1)).zip us):=by
 induction h with
 | nil=>exact ⟨[],rfl,rfl⟩
 | @cons k st r u cs hr hk hu h ih=>
  obtain ⟨us,e1,e2⟩:=ih;obtain ⟨i,hi⟩:=ab7 hr;have hi':(rd.map (·.1))[i]?=aA r.1:=by rw[aa5,hi];rfl
  have hit:dr kinds (rd.map (·.1)) ws r.1.name k.2 k.1=aA (r.1,u):=by
   rw[←hk,Gn bk hi',hu];rfl
  refine ⟨u::us,by rw[aa8,aa8,e1],?_⟩;show cu kinds (rd.map (·.1)) ws (r.1.name::cs.map λr=>r.1.name) (k::st)=_
  rw[gz hit];show (cu kinds (rd.map (·.1)) ws (cs.map λr=>r.1.name) (u.hs.zip `A++st)).map ((r.1,u)::·)=_
  rw[e2];rfl
def okD (d:List V):Prop:=(∀v∈d,isW v)∧1≤d.length∧d.length≤100
theorem Ld (z:Str):isW `J:=⟨aM z,rfl⟩
theorem isW_i (i:Int):isW `cj:=⟨bA i,rfl⟩
theorem eu {d:List V} (h:d.all (λv=>match v with | .str _=>true | .int _=>true | _=>false)=true) (h1:1≤d.length) (h2:d.length≤100):okD d:=by
 refine ⟨λv hv=>?_,h1,h2⟩;have:=List.all_eq_true.mp h v hv;cases v with
 | str z=>exact Ld z
 | int i=>exact isW_i i
 | _=>cases this
theorem Lv.okd (l:Lv) (k:Cnt) (bx:Str):(∀d∈l.gs k bx,okD d)∧(l.gs k bx).length≤1:=by
 cases l with
 | h=>exact ⟨(λd hd=>nomatch hd),aai _⟩
 | n=>exact ⟨λd hd=>by rw[List.mem_singleton.mp hd];exact eu rfl `c `c,aa3 _⟩
 | v=>exact ⟨λd hd=>by rw[List.mem_singleton.mp hd];exact eu rfl `c `c,aa3 _⟩
 | c=>exact ⟨λd hd=>by rw[List.mem_singleton.mp hd];exact eu rfl `c `c,aa3 _⟩
theorem fh {a b:List `o} (h:∀d∈a,okD d) (g:∀d∈b,okD d):∀d∈a++b,okD d:=λd hd=>by
 rcases List.mem_append.mp hd with z | z
 ·exact h d z
 ·exact g d z
theorem ki {b:Str} {dd:List `o} {x:List V} (h:x∈dd) (e:inV `ee x=true):sy b dd=true:=List.any_eq_true.mpr ⟨x,h,e⟩
theorem Cy (a b:V) (z:Str) (r:List V) (h:b=.str z):inV `J (a::b::r)=true:=by
 subst h;exact List.any_eq_true.mpr ⟨_,aa9 _ aa6,by simp[eqV]⟩
theorem Mk.ok {kinds:List Str} {sh:List V} {dd:List `o} (h:Mk kinds sh dd):(∀d∈dd,okD d)∧dd.length≤100∧sy `n dd=true:=by
 cases h with
 | any=>exact ⟨λd hd=>by rw[List.mem_singleton.mp hd];exact eu rfl `c `c,by decide,by decide+kernel⟩
 | var=>exact ⟨λd hd=>by rw[List.mem_singleton.mp hd];exact eu rfl `c `c,by decide,by decide+kernel⟩
 | neg=>exact ⟨λd hd=>by rw[List.mem_singleton.mp hd];exact eu rfl `c `c,by decide,by decide+kernel⟩
 | two=>exact ⟨λd hd=>by rw[List.mem_singleton.mp hd];exact eu rfl `c `c,by simp,ki aa6 `cM⟩
 | vzero=>exact ⟨λd hd=>by rw[List.mem_singleton.mp hd];exact eu rfl `c `c,by decide,by decide+kernel⟩
 | four=>
  refine ⟨λd hd=>?_,by decide,by decide+kernel⟩;simp only[aan,aac,or_false] at hd;rcases hd with rfl | rfl | rfl <;> exact eu rfl `c `c
 | zero=>
  refine ⟨λd hd=>?_,by decide,by decide+kernel⟩;simp only[aan,aac,or_false] at hd;rcases hd with rfl | rfl <;> exact eu rfl `c `c
 | twice=>
  refine ⟨λd hd=>?_,by decide,by decide+kernel⟩;simp only[aan,aac,or_false] at hd;rcases hd with rfl | rfl | rfl | rfl <;> exact eu rfl `c `c
 | way=>
  refine ⟨λd hd=>?_,by show (3:Nat)≤100;decide,ki `eZ `cM⟩;simp only[aan,aac,or_false] at hd;rcases hd with rfl | rfl | rfl <;> exact eu rfl `c `c
 | s1 h=>
  rename_i l
  have a:=l.okd c0 "t1";refine ⟨fh a.1 λd hd=>by rw[List.mem_singleton.mp hd];exact eu rfl `c `c,by rw[aa1,aa4];omega,ki `eX `cM⟩
 | s2=>
  rename_i w l m _ _ _
  have a:=l.okd c0 "t1";have b:=m.okd `ay "t2";refine ⟨fh (fh a.1 b.1) λd hd=>by rw[List.mem_singleton.mp hd];exact eu rfl `c `c,by rw[aa1,aa1,aa4];omega,ki `eX `cM⟩
 | s3=>
  rename_i w o l m r _ _ _ _ _
  have a:=l.okd c0 "t1";have b:=m.okd `ay "t2";have c:=r.okd `Q "t3";exact ⟨fh (fh (fh (fh b.1 c.1) (λd hd=>by rw[List.mem_singleton.mp hd];exact eu rfl `c `c)) a.1) (λd hd=>by rw[List.mem_singleton.mp hd];exact eu rfl `c `c),by rw[aa1,aa1,aa1,aa1,aa4,aa4];omega,ki `eX `cM⟩
 | s4=>
  rename_i w o l m r _ _ _ _ _
  have a:=l.okd c0 "t1";have b:=m.okd `ay "t2";have c:=r.okd `Q "t3";exact ⟨fh (fh (fh (fh a.1 b.1) (λd hd=>by rw[List.mem_singleton.mp hd];exact eu rfl `c `c)) c.1) (λd hd=>by rw[List.mem_singleton.mp hd];exact eu rfl `c `c),by rw[aa1,aa1,aa1,aa1,aa4,aa4];omega,ki `eX `cM⟩
theorem Mk.rd {kinds:List Str} {r:Rd} (h:Mk kinds r.1.shape r.2):Hv r:=⟨λd hd=>h.ok.1 d hd,h.ok.2.1,h.ok.2.2⟩
def E9 (x:List V):Prop:=∃(h:Str) (t:List V),x=.str h::t∧∀b∈tS,h≠b
theorem jl (h:Str) (t:List V) (hh:∀b∈tS,h≠b):E9 (.str h::t):=⟨h,t,rfl,hh⟩
theorem vf {w:Str} (h:w∈r9):∀b∈tS,w≠b:=by
 simp only[r9,aan,aac,or_false] at h;rcases h with rfl | rfl | rfl <;> decide+kernel
theorem Pj (b:Str) (v:V) (t:List V):inV `ee (v::t)=(eqV v `ee||inV `ee t):=rfl
theorem O1 {b:Str} (hb:b∈tS):∀{dd:List `o},(∀x∈dd,E9 x)→sy b dd=hasT b dd
 | [],_=>rfl
 | x::dd,h=>by
  obtain ⟨z,t,rfl,hz⟩:=h x aa6;have ih:=O1 hb (dd:=dd) λy hy=>h y (aa9 _ hy);have e:eqV `J `ee=false:=by
   have:=hz b hb;simp[eqV,this]
  show (inV `ee (.str z::t)||sy b dd)=(inV `ee t||hasT b dd)
  rw[Pj,e,ih,Bool.false_or]
theorem Lv.hd (l:Lv) (k:Cnt) (bx:Str):∀d∈l.gs k bx,E9 d:=by
 cases l with
 | h=>exact λd hd=>nomatch hd
 | n=>exact λd hd=>by rw[List.mem_singleton.mp hd];exact jl _ _ `b
 | v=>exact λd hd=>by rw[List.mem_singleton.mp hd];exact jl _ _ `b
 | c=>exact λd hd=>by rw[List.mem_singleton.mp hd];exact jl _ _ `b
theorem gk {a b:List `o} (h:∀d∈a,E9 d) (g:∀d∈b,E9 d):∀d∈a++b,E9 d:=λd hd=>by
 rcases List.mem_append.mp hd with z | z
 ·exact h d z
 ·exact g d z
theorem gf {h:Str} {t:List V} (hh:∀b∈tS,h≠b):∀d∈[V.str h::t],E9 d:=λd hd=>by rw[List.mem_singleton.mp hd];exact jl _ _ hh
theorem Mk.hds {kinds:List Str} {sh:List V} {dd:List `o} (h:Mk kinds sh dd):∀d∈dd,E9 d:=by
 cases h with
 | any=>exact gf `b
 | var=>exact gf `b
 | neg=>exact gf `b
 | two hw=>exact gf (vf hw)
 | vzero=>exact gf `b
 | four=>
  intro d hd;simp only[aan,aac,or_false] at hd;rcases hd with rfl | rfl | rfl <;> exact jl _ _ `b
 | zero=>
  intro d hd;simp only[aan,aac,or_false] at hd;rcases hd with rfl | rfl <;> exact jl _ _ `b
 | twice=>
  intro d hd;simp only[aan,aac,or_false] at hd;rcases hd with rfl | rfl | rfl | rfl <;> exact jl _ _ `b
 | way=>
  intro d hd;simp only[aan,aac,or_false] at hd;rcases hd with rfl | rfl | rfl <;> exact jl _ _ `b
 | s1 h=>exact gk `b4 (gf `b)
 | s2 hw=>exact gk (gk `b4 `b4) (gf (vf hw))
 | s3 hw ho=>exact gk (gk (gk (gk `b4 `b4) (gf (vf ho))) `b4) (gf (vf hw))
 | s4 hw ho=>exact gk (gk (gk (gk `b4 `b4) (gf (vf ho))) `b4) (gf (vf hw))
theorem Mk.used {kinds:List Str} {sh:List V} {dd:List `o} (h:Mk kinds sh dd):b9 dd=fq dd:=by
 show gx.filter (λb=>sy b dd)=aB "out"::tS.filter λb=>hasT b dd
 show (aB "out"::tS).filter (λb=>sy b dd)=_
 rw[ab9,if_pos h.ok.2.2];congr 1
 exact List.filter_congr λb hb=>O1 hb h.hds
theorem empty_app (z:Str):iB++z=z:=by
 show (⟨#[]++z.cps⟩:Str)=z
 simp
theorem sv (c n:Nat):bz (chS c) n=lab (chS c) n:=by
 unfold bz lab;rw[empty_app];rfl
theorem dk {c z:Str}:∀{xs:List V} {j:Nat} {m:Str→Option V},(∀i,i < xs.length→z≠bz c (j+i+1))→putL c xs j m z=m z
 | [],j,m,_=>rfl
 | x::xs,j,m,h=>by
  show putL c xs (j+1) (n8 m (bz c (j+1)) x) z=m z
  rw[dk λi hi=>by rw[show j+1+i+1=j+(i+1)+1 by omega];exact h (i+1) (by rw[aa8];omega)];unfold n8;rw[if_neg (h 0 (by rw[aa8];omega))]
theorem tq {c:Str}:∀{xs:List V} {j i:Nat} {v:V} {m:Str→Option V},xs[i]?=aA v→(∀k,i < k→k < xs.length→bz c (j+i+1)≠bz c (j+k+1))→putL c xs j m (bz c (j+i+1))=aA v
 | [],j,i,v,m,h,_=>by simp at h
 | x::xs,j,0,v,m,h,hd=>by
  cases h
  show putL c xs (j+1) (n8 m (bz c (j+1)) x) (bz c (j+1))=aA x
  rw[dk λi hi=>by rw[show j+1+i+1=j+(i+1)+1 by omega];exact hd (i+1) (by omega) (by rw[aa8];omega)];unfold n8;rw[if_pos rfl]
 | x::xs,j,i+1,v,m,h,hd=>by
  show putL c xs (j+1) _ (bz c (j+(i+1)+1))=aA v
  have:=tq (c:=c) (xs:=xs) (j:=j+1) (i:=i) (v:=v) (m:=n8 m (bz c (j+1)) x) h λk hk hl=>by
   rw[show j+1+i+1=j+(i+1)+1 by omega,show j+1+k+1=j+(k+1)+1 by omega];exact hd (k+1) (by omega) (by rw[aa8];omega)
  rw[show j+1+i+1=j+(i+1)+1 by omega] at this;exact this
noncomputable def kb (u:Und):Cnt:=⟨u.hs.length,u.ns.length,u.vs.length⟩
noncomputable def cW (kinds:List Str) (k:Cnt) (v:V):Cnt:=if ay kinds v=lH then ⟨k.h+1,k.n,k.v⟩ else if ay kinds v=lN then ⟨k.h,k.n+1,k.v⟩ else if ay kinds v=lV then ⟨k.h,k.n,k.v+1⟩ else k
theorem yk {kinds:List Str} {ws:List V}:∀(sh:List V) (p:Nat) (u u':Und),bu kinds ws sh p u=aA u'→kb u'=sh.foldl `dO (kb u)
 | [],p,u,u',h=>by
  have h:aA u=aA u':=h;cases h
  rfl
 | v::sh,p,u,u',h=>by
  rw[cv] at h;by_cases c:lies `q v `aE=true
  ·rw[if_pos c] at h;rw[yk sh _ _ _ h,aal];congr 1
   unfold Und.put cW;split
   ·simp[kb]
   ·split
    ·simp[kb]
    ·split
     ·simp[kb]
     ·rfl
  ·rw[if_neg c] at h;cases h
theorem G9 {kinds:List Str} (hk:Kinds kinds) {k:Str} (h:k∈kinds):ay kinds (.str k)=lH:=by
 rcases dj (kinds:=kinds) (Ld k) with ⟨e,_⟩ | ⟨e,_⟩ | ⟨_,e⟩ | ⟨_,e⟩
 ·exact absurd e (hk k h).2.1
 ·exact absurd e (hk k h).2.2
 ·exact e
 ·have:inV (.str k) `i=true:=List.any_eq_true.mpr ⟨.str k,aby h,by simp[eqV]⟩;rw[this] at e;cases e
theorem Rn {kinds:List Str} (hk:Kinds kinds) {z:Str} (h:0 < arV `J):ay kinds `J=lO:=by
 rcases dj (kinds:=kinds) (Ld z) with ⟨e,_⟩ | ⟨e,_⟩ | ⟨⟨y,hy,e⟩,_⟩ | ⟨e,_⟩
 ·rw[e,yh] at h;cases h
 ·rw[e,we] at h;cases h
 ·have:=(hk y hy).1;cases e
  have:arV `J=0:=this;omega
 ·exact e
theorem Li {kinds:List Str} (x:Int):ay kinds `dq=lO:=by
 rcases dj (kinds:=kinds) (isW_i x) with ⟨e,_⟩ | ⟨e,_⟩ | ⟨⟨y,hy,e⟩,_⟩ | ⟨e,_⟩
 ·cases e
 ·cases e
 ·cases e
 ·exact e
theorem Kp {kinds:List Str}:ay kinds gd=lN:=by unfold ay;rw[if_pos rfl]
theorem Kb {kinds:List Str}:ay kinds fj=lV:=by unfold ay;rw[if_neg `b,if_pos rfl]
theorem br {kinds:List Str} (hk:Kinds kinds) {k:Str} (h:k∈kinds) (c:Cnt):cW kinds c (.str k)=⟨c.h+1,c.n,c.v⟩:=by unfold cW;rw[G9 hk h,if_pos rfl]
theorem cW_O {kinds:List Str} {v:V} (h:ay kinds v=lO) (c:Cnt):cW kinds c v=c:=by unfold cW;rw[h,if_neg lets.2.2.1,if_neg lets.2.2.2.2.1,if_neg lets.2.2.2.2.2]
theorem jf {kinds:List Str} (hk:Kinds kinds) {z:Str} (h:0 < arV `J) (c:Cnt):cW kinds c `J=c:=cW_O (Rn hk h) c
theorem eo {kinds:List Str} (hk:Kinds kinds) {w:Str} (h:w∈r9) (c:Cnt):cW kinds c (.str w)=c:=jf hk (by rw[oa h];decide) c
theorem vc {kinds:List Str} (x:Int) (c:Cnt):cW kinds c `dq=c:=cW_O (Li x) c
theorem Dt {kinds:List Str} (c:Cnt):cW kinds c gd=⟨c.h,c.n+1,c.v⟩:=by unfold cW;rw[Kp,if_neg lets.1,if_pos rfl]
theorem yo {kinds:List Str} (c:Cnt):cW kinds c fj=⟨c.h,c.n,c.v+1⟩:=by unfold cW;rw[Kb,if_neg lets.2.1,if_neg lets.2.2.2.1,if_pos rfl]
theorem bw {kinds:List Str} (hk:Kinds kinds) {l:Lv} (h:l.ok kinds) (c:Cnt):cW kinds c l.word=l.next c:=by
 cases l with
 | h k=>exact br hk h c
 | n=>exact Dt c
 | v=>exact yo c
 | c x=>exact vc x c
inductive Wk (k:Cnt):V→Prop
 | int (i:Int):Wk k `cj
 | box {z:Str} (h:z∈gx):Wk k `J
 | h {j:Nat} (h:j < k.h):Wk k (.str (bz `K (j+1)))
 | n {j:Nat} (h:j < k.n):Wk k (.str `em)
 | v {j:Nat} (h:j < k.v):Wk k (.str `el)
def Cnt.le (a b:Cnt):Prop:=a.h≤b.h∧a.n≤b.n∧a.v≤b.v
theorem Cnt.le.trans {a b c:Cnt} (h:a.le b) (g:b.le c):a.le c:=⟨ab4 h.1 g.1,ab4 h.2.1 g.2.1,ab4 h.2.2 g.2.2⟩
theorem Lv.g8 (l:Lv) (k:Cnt):k.le (l.next k):=by
 cases l <;> simp only[Lv.next,Cnt.le] <;> omega
theorem Pu (n:Nat):lab "h" n=bz `K n:=(sv 104 n).symm
theorem Qr (n:Nat):lab "n" n=bz `bV n:=(sv 110 n).symm
theorem Oz (n:Nat):lab "v" n=bz `cm n:=(sv 118 n).symm
theorem Lv.wkD (l:Lv) {k f:Cnt} {bx:Str} (hb:bx∈gx) (hf:(l.next k).le f):∀d∈l.gs k bx,∀w∈d.drop 1,Wk f w:=by
 cases l with
 | h z=>exact λd hd=>nomatch hd
 | n=>
  intro d hd w hw;rw[List.mem_singleton.mp hd] at hw;have hw:w∈[V.str bx,V.str (lab "n" (k.n+1))]:=hw;simp only[aan,aac,or_false] at hw;rcases hw with rfl | rfl
  ·exact .box hb
  ·rw[Qr];exact .n hf.2.1
 | v=>
  intro d hd w hw;rw[List.mem_singleton.mp hd] at hw;have hw:w∈[V.str bx,V.str (lab "v" (k.v+1))]:=hw;simp only[aan,aac,or_false] at hw;rcases hw with rfl | rfl
  ·exact .box hb
  ·rw[Oz];exact .v hf.2.2
 | c x=>
  intro d hd w hw;rw[List.mem_singleton.mp hd] at hw;have hw:w∈[V.str bx,V.int x]:=hw;simp only[aan,aac,or_false] at hw;rcases hw with rfl | rfl
  ·exact .box hb
  ·exact .int x
theorem Lv.wkL (l:Lv) {k f:Cnt} {bx:Str} (hb:bx∈gx) (hf:(l.next k).le f):Wk f (.str (l.lbl k bx)):=by
 cases l with
 | h z=>show Wk f (.str (lab "h" (k.h+1)));rw[Pu];exact .h hf.1
 | n=>exact .box hb
 | v=>exact .box hb
 | c x=>exact .box hb
theorem wk1 {f:Cnt} {a:V} (h:Wk f a):∀w∈[a],Wk f w:=λw hw=>by rw[List.mem_singleton.mp hw];exact h
theorem wk2 {f:Cnt} {a b:V} (h:Wk f a) (g:Wk f b):∀w∈[a,b],Wk f w:=λw hw=>by
 rcases List.mem_cons.mp hw with rfl | hw
 ·exact h
 ·exact wk1 g w hw
theorem wk3 {f:Cnt} {a b c:V} (h:Wk f a) (g:Wk f b) (i:Wk f c):∀w∈[a,b,c],Wk f w:=λw hw=>by
 rcases List.mem_cons.mp hw with rfl | hw
 ·exact h
 ·exact wk2 g i w hw
def WkD (f:Cnt) (dd:List `o):Prop:=∀d∈dd,∀w∈d.drop 1,Wk f w
theorem WkD.nil {f:Cnt}:WkD f []:=λd hd=>nomatch hd
theorem WkD.cons {f:Cnt} {x:V} {t:List V} {dd:List `o} (h:∀w∈t,Wk f w) (g:WkD f dd):WkD f ((x::t)::dd):=λd hd=>by
 rcases List.mem_cons.mp hd with rfl | hd
 ·exact h
 ·exact g d hd
theorem WkD.app {f:Cnt} {a b:List `o} (h:WkD f a) (g:WkD f b):WkD f (a++b):=λd hd=>by
 rcases List.mem_append.mp hd with hd | hd
 ·exact h d hd
 ·exact g d hd
theorem kz {f:Cnt}:Wk f (.str "out"):=.box `b
theorem bT1 {f:Cnt}:Wk f (.str "t1"):=.box `b
theorem bT2 {f:Cnt}:Wk f (.str "t2"):=.box `b
theorem bT3 {f:Cnt}:Wk f (.str "t3"):=.box `b
theorem wH {f:Cnt} {z:Str} (j:Nat) (e:z=bz `K (j+1)) (h:j < f.h):Wk f `J:=by rw[e];exact .h h
theorem wN {f:Cnt} {z:Str} (j:Nat) (e:z=bz `bV (j+1)) (h:j < f.n):Wk f `J:=by rw[e];exact .n h
theorem wV {f:Cnt} {z:Str} (j:Nat) (e:z=bz `cm (j+1)) (h:j < f.v):Wk f `J:=by rw[e];exact .v h
theorem Mk.wk {kinds:List Str} (hk:Kinds kinds) {sh:List V} {dd:List `o} (h:Mk kinds sh dd):WkD (sh.foldl `dO c0) dd:=by
 have ng:0 < arV (.str "neg"):=by decide+kernel
 have ad:0 < arV (.str "add"):=by decide+kernel
 have mu:0 < arV (.str "mul"):=by decide+kernel
 have d1:(aB "h1")=bz `K 1:=by decide+kernel
 have d2:(aB "h2")=bz `K 2:=by decide+kernel
 have d3:(aB "h3")=bz `K 3:=by decide+kernel
 have d4:(aB "h4")=bz `K 4:=by decide+kernel
 have dn:(aB "n1")=bz `bV 1:=by decide+kernel
 have dv:(aB "v1")=bz `cm 1:=by decide+kernel
 have t1:(aB "t1")∈gx:=by decide+kernel
 have t2:(aB "t2")∈gx:=by decide+kernel
 have t3:(aB "t3")∈gx:=by decide+kernel
 cases h with
 | any=>simp only[aal,aap,Dt];exact .cons (wk2 kz (wN 0 dn (by simp[c0]))) .nil
 | var=>simp only[aal,aap,yo];exact .cons (wk2 kz (wV 0 dv (by simp[c0]))) .nil
 | neg h=>simp only[aal,aap,jf hk ng,br hk h];exact .cons (wk2 kz (wH 0 d1 (by simp[c0]))) .nil
 | two hw h1 h2=>simp only[aal,aap,eo hk hw,br hk h1,br hk h2];exact .cons (wk3 kz (wH 0 d1 (by simp[c0])) (wH 1 d2 (by simp[c0]))) .nil
 | four h1 h2 h3 h4=>
  simp only[aal,aap,jf hk ad,br hk h1,br hk h2,br hk h3,br hk h4];exact .cons (wk3 bT1 (wH 0 d1 (by simp[c0])) (wH 1 d2 (by simp[c0]))) (.cons (wk3 bT2 (wH 2 d3 (by simp[c0])) (wH 3 d4 (by simp[c0]))) (.cons (wk3 kz bT1 bT2) .nil))
 | zero h=>exact .cons (wk2 bT3 (.int _)) (.cons (wk2 kz (.int _)) .nil)
 | twice h=>
  simp only[aal,aap,jf hk mu,vc,br hk h];exact .cons (wk2 bT1 (.int _)) (.cons (wk3 bT1 (wH 0 d1 (by simp[c0])) (wH 0 d1 (by simp[c0]))) (.cons (wk2 bT1 bT1) (.cons (wk2 kz bT1) .nil)))
 | vzero=>exact .cons (wk2 kz (.int _)) .nil
 | way h hx=>
  simp only[aal,aap,br hk h];exact .cons (wk2 bT1 (.int _)) (.cons (wk3 kz (wH 0 d1 (by simp[c0])) bT1) (.cons (wk3 kz kz bT1) .nil))
 | s1 h=>
  rename_i l
  simp only[aal,aap,jf hk ng,bw hk h];have f:(l.next c0).le `ay:=⟨aa3 _,aa3 _,aa3 _⟩;exact .app (l.wkD t1 f) (.cons (wk2 kz (l.wkL t1 f)) .nil)
 | s2 hw hl hm=>
  rename_i w l m
  simp only[aal,aap,eo hk hw,bw hk hl,bw hk hm];have f:(m.next (l.next c0)).le `Q:=⟨aa3 _,aa3 _,aa3 _⟩;have g:(l.next c0).le `Q:=(m.g8 _).trans f;exact .app (.app (l.wkD t1 g) (m.wkD t2 f)) (.cons (wk3 kz (l.wkL t1 g) (m.wkL t2 f)) .nil)
 | s3 hw ho hl hm hr=>
  rename_i w o l m r
  simp only[aal,aap,eo hk hw,eo hk ho,bw hk hl,bw hk hm,bw hk hr];have f:(r.next (m.next (l.next c0))).le `bg:=⟨aa3 _,aa3 _,aa3 _⟩;have g:(m.next (l.next c0)).le `bg:=(r.g8 _).trans f;have e:(l.next c0).le `bg:=(m.g8 _).trans g;exact .app (.app (.app (.app (m.wkD t2 g) (r.wkD t3 f)) (.cons (wk3 kz (m.wkL t2 g) (r.wkL t3 f)) .nil)) (l.wkD t1 e)) (.cons (wk3 kz (l.wkL t1 e) kz) .nil)
 | s4 hw ho hl hm hr=>
  rename_i w o l m r
  simp only[aal,aap,eo hk hw,eo hk ho,bw hk hl,bw hk hm,bw hk hr];have f:(r.next (m.next (l.next c0))).le `bg:=⟨aa3 _,aa3 _,aa3 _⟩;have g:(m.next (l.next c0)).le `bg:=(r.g8 _).trans f;have e:(l.next c0).le `bg:=(m.g8 _).trans g;exact .app (.app (.app (.app (l.wkD t1 e) (m.wkD t2 g)) (.cons (wk3 kz (l.wkL t1 e) (m.wkL t2 g)) .nil)) (r.wkD t3 f)) (.cons (wk3 kz kz (r.wkL t3 f)) .nil)
noncomputable def Dm:List Str→Nat→(Str→Option V)→(Str→Option V)
 | [],_,m=>m
 | z::r,c,m=>Dm r (c+1) (n8 m z (.int (c:Int)))
theorem Co {z:Str}:∀{us:List Str} {c:Nat} {m:Str→Option V},z∉us→Dm us c m z=m z
 | [],c,m,_=>rfl
 | y::us,c,m,h=>by
  show Dm us (c+1) (n8 m y _) z=m z
  rw[Co λk=>h (aa9 _ k)];unfold n8;rw[if_neg λe=>h (by rw[e];exact aa6)]
theorem Ak {z:Str}:∀(us:List Str) (c:Nat) (acc:List (Key×V)) (m:Str→Option V),(∀y,bf acc (aM y)=m y)→bf (b7 ((us.map (aM:Str→Key)).zip (((acm c us.length).map λq=>((q:Nat):Int)).map V.int)) acc) (aM z)=Dm us c m z
 | [],c,acc,m,h=>h z
 | y::us,c,acc,m,h=>by
  show bf (b7 ((us.map (aM:Str→Key)).zip (((acm (c+1) us.length).map λq=>((q:Nat):Int)).map V.int)) (putK acc (aM y) (.int (c:Int)))) (aM z)=Dm us (c+1) (n8 m y (.int (c:Int))) z
  refine Ak us (c+1) _ _ λx=>?_;rw[cg];unfold n8;by_cases e:x=y
  ·rw[if_pos (by rw[e]),if_pos e]
  ·rw[if_neg (λk=>e (eB k)),if_neg e];exact h x
theorem Ae (us:List Str) (c:Nat) (z:Str):my us ((acm c us.length).map λq=>((q:Nat):Int)) z=Dm us c (λ_=>none) z:=Ak us c [] _ λy=>rfl
theorem j7 (c n:Nat):(bz (chS c) n).cps.toList[0]?=aA c:=by
 rw[sv];unfold lab;rw[Eo];rfl
theorem Ih {c d n m:Nat} (h:c≠d):bz (chS c) n≠bz (chS d) m:=λe=>by
 have:=j7 c n;rw[e,j7] at this;exact h (aaa this).symm
theorem qr {z:Str} (h:z∈gx) (n:Nat):z≠bz `K n∧z≠bz `bV n∧z≠bz `cm n:=by
 have f:∀z∈gx,z.cps.toList[0]?≠aA 104∧z.cps.toList[0]?≠aA 110∧z.cps.toList[0]?≠aA 118:=by decide+kernel
 obtain ⟨a,b,c⟩:=f z h;exact ⟨λe=>a (by rw[e,j7]),λe=>b (by rw[e,j7]),λe=>c (by rw[e,j7])⟩
theorem K5:∀c∈[104,110,118],∀a < 9,∀b < 9,bz (chS c) a=bz (chS c) b→a=b:=by decide+kernel
theorem Dy {c:Nat} (hc:c∈[104,110,118]) {xs:List V} (hl:xs.length≤7) {i:Nat} (hi:i < xs.length):∀k,i < k→k < xs.length→bz (chS c) (0+i+1)≠bz (chS c) (0+k+1):=λk h1 h2 e=>by
 have:=K5 c hc _ (by omega) _ (by omega) e;omega
noncomputable def bxN (c n:Nat):List Int:=(acm c n).map λq=>((q:Nat):Int)
theorem Vw {dd:List `o} {z:Str} {d:List V} (hz:z∈gx) (hd:d∈dd) (hw:V.str z∈d.drop 1):z∈fq dd:=by
 have hz:z∈aB "out"::tS:=hz;unfold fq;rcases List.mem_cons.mp hz with rfl | hz
 ·exact aa6
 ·refine aa9 _ (List.mem_filter.mpr ⟨hz,?_⟩);exact List.any_eq_true.mpr ⟨d,hd,List.any_eq_true.mpr ⟨_,hw,by simp[eqV]⟩⟩
theorem Gf {dd:List `o} {z:Str} (h:z∈fq dd):z∈gx:=by
 unfold fq at h;rcases List.mem_cons.mp h with rfl | h
 ·decide+kernel
 ·exact aa9 _ (List.mem_filter.mp h).1
theorem Mk.few {kinds:List Str} (hk:Kinds kinds) {sh:List V} {dd:List `o} (h:Mk kinds sh dd):(sh.foldl `dO c0).h≤5∧(sh.foldl `dO c0).n≤5∧(sh.foldl `dO c0).v≤5:=by
 have ng:0 < arV (.str "neg"):=by decide+kernel
 have ad:0 < arV (.str "add"):=by decide+kernel
 have mu:0 < arV (.str "mul"):=by decide+kernel
 have z0:c0.h≤0∧c0.n≤0∧c0.v≤0:=⟨aa3 _,aa3 _,aa3 _⟩;cases h with
 | any=>simp only[aal,aap,Dt];simp[c0]
 | var=>simp only[aal,aap,yo];simp[c0]
 | neg h=>simp only[aal,aap,jf hk ng,br hk h];simp[c0]
 | two hw h1 h2=>simp only[aal,aap,eo hk hw,br hk h1,br hk h2];simp[c0]
 | four h1 h2 h3 h4=>simp only[aal,aap,jf hk ad,br hk h1,br hk h2,br hk h3,br hk h4];simp[c0]
 | zero h=>simp only[aal,aap,jf hk mu,vc,br hk h];simp[c0]
 | twice h=>simp only[aal,aap,jf hk mu,vc,br hk h];simp[c0]
 | vzero=>simp only[aal,aap,jf hk mu,vc,yo];simp[c0]
 | way h hx=>simp only[aal,aap,br hk h];simp[c0]
 | s1 h=>
  rename_i l
  simp only[aal,aap,jf hk ng,bw hk h];have a:=l.gp z0.1 z0.2.1 z0.2.2;omega
 | s2 hw hl hm=>
  rename_i w l m
  simp only[aal,aap,eo hk hw,bw hk hl,bw hk hm];have a:=l.gp z0.1 z0.2.1 z0.2.2;have b:=m.gp a.1 a.2.1 a.2.2;omega
 | s3 hw ho hl hm hr=>
  rename_i w o l m r
  simp only[aal,aap,eo hk hw,eo hk ho,bw hk hl,bw hk hm,bw hk hr];have a:=l.gp z0.1 z0.2.1 z0.2.2;have b:=m.gp a.1 a.2.1 a.2.2;have c:=r.gp b.1 b.2.1 b.2.2;omega
 | s4 hw ho hl hm hr=>
  rename_i w o l m r
  simp only[aal,aap,eo hk hw,eo hk ho,bw hk hl,bw hk hm,bw hk hr];have a:=l.gp z0.1 z0.2.1 z0.2.2;have b:=m.gp a.1 a.2.1 a.2.2;have c:=r.gp b.1 b.2.1 b.2.2;omega
theorem i5:∀(r:List Nat) (p:Nat),starts (p+1) r=(starts p r).map (·+1)
 | [],p=>rfl
 | a::r,p=>by
  show (p+1)::(starts (p+1+1) r).drop a=(p+1)::((starts (p+1) r).drop a).map (·+1)
  rw[i5 r (p+1),ac6]
theorem Ha (a:Nat) (ar:List Nat) (p:Nat):az (a::ar) (p+1)=(az ar p).map (·+1):=by
 unfold az;show (starts (p+1+1) `cn).take `eW=_
 rw[i5,adh]
theorem Pm {kinds:List Str} {ws:List V} (hk:Kinds kinds) (hw:∀v∈ws,isW v):∀(sh:List V) (p:Nat) (u u':Und) (d m:Nat),(∀v∈sh,isW v)→pend d `d6=aA 0→eat d `H=aA m→xi u→bu kinds ws sh p u=aA u'→xi u'
 | [],p,u,u',d,m,_,_,_,hu,h=>by
  have h:aA u=aA u':=h;cases h
  exact hu
 | v::r,p,u,u',0,m,_,hp,_,_,_=>nomatch hp
 | v::r,p,u,u',d+1,m,hs,hp,he,hu,h=>by
  have hpl:p < ws.length:=by
   rcases ad0 p ws.length with g | g
   ·exact g
   ·rw[abr g] at he;cases he
  have hx:ws[p]?=aA ws[p]:=aa2 hpl;rw[cv] at h;have eg:ws.getD p .non=ws[p]:=by rw[aa7,hx];rfl
  rw[eg] at h;by_cases c:lies `q v ws[p]=true
  ·rw[if_pos c] at h;obtain ⟨d',m',h1,h2⟩:=fm hk (hs v aa6) hx `e7 hp he c;exact Pm hk hw r _ _ u' d' m' (λx hx=>hs x `ct) h1 h2 (hu.put `e7 _ _) h
  ·rw[if_neg c] at h;cases h
theorem E4 {kinds:List Str} {rs:List Rl} {ws:List V} (bk:Bk kinds rs) (tw:Tw ws):∀{ns:List Str} {st:List Ky} {ds:List (Rl×Und)},cu kinds rs ws ns st=aA ds→(∀k∈st,k.1 < ws.length)→∃pl:Nat→Nat,(starts 0 (er ds)).map pl=st.map (·.1)∧∀(j:Nat) (d:Rl×Und),ds[j]?=aA d→d.1∈rs∧pl j < ws.length∧xi d.2∧bu kinds ws d.1.shape (pl j) ⟨[],[],[]⟩=aA d.2∧(az (er ds) j).map pl=d.2.hs
 | [],[],ds,h,_=>by
  have h:aA []=aA ds:=h;cases h
  exact ⟨λ_=>0,rfl,λj d h=>by simp at h⟩
 | [],_::_,ds,h,_=>by cases h
 | _::_,[],ds,h,_=>by cases h
 | nm::r,k::st,ds,h,hst=>by
  cases e:dr kinds rs ws nm k.2 k.1 with
  | none=>rw[ia e] at h;cases h
  | some d=>
   rw[gz e] at h;obtain ⟨ds',h',rfl⟩:=Option.map_eq_some_iff.mp h;obtain ⟨a1,a3,a4,a5⟩:=o7 (r:=d.1) (u:=d.2) e;have hk:=hst k aa6;obtain ⟨w1,w2,w3⟩:=bk.sh _ a1;obtain ⟨n,hn⟩:=tw.eat hk;have hww:∀v∈ws,isW v:=λv hv=>(tw.w v hv).1;have hin:=u6 bk.kd hww _ _ _ _ 1 n w1 w2 hn (λ_ z=>(aac z).elim) a5;have huw:=Pm bk.kd hww _ _ _ _ 1 n w1 w2 hn ⟨(λ_ z=>(aac z).elim),(λ_ z=>(aac z).elim)⟩ a5;obtain ⟨pl,i1,i2⟩:=E4 bk tw h' λx hx=>by
    rcases List.mem_append.mp hx with z | z
    ·exact hin _ (ac3 (a:=x.1) (b:=x.2) z).1
    ·exact hst x (aa9 _ z)
   have hl:d.2.hs.length=(ak kinds d.1.shape).length:=by
    have:=(uu bk.kd d.1.shape k.1 _ d.2 (bk.sh d.1 a1).1 a5).1;have z:(⟨[],[],[]⟩:Und).hs.length=0:=rfl;omega
   have hz:(Be kinds d).map (·.1)=d.2.hs:=by
    unfold Be;exact ae7 (aep hl)
   rw[aab,hz] at i1;refine ⟨λj=>match j with | 0=>k.1 | j+1=>pl j,?_,λj x hx=>?_⟩
   ·show (0::(starts 1 (er ds')).drop d.2.hs.length).map _=k.1::st.map (·.1)
    rw[aas,i5,←ac6,abd];congr 1
    show ((starts 0 (er ds')).drop d.2.hs.length).map pl=_
    rw[ac6,i1,List.drop_left]
   ·cases j with
    | zero=>
     cases hx
     refine ⟨a1,hk,huw,a5,?_⟩;show ((starts 1 (er ds')).take d.2.hs.length).map _=_
     rw[i5,←adh,abd];show ((starts 0 (er ds')).take d.2.hs.length).map pl=_
     rw[adh,i1,List.take_left]
    | succ j=>
     obtain ⟨b1,c1,c2,b2,b3⟩:=i2 j x hx;refine ⟨b1,c1,c2,b2,?_⟩;show (az (d.2.hs.length::er ds') (j+1)).map _=_
     rw[Ha,abd];exact b3
noncomputable def arE (es:List Sd):List Nat:=es.map λe=>e.2.hs.length
structure CvT (kinds:List Str) (rd:List Rd) (ws:List V) (es:List Sd) (pl:Nat→Nat):Prop where
 rd:∀e∈es,e.1∈rd
 md:∀e∈es,Mk kinds e.1.1.shape e.1.2
 pw:∀j,j < es.length→pl j < ws.length
 uw:∀e∈es,xi e.2
 laid:∀(j:Nat) (e:Sd),es[j]?=aA e→bu kinds ws e.1.1.shape (pl j) ⟨[],[],[]⟩=aA e.2∧(az `C j).map pl=e.2.hs
theorem CvT.thing {kinds:List Str} {rd:List Rd} {ws:List V} {es:List Sd} {pl:Nat→Nat} (h:CvT kinds rd ws es pl) (hk:Kinds kinds) {j:Nat} {e:Sd} (he:es[j]?=aA e):b9 e.1.2=fq e.1.2∧WkD (kb e.2) e.1.2∧e.2.hs.length≤5∧e.2.ns.length≤5∧e.2.vs.length≤5:=by
 have m:=h.md e (aak he);have c:=yk _ _ _ _ (h.laid j e he).1;have c:kb e.2=e.1.1.shape.foldl `dO c0:=c;have f:=m.few hk;rw[←c] at f;exact ⟨m.used,by rw[c];exact m.wk hk,f⟩
noncomputable def jn (es:List Sd) (ar:List Nat) (f:Nat→Nat) (p:Nat):List `o:=match es[p]? with
 | some e=>j6 e ((az ar p).map λq=>((f q:Nat):Int)) (bxN (f p) (nbE es p))
 | none=>[]
theorem nb_at {es:List Sd} {p:Nat} {e:Sd} (h:es[p]?=aA e):nbE es p=(b9 e.1.2).length:=by unfold nbE;rw[h];rfl
theorem Pa {es:List Sd} {ar:List Nat} {f:Nat→Nat} {p:Nat} {e:Sd} (h:es[p]?=aA e):jn es ar f p=j6 e ((az ar p).map λq=>((f q:Nat):Int)) (bxN (f p) (nbE es p)):=by unfold jn;rw[h]
theorem Uu (nb:Nat→Nat) (a b:List Nat):sumOf nb (a++b)=sumOf nb a+sumOf nb b:=by
 unfold sumOf;rw[aab,adt]
theorem Jy {ar:List Nat} {p s:Nat} (h:eat 1 `aa=aA s):(post ar p).Nodup:=(vt ar.length p s h (by have:=Eg h;omega)).2
theorem Cu {es:List Sd} {ar:List Nat} {f:Nat→Nat} (a b:List Nat):(a++b).flatMap (jn es ar f)=a.flatMap (jn es ar f)++b.flatMap (jn es ar f):=ad6
theorem Cvd.mem {kinds:List Str} {rs:List Rd} {ws:List V} {st:List Ky} {cs:List Rd} (h:Cvd kinds rs ws st cs):∀r∈cs,r∈rs:=by
 induction h with
 | nil=>exact λr hr=>nomatch hr
 | cons hr hk hu h ih=>
  intro x hx;rcases List.mem_cons.mp hx with rfl | hx
  ·exact hr
  ·exact ih x hx
theorem Cn:∀(cs:List Rd) (us:List Und),(cs.zip us).map (λe:Sd=>(e.1.1,e.2))=(cs.map (·.1)).zip us
 | [],us=>by simp
 | c::cs,[]=>rfl
 | c::cs,u::us=>by
  show ((c.1,u)::(cs.zip us).map _)=(c.1,u)::_
  rw[Cn cs us];rfl
structure CvAll (kinds:List Str) (rd:List Rd) (ws:List V) (kd:Str) (cs:List Rd) (es:List Sd) (pl:Nat→Nat):Prop where
 len:es.length=cs.length
 nm:es.map (λe=>V.str e.1.1.name)=cs.map λr=>V.str r.1.name
 cov:cu kinds (rd.map (·.1)) ws (cs.map λr=>r.1.name) [(0,kd)]=aA (es.map λe=>(e.1.1,e.2))
 t:CvT kinds rd ws es pl
 pl0:pl 0=0
 pe:pend 1 `C=aA 0
theorem Cvd.all {kinds:List Str} {rd:List Rd} {ws:List V} {kd:Str} {cs:List Rd} (bk:Bk kinds (rd.map (·.1))) (md:∀r∈rd,Mk kinds r.1.shape r.2) (tw:Tw ws) (h0:0 < ws.length) (h:Cvd kinds rd ws [(0,kd)] cs):∃(es:List Sd) (pl:Nat→Nat),CvAll kinds rd ws kd cs es pl:=by
 obtain ⟨us,e1,e2⟩:=h.cover bk;rw[←Cn] at e2;obtain ⟨pl,p1,p2⟩:=E4 bk tw e2 λk hk=>by rw[List.mem_singleton.mp hk];exact h0
 have hm:∀e∈cs.zip us,e.1∈rd:=λe he=>h.mem _ (ac3 (a:=e.1) (b:=e.2) he).1;have ea:er ((cs.zip us).map λe:Sd=>(e.1.1,e.2))=arE (cs.zip us):=by
  unfold er arE;rw[abd];rfl
 rw[ea] at p1;have at':∀(j:Nat) (e:Sd),(cs.zip us)[j]?=aA e→_:=λj e he=>p2 j (e.1.1,e.2) (by rw[aa5,he];rfl);have pe:pend 1 (arE (cs.zip us))=aA 0:=by rw[←ea];exact rm bk e2
 refine ⟨cs.zip us,pl,⟨by rw[abm,e1,Nat.min_self],?_,e2,⟨hm,λe he=>md _ (hm e he),λj hj=>(at' j _ (aa2 hj)).2.1,λe he=>?_,λj e he=>?_⟩,?_,pe⟩⟩
 ·have:(cs.zip us).map (·.1)=cs:=ae7 (aep e1.symm);conv=>rhs;rw[←this]
  rw[abd];rfl
 ·obtain ⟨j,hj⟩:=ab7 he;exact (at' j e hj).2.2.1
 ·obtain ⟨_,_,_,a,b⟩:=at' j e he;rw[ea] at b;exact ⟨a,b⟩
 ·have hne:arE (cs.zip us)≠[]:=λz=>by rw[z] at pe;cases pe
  obtain ⟨t,ht⟩:=xa _ 0 hne;rw[ht] at p1;exact (abl p1).1
theorem Kh {rd:List Rd} (nd:((rd.map (·.1)).map (·.name)).Nodup):∀{es es':List Sd},(∀e∈es,e.1∈rd)→(∀e∈es',e.1∈rd)→es.map (λe=>(e.1.1,e.2))=es'.map (λe=>(e.1.1,e.2))→es=es'
 | [],[],_,_,_=>rfl
 | [],_::_,_,_,h=>by cases h
 | _::_,[],_,_,h=>by cases h
 | e::es,e'::es',h1,h2,h=>by
  rw[aas,aas] at h;obtain ⟨a,b⟩:=abl h;rw[Kh nd (λx hx=>h1 x `ct) (λx hx=>h2 x `ct) b];congr 1
  obtain ⟨i,hi⟩:=ab7 (h1 e aa6);obtain ⟨j,hj⟩:=ab7 (h2 e' aa6);have a1:e.1.1=e'.1.1:=(Prod.mk.inj a).1;have a2:e.2=e'.2:=(Prod.mk.inj a).2;have z1:((rd.map (·.1)).map (·.name))[i]?=aA e.1.1.name:=by rw[aa5,aa5,hi];rfl
  have z2:((rd.map (·.1)).map (·.name))[j]?=aA e.1.1.name:=by rw[aa5,aa5,hj,a1];rfl
  have ij:i=j:=(List.getElem?_inj (List.getElem?_eq_some_iff.mp z1).1 nd).mp (z1.trans z2.symm);subst ij;have:e.1=e'.1:=aaa (hi.symm.trans hj);exact Prod.ext this a2
def su:Sp:=λvs H Q E=>∃(b wt:Addr) (kinds:List Str) (rd:List Rd) (ws:List V) (p:Nat) (nm kd:Str),vs=[.ref b,.str nm,.ref wt,.int (p:Int),.str kd]∧fc H b kinds rd∧H wt=aA `a3∧Bk kinds (rd.map (·.1))∧Tw ws∧p < ws.length∧jx nm∧jx kd∧(∀d,dr kinds (rd.map (·.1)) ws nm kd p=aA d→∀(t:Addr) (H':Hp),ag H H'→ny rd H' t d.1 d.2→Q `I H')∧(dr kinds (rd.map (·.1)) ws nm kd p=none→False)
theorem P7 {b wt:Addr} {kinds:List Str} {rd:List Rd} {ws:List V} {p:Nat} {nm kd:Str} {H:Hp} {Q:VK} {E:XK} (p0:fc H b kinds rd) (p1:H wt=aA `a3) (p2:Bk kinds (rd.map (·.1))) (p3:Tw ws) (p4:p < ws.length) (p5:jx nm) (p6:jx kd) (p7:∀d,dr kinds (rd.map (·.1)) ws nm kd p=aA d→∀(t:Addr) (H':Hp),ag H H'→ny rd H' t d.1 d.2→Q `I H') (p8:dr kinds (rd.map (·.1)) ws nm kd p=none→False):su [.ref b,.str nm,.ref wt,.int (p:Int),.str kd] H Q E:=⟨b,wt,kinds,rd,ws,p,nm,kd,rfl,p0,p1,p2,p3,p4,p5,p6,p7,p8⟩
def ow:Sp:=λvs H Q E=>∃(b wt ct:Addr) (kinds:List Str) (rd:List Rd) (ws:List V) (p:Nat) (kd:Str) (ns:List Str),vs=[.ref b,.ref wt,.int (p:Int),.str kd,.ref ct]∧fc H b kinds rd∧H wt=aA `a3∧H ct=aA `dv∧Bk kinds (rd.map (·.1))∧Tw ws∧p < ws.length∧jx kd∧(∀z∈kinds,jx z)∧(∀z∈ns,jx z)∧ns.length≤100000∧(∀ds,cu kinds (rd.map (·.1)) ws ns [(p,kd)]=aA ds→∀(l:Addr) (as:List Addr) (H':Hp),ag H H'→H' l=aA `e→dm rd H' as ds→Q `B H')∧(cu kinds (rd.map (·.1)) ws ns [(p,kd)]=none→False)
theorem Nj {b wt ct:Addr} {kinds:List Str} {rd:List Rd} {ws:List V} {p:Nat} {kd:Str} {ns:List Str} {H:Hp} {Q:VK} {E:XK} (p0:fc H b kinds rd) (p1:H wt=aA `a3) (p2:H ct=aA `dv) (p3:Bk kinds (rd.map (·.1))) (p4:Tw ws) (p5:p < ws.length) (p6:jx kd) (p7:∀z∈kinds,jx z) (p8:∀z∈ns,jx z) (p9:ns.length≤100000) (pa:∀ds,cu kinds (rd.map (·.1)) ws ns [(p,kd)]=aA ds→∀(l:Addr) (as:List Addr) (H':Hp),ag H H'→H' l=aA `e→dm rd H' as ds→Q `B H') (pb:cu kinds (rd.map (·.1)) ws ns [(p,kd)]=none→False):ow [.ref b,.ref wt,.int (p:Int),.str kd,.ref ct] H Q E:=⟨b,wt,ct,kinds,rd,ws,p,kd,ns,rfl,p0,p1,p2,p3,p4,p5,p6,p7,p8,p9,pa,pb⟩
def qa:Sp:=λvs H Q E=>∃(b wt ct:Addr) (kinds:List Str) (rd:List Rd) (ws:List V) (kd:Str) (ns:List Str),vs=[.ref b,.ref wt,.str kd,.ref ct]∧fc H b kinds rd∧H wt=aA `a3∧H ct=aA `dv∧Bk kinds (rd.map (·.1))∧Tw ws∧0 < ws.length∧jx kd∧(∀z∈kinds,jx z)∧(∀z∈ns,jx z)∧ns.length≤1000∧(∀x∈rd,Hv x)∧(∀ds,cu kinds (rd.map (·.1)) ws ns [(0,kd)]=aA ds→∀(es:List Sd) (t l:Addr) (bs:List Addr) (H':Hp),es.map (λe=>(e.1.1,e.2))=ds→(∀e∈es,e.1∈rd)→ag H H'→H t=none→H' t=aA (.tup [.ref l,.int (yy es (er ds):Nat)])→H l=none→H' l=aA `bN→bp H' bs (ud es (er ds))→Q `I H')∧(cu kinds (rd.map (·.1)) ws ns [(0,kd)]=none→False)
theorem Mb {b wt ct:Addr} {kinds:List Str} {rd:List Rd} {ws:List V} {kd:Str} {ns:List Str} {H:Hp} {Q:VK} {E:XK} (p0:fc H b kinds rd) (p1:H wt=aA `a3) (p2:H ct=aA `dv) (p3:Bk kinds (rd.map (·.1))) (p4:Tw ws) (p5:0 < ws.length) (p6:jx kd) (p7:∀z∈kinds,jx z) (p8:∀z∈ns,jx z) (p9:ns.length≤1000) (pc:∀x∈rd,Hv x) (pa:∀ds,cu kinds (rd.map (·.1)) ws ns [(0,kd)]=aA ds→∀(es:List Sd) (t l:Addr) (bs:List Addr) (H':Hp),es.map (λe=>(e.1.1,e.2))=ds→(∀e∈es,e.1∈rd)→ag H H'→H t=none→H' t=aA (.tup [.ref l,.int (yy es (er ds):Nat)])→H l=none→H' l=aA `bN→bp H' bs (ud es (er ds))→Q `I H') (pb:cu kinds (rd.map (·.1)) ws ns [(0,kd)]=none→False):qa [.ref b,.ref wt,.str kd,.ref ct] H Q E:=⟨b,wt,ct,kinds,rd,ws,kd,ns,rfl,p0,p1,p2,p3,p4,p5,p6,p7,p8,p9,pc,pa,pb⟩
noncomputable def wAt (ρ:Str→Option Int) (ws:List V) (p:Nat):Int:=(iz ρ (ws.drop p)).getD 0 0
theorem x9 {ρ:Str→Option Int} {ws:List V} {p:Nat} (hp:p < ws.length):iz ρ (ws.drop p)=ni (jz ρ ws[p]) (iz ρ (ws.drop (p+1))):=by
 rw[aaw hp];rfl
theorem Mn {ρ:Str→Option Int} {ws:List V} (hw:∀v∈ws,isW v) {p n:Nat} (h:eat 1 `H=aA n):iz ρ (ws.drop p)=wAt ρ ws p::iz ρ (ws.drop (p+n)):=by
 have e:ws.drop p=(ws.drop p).take n++ws.drop (p+n):=by
  rw[←acz,adk]
 have hx:∀v∈(ws.drop p).take n,isW v:=λv hv=>hw v (ac5 (List.mem_of_mem_take hv));have ht:=Mm h;have e2:iz ρ (ws.drop p)=[sd ρ ((ws.drop p).take n)]++iz ρ (ws.drop (p+n)):=by
  conv=>lhs;rw[e]
  rw[O7 hx ht,Ge hx ht]
 unfold wAt;rw[e2];rfl
noncomputable def intOf:V→Int
 | .int i=>i
 | _=>0
noncomputable def J6 (ρ:Str→Option Int):V→Int
 | .str z=>(ρ z).getD 0
 | _=>0
noncomputable def evI (kinds:List Str) (ρ:Str→Option Int) (ws:List V) (u:Und):Cnt→List V→List Int→List Int
 | _,[],st=>st
 | k,v::r,st=>if ay kinds v=lH then wAt ρ ws (u.hs.getD k.h 0)::evI kinds ρ ws u ⟨k.h+1,k.n,k.v⟩ r st
  else if ay kinds v=lN then intOf `dG::evI kinds ρ ws u ⟨k.h,k.n+1,k.v⟩ r st
  else if ay kinds v=lV then J6 ρ `dF::evI kinds ρ ws u ⟨k.h,k.n,k.v+1⟩ r st
  else ni `ew (evI kinds ρ ws u k r st)
theorem Hq {kinds:List Str} {ws:List V}:∀(sh:List V) (p:Nat) (u u':Und),bu kinds ws sh p u=aA u'→(∃a,u'.hs=u.hs++a)∧(∃a,u'.ns=u.ns++a)∧∃a,u'.vs=u.vs++a
 | [],p,u,u',h=>by
  have h:aA u=aA u':=h;cases h
  exact ⟨⟨[],(ab3 _).symm⟩,⟨[],(ab3 _).symm⟩,[],(ab3 _).symm⟩
 | v::sh,p,u,u',h=>by
  rw[cv] at h;by_cases c:lies `q v `aE=true
  ·rw[if_pos c] at h;obtain ⟨⟨a,ha⟩,⟨b,hb⟩,d,hd⟩:=Hq sh _ _ _ h;rw[ha,hb,hd];unfold Und.put;split
   ·exact ⟨⟨[p]++a,by simp⟩,⟨b,rfl⟩,d,rfl⟩
   ·split
    ·exact ⟨⟨a,rfl⟩,⟨[ws.getD p .non]++b,by simp⟩,d,rfl⟩
    ·split
     ·exact ⟨⟨a,rfl⟩,⟨b,rfl⟩,[ws.getD p .non]++d,by simp⟩
     ·exact ⟨⟨a,rfl⟩,⟨b,rfl⟩,d,rfl⟩
  ·rw[if_neg c] at h;cases h
theorem zc {α:Type} {xs a:List α} {x d:α}:((xs++[x])++a).getD xs.length d=x:=by
 rw[aa7,acw,aad (aa3 _),abz];rfl
theorem J7 {kinds:List Str} {ρ:Str→Option Int} {ws:List V} (hk:Kinds kinds) (hw:∀v∈ws,isW v):∀(sh:List V) (p:Nat) (u u':Und) (d m:Nat),(∀v∈sh,isW v)→pend d `d6=aA 0→eat d `H=aA m→bu kinds ws sh p u=aA u'→∃p',iz ρ (ws.drop p)=evI kinds ρ ws u' (kb u) sh (iz ρ (ws.drop p'))
 | [],p,u,u',d,m,_,_,_,h=>⟨p,rfl⟩
 | v::r,p,u,u',0,m,_,hp,_,_=>nomatch hp
 | v::r,p,u,u',d+1,m,hs,hp,he,h=>by
  have hpl:p < ws.length:=by
   rcases ad0 p ws.length with g | g
   ·exact g
   ·rw[abr g] at he;cases he
  have hx:ws[p]?=aA ws[p]:=aa2 hpl;rw[cv] at h;have eg:ws.getD p .non=ws[p]:=by rw[aa7,hx];rfl
  rw[eg] at h;have hxw:=hw _ (aaj hpl);by_cases c:lies `q v ws[p]=true
  ·rw[if_pos c] at h;obtain ⟨d',m',h1,h2⟩:=fm hk (hs v aa6) hx hxw hp he c;obtain ⟨p',ih⟩:=J7 (ρ:=ρ) hk hw r _ _ u' d' m' (λx hx=>hs x `ct) h1 h2 h;obtain ⟨⟨a,ha⟩,⟨b,hb⟩,e,he'⟩:=Hq r _ _ _ h;refine ⟨p',?_⟩;show _=if ay kinds v=lH then _ else if ay kinds v=lN then _ else if ay kinds v=lV then _ else _
   by_cases c1:ay kinds v=lH
   ·rw[if_pos c1];rw[if_pos c1] at ih;have ep:u.put `q p ws[p]=⟨u.hs++[p],u.ns,u.vs⟩:=by unfold Und.put;rw[if_pos c1]
    rw[ep] at ih ha;obtain ⟨n,hn⟩:=Ec he;have e1:endAt ws p=p+n:=by unfold endAt;rw[hn];rfl
    rw[Mn hw hn,←e1,ih];have eh:u'.hs.getD (kb u).h 0=p:=by rw[ha];exact zc
    rw[eh];congr 2
    simp[kb]
   ·rw[if_neg c1];rw[if_neg c1] at ih;by_cases c2:ay kinds v=lN
    ·rw[if_pos c2];have ep:u.put `q p ws[p]=⟨u.hs,u.ns++[ws[p]],u.vs⟩:=by unfold Und.put;rw[if_neg c1,if_pos c2]
     rw[ep] at ih hb;have eh:u'.ns.getD (kb u).n .non=ws[p]:=by rw[hb];exact zc
     rw[eh,x9 hpl,ih];have hi:isStr ws[p]=false:=by
      unfold lies at c;rw[if_neg c1,if_pos c2] at c;simpa using c
     obtain ⟨k,ek⟩:=hxw;rw[ek] at hi ⊢;cases k with
     | inr z=>cases hi
     | inl i=>
      show i::_=i::_
      congr 2
      simp[kb]
    ·rw[if_neg c2];by_cases c3:ay kinds v=lV
     ·rw[if_pos c3];have ep:u.put `q p ws[p]=⟨u.hs,u.ns,u.vs++[ws[p]]⟩:=by unfold Und.put;rw[if_neg c1,if_neg c2,if_pos c3]
      rw[ep] at ih he';have eh:u'.vs.getD (kb u).v .non=ws[p]:=by rw[he'];exact zc
      rw[eh,x9 hpl,ih];unfold lies at c;rw[if_neg c1,if_neg c2,if_pos c3,ac1] at c;have ca:arV ws[p]=0:=of_decide_eq_true c.2;obtain ⟨k,ek⟩:=hxw;rw[ek] at c ca ⊢;cases k with
      | inl i=>exact nomatch c.1
      | inr z=>
       have ca:arS z=0:=ca;show ni (if 0 < arS z then V.str z else V.int ((ρ z).getD 0)) _=(ρ z).getD 0::_
       rw[if_neg (by omega)];show (ρ z).getD 0::_=_
       congr 2
       simp[kb]
     ·rw[if_neg c3];have ep:u.put `q p ws[p]=u:=by unfold Und.put;rw[if_neg c1,if_neg c2,if_neg c3]
      rw[ep] at ih;rw[x9 hpl,ih];unfold lies at c;rw[if_neg c1,if_neg c2,if_neg c3] at c;rw[←of_decide_eq_true c]
  ·rw[if_neg c] at h;cases h
noncomputable def Lv.val (ρ:Str→Option Int) (ws:List V) (u:Und) (l:Lv) (k:Cnt):Int:=match l with
 | .h _=>wAt ρ ws (u.hs.getD k.h 0)
 | .n=>intOf `dG
 | .v=>J6 ρ `dF
 | .c x=>x
section
variable {kinds:List Str} {ρ:Str→Option Int} {ws:List V} {u:Und}
theorem gq (hk:Kinds kinds) {z:Str} (h:z∈kinds) (k:Cnt) (r:List V) (st:List Int):evI kinds ρ ws u k (.str z::r) st=wAt ρ ws (u.hs.getD k.h 0)::evI kinds ρ ws u ⟨k.h+1,k.n,k.v⟩ r st:=by
 show (if ay kinds `J=lH then _ else _)=_
 rw[if_pos (G9 hk h)]
theorem ev_O {v:V} (h:ay kinds v=lO) (k:Cnt) (r:List V) (st:List Int):evI kinds ρ ws u k (v::r) st=ni `ew (evI kinds ρ ws u k r st):=by
 show (if ay kinds v=lH then _ else if ay kinds v=lN then _ else if ay kinds v=lV then _ else _)=_
 rw[h,if_neg lets.2.2.1,if_neg lets.2.2.2.2.1,if_neg lets.2.2.2.2.2]
theorem gr (hk:Kinds kinds) {z:Str} (h:0 < arS z) (k:Cnt) (r:List V) (st:List Int):evI kinds ρ ws u k (.str z::r) st=opN z ((evI kinds ρ ws u k r st).getD 0 0) ((evI kinds ρ ws u k r st).getD 1 0)::(evI kinds ρ ws u k r st).drop (arS z):=by
 rw[ev_O (Rn hk h)];show ni (if 0 < arS z then V.str z else _) _=_
 rw[if_pos h];rfl
theorem Ep (x:Int) (k:Cnt) (r:List V) (st:List Int):evI kinds ρ ws u k (.int x::r) st=x::evI kinds ρ ws u k r st:=by
 rw[ev_O (Li x)];rfl
theorem Oh (k:Cnt) (r:List V) (st:List Int):evI kinds ρ ws u k (gd::r) st=intOf `dG::evI kinds ρ ws u ⟨k.h,k.n+1,k.v⟩ r st:=by
 show (if ay kinds gd=lH then _ else if ay kinds gd=lN then _ else _)=_
 rw[Kp,if_neg lets.1,if_pos rfl]
theorem Jj (k:Cnt) (r:List V) (st:List Int):evI kinds ρ ws u k (fj::r) st=J6 ρ `dF::evI kinds ρ ws u ⟨k.h,k.n,k.v+1⟩ r st:=by
 show (if ay kinds fj=lH then _ else if ay kinds fj=lN then _ else if ay kinds fj=lV then _ else _)=_
 rw[Kb,if_neg lets.2.1,if_neg lets.2.2.2.1,if_pos rfl]
theorem gn (hk:Kinds kinds) {l:Lv} (h:l.ok kinds) (k:Cnt) (r:List V) (st:List Int):evI kinds ρ ws u k (l.word::r) st=l.val ρ ws u k::evI kinds ρ ws u (l.next k) r st:=by
 cases l with
 | h z=>exact gq hk h k r st
 | n=>exact Oh k r st
 | v=>exact Jj k r st
 | c x=>exact Ep x k r st
end
noncomputable def setG (g:Str→Option Int) (d:Str) (x:Int):Str→Option Int:=λz=>if z=d then aA x else g z
theorem bc (g:Str→Option Int) (d:Str) (x:Int):setG g d x d=aA x:=if_pos rfl
theorem jm {g:Str→Option Int} {d z:Str} {x:Int} (h:z≠d):setG g d x z=g z:=if_neg h
inductive Dr (ρ:Str→Option Int) (u:Und) (g:Str→Option Int):List V→Str→Int→Prop
 | putI (d:Str) {i:Int} (hb:i.natAbs < 2 ^ 50):Dr ρ u g [.str "put",.str d,.int i] d i
 | putN (d:Str) {j:Nat} {i:Int} (h:u.ns[j]?=aA `cj) (hb:i.natAbs < 2 ^ 50):Dr ρ u g [.str "put",.str d,.str `em] d i
 | load (d:Str) {j:Nat} {z:Str} {i:Int} (h:u.vs[j]?=aA `J) (hz:ρ z=aA i) (hb:i.natAbs < 2 ^ 50):Dr ρ u g [.str "load",.str d,.str `el] d i
 | neg (d:Str) {a:Str} {x:Int} (h:g a=aA x):Dr ρ u g [.str "neg",.str d,.str a] d (-x)
 | bin (d:Str) {w a b:Str} {x y:Int} (hw:arS w=2) (h1:g a=aA x) (h2:g b=aA y):Dr ρ u g [.str w,.str d,.str a,.str b] d (opN w x y)
inductive Ay (ρ:Str→Option Int) (u:Und):(Str→Option Int)→List `o→(Str→Option Int)→Prop
 | nil (g:Str→Option Int):Ay ρ u g [] g
 | cons {g g':Str→Option Int} {t:List V} {ts:List `o} {d:Str} {x:Int} (h:Dr ρ u g t d x) (hd:d∈gx) (r:Ay ρ u (setG g d x) ts g'):Ay ρ u g (t::ts) g'
theorem Ay.app {ρ:Str→Option Int} {u:Und} {g1 g2 g3:Str→Option Int} {a b:List `o} (h:Ay ρ u g1 a g2) (h':Ay ρ u g2 b g3):Ay ρ u g1 (a++b) g3:=by
 induction h with
 | nil g=>exact h'
 | cons h hd r ih=>exact .cons h hd (ih h')
theorem Kz {z:Str} (h:z∈gx) (n:Nat):bz `K n≠z:=λe=>(qr h n).1 e.symm
def HF (ρ:Str→Option Int) (ws:List V) (u:Und) (g:Str→Option Int):Prop:=∀j,j < u.hs.length→g (bz `K (j+1))=aA (wAt ρ ws (u.hs.getD j 0))
theorem HF.set {ρ:Str→Option Int} {ws:List V} {u:Und} {g:Str→Option Int} (h:HF ρ ws u g) {d:Str} (hd:d∈gx) (x:Int):HF ρ ws u (setG g d x):=λj hj=>by
 rw[jm (Kz hd _)];exact h j hj
structure USm (ρ:Str→Option Int) (u:Und):Prop where
 n:∀v∈u.ns,∃i:Int,v=.int i∧i.natAbs < 2 ^ 50
 v:∀v∈u.vs,∃(z:Str) (i:Int),v=.str z∧ρ z=aA i∧i.natAbs < 2 ^ 50
theorem Lv.wj {ρ:Str→Option Int} {ws:List V} {u:Und} {kinds:List Str} (us:USm ρ u) (l:Lv) (ok:l.ok kinds) {k:Cnt} {bx:Str} (hb:bx∈gx) (hf:(l.next k).le (kb u)) {g:Str→Option Int} (hg:HF ρ ws u g):∃g',Ay ρ u g (l.gs k bx) g'∧g' (l.lbl k bx)=aA (l.val ρ ws u k)∧(∀z,z≠bx→g' z=g z)∧HF ρ ws u g':=by
 cases l with
 | h z=>
  refine ⟨g,.nil g,?_,λ_ _=>rfl,hg⟩;show g (lab "h" (k.h+1))=_
  rw[Pu];exact hg k.h hf.1
 | n=>
  have hj:k.n < u.ns.length:=hf.2.1;have e:=aa2 hj;obtain ⟨i,hi,hbi⟩:=us.n _ (aaj hj);rw[hi] at e;refine ⟨setG g bx i,.cons (d:=bx) (x:=i) ?_ hb `ci,?_,λz hz=>jm hz,hg.set hb i⟩
  ·rw[Qr];exact .putN bx e hbi
  ·show setG g bx i bx=aA (intOf `dG)
   rw[bc,aa7,e];rfl
 | v=>
  have hj:k.v < u.vs.length:=hf.2.2;have e:=aa2 hj;obtain ⟨y,i,hi,hr,hbi⟩:=us.v _ (aaj hj);rw[hi] at e;refine ⟨setG g bx i,.cons (d:=bx) (x:=i) ?_ hb `ci,?_,λz hz=>jm hz,hg.set hb i⟩
  ·rw[Oz];exact .load bx e hr hbi
  ·show setG g bx i bx=aA (J6 ρ `dF)
   rw[bc,aa7,e];show aA i=aA ((ρ y).getD 0)
   rw[hr];rfl
 | c x=>
  have hx:x.natAbs < 2 ^ 50:=by
   have:0≤x∧x < 3:=ok;omega
  refine ⟨setG g bx x,.cons (d:=bx) (x:=x) (.putI bx hx) hb `ci,bc _ _ _,λz hz=>jm hz,hg.set hb x⟩
theorem Lv.Jh (l:Lv) {k:Cnt} {bx by':Str} (h:bx≠by') (hb:by'∈gx):l.lbl k bx≠by':=by
 cases l with
 | h z=>show lab "h" _≠by';rw[Pu];exact Kz hb _
 | n=>exact h
 | v=>exact h
 | c x=>exact h
theorem zy (x y:Int):opN "neg" x y=-x:=by
 unfold opN;rw[if_neg `b,if_neg `b,if_neg `b]
theorem iq {w:Str} (h:w∈r9):arS w=2:=oa h
theorem Mk.wj {ρ:Str→Option Int} {ws:List V} {u:Und} {kinds:List Str} (hk:Kinds kinds) {sh:List V} {dd:List `o} (h:Mk kinds sh dd) (hc:kb u=sh.foldl `dO c0) (us:USm ρ u) {g:Str→Option Int} (hg:HF ρ ws u g) (st:List Int):∃g',Ay ρ u g dd g'∧g' "out"=aA ((evI kinds ρ ws u c0 sh st).getD 0 0)∧dd.length≤5:=by
 have ng:0 < arS "neg":=by decide+kernel
 have n1:arS "neg"=1:=by decide+kernel
 have ad:arS "add"=2:=by decide+kernel
 have mu:arS "mul"=2:=by decide+kernel
 have d1:(aB "h1")=bz `K 1:=by decide+kernel
 have d2:(aB "h2")=bz `K 2:=by decide+kernel
 have d3:(aB "h3")=bz `K 3:=by decide+kernel
 have d4:(aB "h4")=bz `K 4:=by decide+kernel
 have dn:(aB "n1")=bz `bV 1:=by decide+kernel
 have dv:(aB "v1")=bz `cm 1:=by decide+kernel
 have bo:(aB "out")∈gx:=by decide+kernel
 have b1:(aB "t1")∈gx:=by decide+kernel
 have b2:(aB "t2")∈gx:=by decide+kernel
 have b3:(aB "t3")∈gx:=by decide+kernel
 have e1:(aB "t1")≠"t2":=by decide+kernel
 have e1o:(aB "t1")≠"out":=by decide+kernel
 have e2o:(aB "t2")≠"out":=by decide+kernel
 have e2:(aB "t2")≠"t3":=by decide+kernel
 have e3:(aB "t1")≠"t3":=by decide+kernel
 have f0:c0.h=0:=rfl;cases h with
 | any=>
  simp only[aal,aap,Dt] at hc;have hl:0 < u.ns.length:=by have:=congrArg Cnt.n hc;have:u.ns.length=0+1:=this;omega
  obtain ⟨g',r,v,_,_⟩:=Lv.wj (kinds:=kinds) us .n trivial bo ⟨aai _,hl,aai _⟩ (k:=c0) hg;refine ⟨g',?_,?_,by decide⟩
  ·rw[dn,←Qr];exact r
  ·rw[Oh];exact v
 | var=>
  simp only[aal,aap,yo] at hc;have hl:0 < u.vs.length:=by have:=congrArg Cnt.v hc;have:u.vs.length=0+1:=this;omega
  obtain ⟨g',r,v,_,_⟩:=Lv.wj (kinds:=kinds) us .v trivial bo ⟨aai _,aai _,hl⟩ (k:=c0) hg;refine ⟨g',?_,?_,by decide⟩
  ·rw[dv,←Oz];exact r
  ·rw[Jj];exact v
 | neg h=>
  simp only[aal,aap,jf hk (z:="neg") ng,br hk h] at hc;have hl:0 < u.hs.length:=by have:=congrArg Cnt.h hc;have:u.hs.length=0+1:=this;omega
  refine ⟨_,.cons (.neg "out" (by rw[d1];exact hg 0 hl)) bo `ci,?_,by show (1:Nat)≤5;decide⟩;rw[bc,gr hk ng,gq hk h,n1,aen,zy];rfl
 | two hw h1 h2=>
  simp only[aal,aap,eo hk hw,br hk h1,br hk h2] at hc;have hl:u.hs.length=2:=by have:=congrArg Cnt.h hc;exact this
  refine ⟨_,.cons (.bin "out" (iq hw) (by rw[d1];exact hg 0 (by omega)) (by rw[d2];exact hg 1 (by omega))) bo `ci,?_,by show (1:Nat)≤5;decide⟩;rw[bc,gr hk (by rw[iq hw];decide),gq hk h1,gq hk h2];rfl
 | four h1 h2 h3 h4=>
  have adp:0 < arS "add":=by rw[ad];decide
  simp only[aal,aap,jf hk (z:="add") adp,br hk h1,br hk h2,br hk h3,br hk h4] at hc;have hl:u.hs.length=4:=by have:=congrArg Cnt.h hc;exact this
  refine ⟨_,.cons (.bin "t1" ad (by rw[d1];exact hg 0 (by omega)) (by rw[d2];exact hg 1 (by omega))) b1 (.cons (.bin "t2" ad (by rw[d3];exact (hg.set b1 _) 2 (by omega)) (by rw[d4];exact (hg.set b1 _) 3 (by omega))) b2 (.cons (.bin "out" ad (by rw[jm e1];exact bc _ _ _) (bc _ _ _)) bo `ci)),?_,by show (3:Nat)≤5;decide⟩;rw[bc,gr hk adp,gr hk adp,gq hk h1,gq hk h2,gr hk adp,gq hk h3,gq hk h4,ad];rfl
 | zero h=>
  have mup:0 < arS "mul":=by rw[mu];decide
  refine ⟨_,.cons (.putI "t3" (by decide)) b3 (.cons (.putI "out" (by decide)) bo `ci),?_,by show (2:Nat)≤5;decide⟩;rw[bc,gr hk mup,Ep,gq hk h];show aA (0:Int)=aA (opN "mul" 0 _)
  unfold opN;rw[if_neg `b,if_neg `b,if_pos rfl,Int.zero_mul]
 | twice h=>
  have mup:0 < arS "mul":=by rw[mu];decide
  simp only[aal,aap,jf hk (z:="mul") mup,vc,br hk h] at hc;have hl:0 < u.hs.length:=by have:=congrArg Cnt.h hc;have:u.hs.length=0+1:=this;omega
  refine ⟨_,.cons (.putI "t1" (by decide)) b1 (.cons (.bin "t1" ad (by rw[d1];exact (hg.set b1 _) 0 hl) (by rw[d1];exact (hg.set b1 _) 0 hl)) b1 (.cons (.neg "t1" (bc _ _ _)) b1 (.cons (.neg "out" (bc _ _ _)) bo `ci))),?_,by show (4:Nat)≤5;decide⟩;rw[bc,gr hk mup,Ep,gq hk h];show aA (- - opN "add" _ _)=aA (opN "mul" 2 (wAt ρ ws (u.hs.getD 0 0)))
  unfold opN;rw[if_pos rfl,if_neg `b,if_neg `b,if_pos rfl];congr 1
  omega
 | vzero=>
  have mup:0 < arS "mul":=by rw[mu];decide
  refine ⟨_,.cons (.putI "out" (by decide)) bo `ci,?_,by show (1:Nat)≤5;decide⟩;rw[bc,gr hk mup,Jj,Ep];show aA (0:Int)=aA (opN "mul" _ 0)
  unfold opN;rw[if_neg `b,if_neg `b,if_pos rfl,Int.mul_zero]
 | way h hx=>
  rename_i k x
  simp only[aal,aap,br hk h] at hc;have hl:0 < u.hs.length:=by have:=congrArg Cnt.h hc;have:u.hs.length=0+1:=this;omega
  have hb:x.natAbs < 2 ^ 50:=aer hx `a;refine ⟨_,.cons (.putI "t1" hb) b1 (.cons (.bin "out" ad (by rw[d1];exact (hg.set b1 _) 0 hl) (bc _ _ _)) bo (.cons (.bin "out" (w:="sub") `b (bc _ _ _) (by rw[jm e1o];exact bc _ _ _)) bo `ci)),?_,by show (3:Nat)≤5;decide⟩;rw[bc,gq hk h];show aA (opN "sub" (opN "add" (wAt ρ ws (u.hs.getD 0 0)) x) x)=aA (wAt ρ ws (u.hs.getD 0 0))
  unfold opN;rw[if_neg `b,if_pos rfl,if_pos rfl];congr 1
  omega
 | s1 h=>
  rename_i l
  simp only[aal,aap,jf hk (z:="neg") ng,bw hk h] at hc;obtain ⟨g1,r1,v1,_,_⟩:=l.wj us h b1 (k:=c0) (by rw[hc];exact ⟨aa3 _,aa3 _,aa3 _⟩) hg;refine ⟨_,r1.app (.cons (.neg "out" v1) bo `ci),?_,?_⟩
  ·rw[bc,gr hk ng,gn hk h,n1,aen,zy];rfl
  ·have:=l.bq c0 "t1";rw[aa1,aa4];omega
 | s2 hw hl hm=>
  rename_i w l m
  simp only[aal,aap,eo hk hw,bw hk hl,bw hk hm] at hc;have f:(m.next (l.next c0)).le (kb u):=by rw[hc];exact ⟨aa3 _,aa3 _,aa3 _⟩
  obtain ⟨g1,r1,v1,k1,h1⟩:=l.wj us hl b1 (k:=c0) ((m.g8 _).trans f) hg;obtain ⟨g2,r2,v2,k2,h2⟩:=m.wj us hm b2 (k:=l.next c0) f h1;refine ⟨_,(r1.app r2).app (.cons (.bin "out" (iq hw) (by rw[k2 _ (l.Jh e1 b2)];exact v1) v2) bo `ci),?_,?_⟩
  ·rw[bc,gr hk (by rw[iq hw];decide),gn hk hl,gn hk hm];rfl
  ·have:=l.bq c0 "t1";have:=m.bq `ay "t2";rw[aa1,aa1,aa4];omega
 | s3 hw ho hl hm hr=>
  rename_i w o l m r
  simp only[aal,aap,eo hk hw,eo hk ho,bw hk hl,bw hk hm,bw hk hr] at hc;have f:(r.next (m.next (l.next c0))).le (kb u):=by rw[hc];exact ⟨aa3 _,aa3 _,aa3 _⟩
  have f2:=(r.g8 _).trans f;have f3:=(m.g8 _).trans f2;obtain ⟨g1,r1,v1,k1,h1⟩:=m.wj us hm b2 (k:=l.next c0) f2 hg;obtain ⟨g2,r2,v2,k2,h2⟩:=r.wj us hr b3 (k:=m.next (l.next c0)) f h1;obtain ⟨g3,r3,v3,k3,h3⟩:=l.wj us hl b1 (k:=c0) f3 (h2.set bo (opN o (m.val ρ ws u `ay) (r.val ρ ws u `Q)));refine ⟨_,(((r1.app r2).app (.cons (.bin "out" (iq ho) (by rw[k2 _ (m.Jh e2 b3)];exact v1) v2) bo `ci)).app r3).app (.cons (.bin "out" (iq hw) v3 (by rw[k3 _ (λz=>e1o z.symm)];exact bc _ _ _)) bo `ci),?_,?_⟩
  ·rw[bc,gr hk (by rw[iq hw];decide),gn hk hl,gr hk (by rw[iq ho];decide),gn hk hm,gn hk hr];rfl
  ·have:=l.bq c0 "t1";have:=m.bq `ay "t2";have:=r.bq `Q "t3";rw[aa1,aa1,aa1,aa1,aa4,aa4];omega
 | s4 hw ho hl hm hr=>
  rename_i w o l m r
  simp only[aal,aap,eo hk hw,eo hk ho,bw hk hl,bw hk hm,bw hk hr] at hc;have f:(r.next (m.next (l.next c0))).le (kb u):=by rw[hc];exact ⟨aa3 _,aa3 _,aa3 _⟩
  have f2:=(r.g8 _).trans f;have f3:=(m.g8 _).trans f2;obtain ⟨g1,r1,v1,k1,h1⟩:=l.wj us hl b1 (k:=c0) f3 hg;obtain ⟨g2,r2,v2,k2,h2⟩:=m.wj us hm b2 (k:=l.next c0) f2 h1;obtain ⟨g3,r3,v3,k3,h3⟩:=r.wj us hr b3 (k:=m.next (l.next c0)) f (h2.set bo (opN o (l.val ρ ws u c0) (m.val ρ ws u `ay)));refine ⟨_,(((r1.app r2).app (.cons (.bin "out" (iq ho) (by rw[k2 _ (l.Jh e1 b2)];exact v1) v2) bo `ci)).app r3).app (.cons (.bin "out" (iq hw) (by rw[k3 _ `b];exact bc _ _ _) v3) bo `ci),?_,?_⟩
  ·have o2:=iq ho;rw[bc,gr hk (by rw[iq hw];decide),gr hk (by rw[o2];decide),gn hk hl,gn hk hm,gn hk hr,o2];rfl
  ·have:=l.bq c0 "t1";have:=m.bq `ay "t2";have:=r.bq `Q "t3";rw[aa1,aa1,aa1,aa1,aa4,aa4];omega
inductive uh (vals:List (Key×V)):List (Key×V)→List `o→List (Key×V)→Prop
 | nil (kvs:List (Key×V)):uh vals kvs [] kvs
 | cons {kvs kvs':List (Key×V)} {t:List V} {ts:List `o} {b n:Int} (h:gw vals kvs t b n) (r:uh vals (putK kvs (bA b) `ef) ts kvs'):uh vals kvs (t::ts) kvs'
theorem uh.app {vals k1 k2 k3:List (Key×V)} {a b:List `o} (h:uh vals k1 a k2) (h':uh vals k2 b k3):uh vals k1 (a++b) k3:=by
 induction h with
 | nil kvs=>exact h'
 | cons h r ih=>exact .cons h (ih h')
theorem uh.runs {vals:List (Key×V)}:∀{ts ts0:List `o} {fs:List (Int×Int)} {kvs kvs':List (Key×V)},uh vals kvs ts kvs'→kvs=dw fs→ip vals ts0 fs→∃fs',ip vals (ts0++ts) fs'∧kvs'=dw fs'
 | [],ts0,fs,kvs,kvs',h,e,hr=>by
  cases h
  exact ⟨fs,by rw[ab3];exact hr,e⟩
 | t::ts,ts0,fs,kvs,kvs',h,e,hr=>by
  cases h with
  | @cons _ _ _ _ b n h r=>
   subst e;obtain ⟨fs',a,c⟩:=uh.runs r (mq fs b n).symm (hr.snoc h);exact ⟨fs',by rw[acw] at a;exact a,c⟩
structure MF (m:Str→Option V) (u:Und) (us:List Str) (c:Nat) (is:List Int):Prop where
 box:∀z∈us,∃i:Int,m z=aA `cj∧(c:Int)≤i∧i < (c:Int)+us.length
 inj:∀y∈us,∀z∈us,m y=m z→y=z
 hole:∀(j:Nat) (b:Int),is[j]?=aA b→m (bz `K (j+1))=aA (.int b)
 num:∀(j:Nat) (v:V),u.ns[j]?=aA v→m `em=aA v
 name:∀(j:Nat) (v:V),u.vs[j]?=aA v→m `el=aA v
theorem Du:∀{us:List Str} {c j:Nat} {z:Str} {m:Str→Option V},us.Nodup→us[j]?=aA z→Dm us c m z=aA (.int ((c+j:Nat):Int))
 | [],c,j,z,m,_,h=>by simp at h
 | y::us,c,0,z,m,nd,h=>by
  cases h
  show Dm us (c+1) (n8 m y _) y=_
  rw[Co (List.nodup_cons.mp nd).1];unfold n8;rw[if_pos rfl];rfl
 | y::us,c,j+1,z,m,nd,h=>by
  show Dm us (c+1) _ z=_
  rw[Du (List.nodup_cons.mp nd).2 h,show c+1+j=c+(j+1) by omega]
theorem yt (dd:List `o):(fq dd).Nodup:=by
 unfold fq;refine List.nodup_cons.mpr ⟨λh=>absurd (List.mem_filter.mp h).1 `b,List.Pairwise.filter _ (show tS.Nodup by decide+kernel)⟩
theorem mf_of {r:Rd} {u:Und} {c:Nat} {is:List Int} (hu:b9 r.2=fq r.2) (hi:is.length=u.hs.length) (lh:u.hs.length≤5) (ln:u.ns.length≤5) (lv:u.vs.length≤5):MF (ir (r,u) is `bw) u (fq r.2) c is:=by
 have il:(is.map V.int).length=u.hs.length:=by rw[aa0,hi]
 have bx:∀(j:Nat) (z:Str),(fq r.2)[j]?=aA z→ir (r,u) is `bw z=aA (.int ((c+j:Nat):Int)):=λj z hj=>by
  have hz:=Gf (aak hj);unfold ir;rw[dk λk _=>(qr hz _).2.2,dk λk _=>(qr hz _).2.1,dk λk _=>(qr hz _).1];show my (b9 r.2) `bw z=_
  unfold bxN;rw[Ae,hu];exact Du (yt _) hj
 refine ⟨λz hz=>?_,λy hy z hz e=>?_,λj b hj=>?_,λj v hv=>?_,λj v hv=>?_⟩
 ·obtain ⟨j,hj⟩:=ab7 hz;have:=(List.getElem?_eq_some_iff.mp hj).1;exact ⟨_,bx j z hj,by omega,by omega⟩
 ·obtain ⟨j,hj⟩:=ab7 hy;obtain ⟨k,hk⟩:=ab7 hz;rw[bx j y hj,bx k z hk] at e;have:(c+j:Nat)=c+k:=by
   have:=V.int.inj (aaa e);omega
  obtain rfl:j=k:=by omega
  exact aaa (hj.symm.trans hk)
 ·have hv:(is.map V.int)[j]?=aA (.int b):=by rw[aa5,hj];rfl
  have hjl:=(List.getElem?_eq_some_iff.mp hv).1;have far:=Dy (c:=104) `c (xs:=is.map V.int) (by omega) (i:=j) hjl;unfold ir;rw[dk λk _=>Ih `a,dk λk _=>Ih `a];have:=tq (c:=chS 104) (j:=0) (m:=my (b9 r.2) `bw) hv far;rw[abu] at this;exact this
 ·have far:=Dy (c:=110) `c (xs:=u.ns) (by omega) (i:=j) (List.getElem?_eq_some_iff.mp hv).1;unfold ir;rw[dk λk _=>Ih `a];have:=tq (c:=chS 110) (j:=0) (m:=putL `K `bP 0 (my (b9 r.2) `bw)) hv far;rw[abu] at this;exact this
 ·have far:=Dy (c:=118) `c (xs:=u.vs) (by omega) (i:=j) (List.getElem?_eq_some_iff.mp hv).1;unfold ir;have:=tq (c:=chS 118) (j:=0) (m:=putL `bV u.ns 0 (putL `K `bP 0 (my (b9 r.2) `bw))) hv far;rw[abu] at this;exact this
def Env (m:Str→Option V) (us:List Str) (c:Nat) (kvs:List (Key×V)) (g:Str→Option Int):Prop:=∀z x,g z=aA x→∃b:Int,m z=aA (.int b)∧bf kvs (bA b)=aA `dq∧(z∈us∨¬((c:Int)≤b∧b < (c:Int)+us.length))
def BdG (n:Nat) (g:Str→Option Int):Prop:=∀z x,g z=aA x→x.natAbs < 2 ^ n
theorem Env.set {m:Str→Option V} {u:Und} {us:List Str} {c:Nat} {is:List Int} (F:MF m u us c is) {kvs:List (Key×V)} {g:Str→Option Int} (h:Env m us c kvs g) {d:Str} (hd:d∈us) {bd:Int} (hb:m d=aA (.int bd)) (x:Int):Env m us c (putK kvs (bA bd) `dq) (setG g d x):=λz y hz=>by
 by_cases e:z=d
 ·subst e;rw[bc] at hz;cases hz
  exact ⟨bd,hb,by rw[cg,if_pos rfl],.inl hd⟩
 ·rw[jm e] at hz;obtain ⟨b,h1,h2,h3⟩:=h z y hz;refine ⟨b,h1,?_,h3⟩;rw[cg,if_neg]
  ·exact h2
  ·intro k;have k:b=bd:=jR k;subst k;rcases h3 with h3 | h3
   ·exact e (F.inj z h3 d hd (h1.trans hb.symm))
   ·obtain ⟨i,i1,i2,i3⟩:=F.box d hd;rw[hb] at i1;cases i1
    exact h3 ⟨i2,i3⟩
theorem Np {ρ:Str→Option Int} {u:Und} {g:Str→Option Int} {t:List V} {d:Str} {x:Int} (h:Dr ρ u g t d x) {n:Nat} (hn:50≤n) (hb:BdG n g):x.natAbs < 2 ^ (2*n):=by
 have up:∀{y:Int},y.natAbs < 2 ^ 50→y.natAbs < 2 ^ (2*n):=λhy=>aao hy (ac4 `a (by omega));cases h with
 | putI d hb'=>exact up hb'
 | putN d h hb'=>exact up hb'
 | load d h hz hb'=>exact up hb'
 | neg d h=>
  rw[adv];exact aao (hb _ _ h) (ac4 `a (by omega))
 | bin d hw h1 h2=>exact T2 (hb _ _ h1) (hb _ _ h2) (by omega)
theorem bits_le {x:Int} {n:Nat} (h:x.natAbs < 2 ^ n) (hn:n≤1000000):jh x:=⟨n,hn,h⟩
theorem N9 {ρ:Str→Option Int} {u:Und} {m:Str→Option V} {us:List Str} {c:Nat} {is:List Int} (F:MF m u us c is) {vals kvs:List (Key×V)} (hv:∀z,bf vals (aM z)=(ρ z).map V.int) {g:Str→Option Int} (E:Env m us c kvs g) {n:Nat} (hb:BdG n g) (hn:n≤1000000) {t:List V} {d:Str} {x:Int} (h:Dr ρ u g t d x) {bd:Int} (hd:m d=aA (.int bd)):gw vals kvs (rowOf m t) bd x:=by
 have ed:wOf m (.str d)=.int bd:=by show (m d).getD _=_;rw[hd];rfl
 have ew:∀{a:Str} {v:V},m a=aA v→wOf m (.str a)=v:=λe=>by show (m _).getD _=_;rw[e];rfl
 cases h with
 | putI _ hb=>
  show gw vals kvs [.str "put",wOf m (.str d),.int x] bd x
  rw[ed];exact .put bd x
 | @putN _ j i h hb=>
  show gw vals kvs [.str "put",wOf m (.str d),wOf m (.str `em)] bd x
  rw[ed,ew (F.num j _ h)];exact .put bd x
 | @load _ j z i h hz hb=>
  show gw vals kvs [.str "load",wOf m (.str d),wOf m (.str `el)] bd x
  rw[ed,ew (F.name j _ h)];exact .load bd z x (by rw[hv z,hz];rfl)
 | @neg _ a y h=>
  obtain ⟨b,e1,e2,_⟩:=E a y h;show gw vals kvs [.str "neg",wOf m (.str d),wOf m (.str a)] bd (-y)
  rw[ed,ew e1];exact .neg bd b y e2 (bits_le (hb _ _ h) hn)
 | @bin _ w a b y y' hw h1 h2=>
  obtain ⟨b1,e1,e2,_⟩:=E a y h1;obtain ⟨b2,e3,e4,_⟩:=E b y' h2;show gw vals kvs [.str w,wOf m (.str d),wOf m (.str a),wOf m `ee] bd (opN w y y')
  rw[ed,ew e1,ew e3];exact .bin w bd b1 b2 y y' hw e2 e4 (bits_le (hb _ _ h1) hn) (bits_le (hb _ _ h2) hn)
theorem Pk {ρ:Str→Option Int} {u:Und} {g:Str→Option Int} {t:List V} {d:Str} {x:Int} (h:Dr ρ u g t d x):V.str d∈t.drop 1:=by
 cases h <;> exact aa6
theorem Ka {ρ:Str→Option Int} {u:Und} {m:Str→Option V} {dd:List `o} {c:Nat} {is:List Int} (F:MF m u (fq dd) c is) {vals:List (Key×V)} (hv:∀z,bf vals (aM z)=(ρ z).map V.int):∀{ts:List `o} {g g':Str→Option Int} {kvs:List (Key×V)} {n:Nat},Ay ρ u g ts g'→(∀t∈ts,t∈dd)→Env m (fq dd) c kvs g→BdG n g→50≤n→n*2 ^ ts.length≤1000000→∃kvs',uh vals kvs (ts.map (rowOf m)) kvs'∧Env m (fq dd) c kvs' g'∧∀x:Int,¬((c:Int)≤x∧x < (c:Int)+(fq dd).length)→bf kvs' (bA x)=bf kvs (bA x)
 | [],g,g',kvs,n,h,_,E,_,_,_=>by
  cases h
  exact ⟨kvs,.nil kvs,E,λ_ _=>rfl⟩
 | t::ts,g,g',kvs,n,h,ht,E,hb,hn,hl=>by
  cases h with
  | @cons _ _ _ _ d x h hd r=>
   have hdu:=Vw hd (ht t aa6) (Pk h);obtain ⟨bd,m1,m2,m3⟩:=F.box d hdu;have p1:1≤2 ^ ts.length:=ad9;rw[aa8,ae5] at hl;have hl':n*2*2 ^ ts.length≤1000000:=by rw[Nat.mul_assoc,Nat.mul_comm 2];exact hl
   have hn1:n*2≤1000000:=ab4 (acp _ p1) hl';have row:=N9 F hv E hb (by omega) h m1;obtain ⟨kvs',k1,k2,k3⟩:=Ka (n:=2*n) F hv r (λy hy=>ht y (aa9 _ hy)) (E.set F hdu m1 x) (λz y hz=>by
    by_cases e:z=d
    ·subst e;rw[bc] at hz;cases hz
     exact Np h hn hb
    ·rw[jm e] at hz;exact aao (hb z y hz) (ac4 `a (by omega))) (by omega) (by rw[Nat.mul_comm 2];exact hl')
   refine ⟨kvs',.cons row k1,k2,λy hy=>?_⟩;rw[k3 y hy,cg,if_neg λe=>hy (by rw[jR e];exact ⟨m2,m3⟩)]
theorem P8 {kinds:List Str} {rd:List Rd} {ws:List V} {es:List Sd} {pl:Nat→Nat} {ρ:Str→Option Int} (hT:CvT kinds rd ws es pl) (bk:Bk kinds (rd.map (·.1))) (tw:Tw ws) (hus:∀e∈es,USm ρ e.2) {B:Nat} (hB:∀p,p < ws.length→(wAt ρ ws p).natAbs < 2 ^ B) (B1:50≤B) (B2:B≤30000) {vals:List (Key×V)} (hv:∀z,bf vals (aM z)=(ρ z).map V.int) {p:Nat} {e:Sd} (he:es[p]?=aA e) {c:Nat} {is:List Int} (hi:is.length=e.2.hs.length) {kvs:List (Key×V)}
  (hk:∀(j:Nat) (b:Int),is[j]?=aA b→bf kvs (bA b)=aA (.int `b8)∧¬((c:Int)≤b∧b < (c:Int)+(fq e.1.2).length)):∃kvs',uh vals kvs (j6 e is `cC) kvs'∧bf kvs' (bA (c:Int))=aA (.int (wAt ρ ws (pl p)))∧∀x:Int,¬((c:Int)≤x∧x < (c:Int)+(fq e.1.2).length)→bf kvs' (bA x)=bf kvs (bA x):=by
 obtain ⟨th1,th2,th3,th4,th5⟩:=hT.thing bk.kd he;have hem:=aak he;obtain ⟨l1,l2⟩:=hT.laid p e he;have hpe:p < es.length:=(List.getElem?_eq_some_iff.mp he).1;have hrd:e.1.1∈rd.map (·.1):=aby (hT.rd e hem);obtain ⟨w1,w2,w3⟩:=bk.sh _ hrd;obtain ⟨n,hn⟩:=tw.eat (hT.pw p hpe);have hww:∀v∈ws,isW v:=λv hv=>(tw.w v hv).1;obtain ⟨p',ev⟩:=J7 (ρ:=ρ) bk.kd hww _ _ _ _ 1 n w1 w2 hn l1;have hc:kb e.2=e.1.1.shape.foldl `dO c0:=yk _ _ _ _ l1;have hin:=u6 bk.kd hww _ _ _ _ 1 n w1 w2 hn (λ_ z=>(aac z).elim) l1;let g:Str→Option Int:=λz=>match (abh e.2.hs.length).find? (λj=>decide (z=bz `K (j+1))) with | some j=>aA `b8 | none=>none
 have hg:HF ρ ws e.2 g:=λj hj=>by
  show (match (abh e.2.hs.length).find? (λi=>decide (bz `K (j+1)=bz `K (i+1))) with | some j=>aA `b8 | none=>none)=_
  cases f:(abh e.2.hs.length).find? (λi=>decide (bz `K (j+1)=bz `K (i+1))) with
  | none=>
   have:=List.find?_eq_none.mp f j (List.mem_range.mpr hj);simp at this
  | some i=>
   have h1:=ads f;have h1:bz `K (j+1)=bz `K (i+1):=of_decide_eq_true h1;have h2:=List.mem_range.mp (ack f);have:=K5 104 `c _ (by omega) _ (by omega) h1;obtain rfl:i=j:=by omega
   rfl
 have gg:∀z x,g z=aA x→∃j,j < e.2.hs.length∧z=bz `K (j+1)∧x=wAt ρ ws (e.2.hs.getD j 0):=λz x hz=>by
  have hz:(match (abh e.2.hs.length).find? (λj=>decide (z=bz `K (j+1))) with | some j=>aA `b8 | none=>none)=aA x:=hz;cases f:(abh e.2.hs.length).find? (λj=>decide (z=bz `K (j+1))) with
  | none=>rw[f] at hz;cases hz
  | some j=>
   rw[f] at hz;have h1:=ads f;have h1:z=bz `K (j+1):=of_decide_eq_true h1;exact ⟨j,List.mem_range.mp (ack f),h1,(aaa hz).symm⟩
 generalize g=g at hg gg;obtain ⟨g',r1,r2,r3⟩:=(hT.md e hem).wj bk.kd hc (hus e hem) hg (iz ρ (ws.drop p'));have F:=mf_of (r:=e.1) (u:=e.2) (c:=c) (is:=is) th1 hi th3 th4 th5;have E:Env (ir (e.1,e.2) is `cC) (fq e.1.2) c kvs g:=λz x hz=>by
  obtain ⟨j,hj,rfl,rfl⟩:=gg z x hz;have hji:j < is.length:=by omega
  obtain ⟨h1,h2⟩:=hk j _ (aa2 hji);exact ⟨_,F.hole j _ (aa2 hji),h1,.inr h2⟩
 have bg:BdG B g:=λz x hz=>by
  obtain ⟨j,hj,rfl,rfl⟩:=gg z x hz;refine hB _ (hin _ ?_);rw[aa7,aa2 hj];exact aaj hj
 have p5:2 ^ e.1.2.length≤2 ^ 5:=ac4 `a r3;obtain ⟨kvs',k1,k2,k3⟩:=Ka F hv r1 (λt ht=>ht) E bg B1 (by
  have:B*2 ^ e.1.2.length≤30000*2 ^ 5:=ade B2 p5;omega)
 refine ⟨kvs',k1,?_,k3⟩;obtain ⟨b,m1,m2,_⟩:=k2 _ _ r2;have hout:ir (e.1,e.2) is `cC `n=aA (.int (c:Int)):=by
  have z0:(fq e.1.2)[0]?=aA `n:=rfl;have hz:=Gf (aak z0);unfold ir;rw[dk λk _=>(qr hz _).2.2,dk λk _=>(qr hz _).2.1,dk λk _=>(qr hz _).1];show my (b9 e.1.2) `cC _=_
  unfold bxN;rw[Ae,th1];exact Du (j:=0) (yt _) z0
 rw[hout] at m1;cases m1
 rw[m2];have ev:iz ρ (ws.drop (pl p))=evI kinds ρ ws e.2 c0 e.1.1.shape (iz ρ (ws.drop p')):=ev;unfold wAt;rw[ev]
section
variable {kinds:List Str} {rd:List Rd} {ws:List V} {es:List Sd} {pl:Nat→Nat} {ρ:Str→Option Int} {vals:List (Key×V)} {f:Nat→Nat}
def J8 (ρ:Str→Option Int) (ws:List V) (es:List Sd) (pl f:Nat→Nat) (vals:List (Key×V)) (p c:Nat):Prop:=∀kvs:List (Key×V),∃kvs',uh vals kvs ((post `C p).flatMap (jn es `C f)) kvs'∧bf kvs' (bA (f p:Int))=aA (.int (wAt ρ ws (pl p)))∧(c≤f p∧f p < c+sumOf `aN (post `C p))∧∀x:Int,¬((c:Int)≤x∧x < (c:Int)+sumOf `aN (post `C p))→bf kvs' (bA x)=bf kvs (bA x)
theorem Fu {n:Nat} (ih:∀(p s c:Nat),eat 1 ((arE es).drop p)=aA s→s≤n→(∀q∈post `C p,f q=baseOf `aN (post `C p) c q)→J8 ρ ws es pl f vals p c):∀(k pos t c:Nat),eat k ((arE es).drop pos)=aA t→t≤n→((ik `C k pos).flatMap (post `C)).Nodup→(∀q∈(ik `C k pos).flatMap (post `C),f q=baseOf `aN `dc c q)→∀kvs:List (Key×V),∃kvs',uh vals kvs (((ik `C k pos).flatMap (post `C)).flatMap (jn es `C f)) kvs'∧(∀q∈ik `C k pos,bf kvs' (bA (f q:Int))=aA (.int (wAt ρ ws (pl q)))∧c≤f q∧f q < c+sumOf `aN `dc)∧∀x:Int,¬((c:Int)≤x∧x < (c:Int)+sumOf `aN `dc)→bf kvs' (bA x)=bf kvs (bA x)
 | 0,pos,t,c,h,ht,nd,hf,kvs=>⟨kvs,.nil kvs,(λq hq=>nomatch hq),λ_ _=>rfl⟩
 | k+1,pos,t,c,h,ht,nd,hf,kvs=>by
  obtain ⟨m,hm,h1,h2,hk⟩:=n6 h;rw[j5 hm] at nd hf ⊢;rw[abx] at nd hf ⊢;obtain ⟨nd1,nd2,nd3⟩:=List.nodup_append.mp nd;obtain ⟨kv1,r1,v1,b1,f1⟩:=ih pos m c hm (by omega) (λq hq=>by rw[hf q (abp _ hq),xv hq]) kvs;obtain ⟨kv2,r2,v2,f2⟩:=Fu ih k (pos+m) (t - m) (c+sumOf `aN (post `C pos)) hk (by omega) nd2 (λq hq=>by rw[hf q (aar _ hq),yf λz=>nd3 q z q hq rfl]) kv1;rw[Uu,Cu];refine ⟨kv2,r1.app r2,λq hq=>?_,λx hx=>?_⟩
  ·rcases List.mem_cons.mp hq with rfl | hq
   ·refine ⟨?_,b1.1,by omega⟩;rw[f2 _ (by omega),v1]
   ·obtain ⟨a,b,d⟩:=v2 q hq;exact ⟨a,by omega,by omega⟩
  ·rw[f2 x (by omega),f1 x (by omega)]
theorem Gb (hT:CvT kinds rd ws es pl) (bk:Bk kinds (rd.map (·.1))) (tw:Tw ws) (hus:∀e∈es,USm ρ e.2) {B:Nat} (hB:∀p,p < ws.length→(wAt ρ ws p).natAbs < 2 ^ B) (B1:50≤B) (B2:B≤30000) (hv:∀z,bf vals (aM z)=(ρ z).map V.int):∀(n p s c:Nat),eat 1 ((arE es).drop p)=aA s→s≤n→(∀q∈post `C p,f q=baseOf `aN (post `C p) c q)→J8 ρ ws es pl f vals p c
 | 0,p,s,c,h,hs,_=>by have:=cy h;omega
 | n+1,p,s,c,h,hs,hf=>λkvs=>by
  obtain ⟨hp,hbel,m0,hm0,es1⟩:=gb h;have hpe:=post_eq h;have nd:=Jy h;rw[hpe] at nd hf ⊢;obtain ⟨nd1,nd2,nd3⟩:=List.nodup_append.mp nd;have pn:p∉(az `C p).flatMap (post `C):=λz=>nd3 p z p aa6 rfl;have hfp:f p=c+sumOf `aN ((az `C p).flatMap (post `C)):=by
   rw[hf p `eX];exact Cf pn
  obtain ⟨kv1,r1,v1,f1⟩:=Fu (n:=n) (λp s c a b d=>Gb hT bk tw hus hB B1 B2 hv n p s c a b d) _ (p+1) m0 c hm0 (by omega) (by rw[←hbel];exact nd1) (λq hq=>by
   rw[←hbel] at hq ⊢;rw[hf q (abp _ hq),xv hq]) kvs
  rw[←hbel] at r1 v1 f1;have arl:(arE es).length=es.length:=aa0 _;obtain ⟨e,he⟩:∃e,es[p]?=aA e:=⟨_,aa2 (by omega)⟩;obtain ⟨l1,l2⟩:=hT.laid p e he;obtain ⟨th1,_⟩:=hT.thing bk.kd he;have hi:((az `C p).map λq=>((f q:Nat):Int)).length=e.2.hs.length:=by rw[aa0,←l2,aa0]
  obtain ⟨kv2,r2,v2,f2⟩:=P8 hT bk tw hus hB B1 B2 hv he (c:=f p) hi (kvs:=kv1) λj b hb=>by
   rw[aa5] at hb;obtain ⟨q,hq,rfl⟩:=Option.map_eq_some_iff.mp hb;obtain ⟨a1,a2,a3⟩:=v1 q (aak hq);have eq:e.2.hs.getD j 0=pl q:=by
    rw[←l2,aa7,aa5,hq];rfl
   rw[eq];exact ⟨a1,by omega⟩
  have enb:nbE es p=(fq e.1.2).length:=by rw[nb_at he,th1]
  have out1:1≤(fq e.1.2).length:=by unfold fq;rw[aa8];omega
  have eP:[p].flatMap (jn es `C f)=j6 e ((az `C p).map λq=>((f q:Nat):Int)) (bxN (f p) (b9 e.1.2).length):=by
   rw[show [p].flatMap (jn es `C f)=jn es `C f p from ab3 _,Pa he,nb_at he]
  rw[Cu,eP,Fc];refine ⟨kv2,r1.app r2,v2,⟨by omega,by omega⟩,λx hx=>?_⟩;rw[f2 x (by omega),f1 x (by omega)]
end
theorem Nd {kinds:List Str} {rd:List Rd} {ws:List V} {es:List Sd} {pl:Nat→Nat} {ρ:Str→Option Int} {vals:List (Key×V)} {kd:Str} {cs:List Rd} (CA:CvAll kinds rd ws kd cs es pl) (bk:Bk kinds (rd.map (·.1))) (tw:Tw ws) (hus:∀e∈es,USm ρ e.2) {B:Nat} (hB:∀p,p < ws.length→(wAt ρ ws p).natAbs < 2 ^ B) (B1:50≤B) (B2:B≤30000) (hv:∀z,bf vals (aM z)=(ρ z).map V.int):∃fs,ip vals (ud es `C) fs∧bf (dw fs) (bA (yy es `C:Int))=aA `eL:=by
 have e0:eat 1 ((arE es).drop 0)=aA (arE es).length:=by rw[acn];exact gc _ _ CA.pe
 obtain ⟨kv,r,v,_,_⟩:=Gb (f:=baseOf `aN (post `C 0) 0) CA.t bk tw hus hB B1 B2 hv _ 0 _ 0 e0 (aa3 _) (λ_ _=>rfl) [];obtain ⟨fs,h1,h2⟩:=r.runs (fs:=[]) rfl (ip.nil vals);rw[h2,CA.pl0] at v;exact ⟨fs,h1,v⟩
def u7:Sp:=λvs H Q _=>∃(t a:Addr) (ws:List V) (ρ:Str→Option Int),vs=[.ref t,.ref a]∧H t=aA `a3∧vd H a ρ∧(∀v∈ws,isW v∧hasV ρ v∧uj `ew)∧isTerm ws∧ws.length≤1000∧∀H',ag H H'→Q `eL H'
theorem Gv {t a:Addr} {ws:List V} {ρ:Str→Option Int} {H:Hp} {Q:VK} {E:XK} (p0:H t=aA `a3) (p1:vd H a ρ) (p2:∀v∈ws,isW v∧hasV ρ v∧uj `ew) (p3:isTerm ws) (p4:ws.length≤1000) (p5:∀H',ag H H'→Q `eL H'):u7 [.ref t,.ref a] H Q E:=⟨t,a,ws,ρ,rfl,p0,p1,p2,p3,p4,p5⟩
def Lb (ns:List Int) (ρ:Str→Option Int):Prop:=∀i∈[21,22,0,4],∃x:Int,ρ `ds=aA x∧x.natAbs < 10 ^ 12
def qd (K:aG):Sp:=λvs H Q _=>∃(a:Addr) (ns:List Int),vs=[.ref a]∧SqL K H a `G∧ns.length≤63∧∀(d:Addr) (vals:List (Key×V)) (ρ:Str→Option Int) (H':Hp),ag H H'→H' d=aA `cY→(∀z,bf vals (aM z)=(ρ z).map V.int)→Lb ns ρ→vals.length≤100→(vals.map (·.1)).Nodup→Q `X H'
theorem Mu {K:aG} {a:Addr} {ns:List Int} {H:Hp} {Q:VK} {E:XK} (p0:SqL K H a `G) (p1:ns.length≤63) (p2:∀(d:Addr) (vals:List (Key×V)) (ρ:Str→Option Int) (H':Hp),ag H H'→H' d=aA `cY→(∀z,bf vals (aM z)=(ρ z).map V.int)→Lb ns ρ→vals.length≤100→(vals.map (·.1)).Nodup→Q `X H'):qd K [.ref a] H Q E:=⟨a,ns,rfl,p0,p1,p2⟩
def Dz:Sp:=λvs H Q _=>∃(l vl:Addr) (as:List Addr) (R:List `o) (fs:List (Int×Int)) (vals:List (Key×V)),vs=[.ref l,.ref vl]∧H l=aA `e∧bp H as R∧H vl=aA `cY∧ip vals R fs∧R.length≤1000∧∀(d:Addr) (H':Hp),ag H H'→H d=none→H' d=aA (.dK (dw fs))→Q `X H'
theorem mkRunF {l vl:Addr} {as:List Addr} {R:List `o} {fs:List (Int×Int)} {vals:List (Key×V)} {H:Hp} {Q:VK} {E:XK} (p0:H l=aA `e) (p1:bp H as R) (p2:H vl=aA `cY) (p3:ip vals R fs) (p4:R.length≤1000) (p5:∀(d:Addr) (H':Hp),ag H H'→H d=none→H' d=aA (.dK (dw fs))→Q `X H'):Dz [.ref l,.ref vl] H Q E:=⟨l,vl,as,R,fs,vals,rfl,p0,p1,p2,p3,p4,p5⟩
theorem E3 {kinds:List Str} {ws:List V} (hk:Kinds kinds) (hw:∀v∈ws,isW v):∀(sh:List V) (p:Nat) (u u':Und) (d m:Nat),(∀v∈sh,isW v)→pend d `d6=aA 0→eat d `H=aA m→((∀v∈u.ns,v∈ws∧isStr v=false)∧∀v∈u.vs,v∈ws∧isStr v=true∧arV v=0)→bu kinds ws sh p u=aA u'→(∀v∈u'.ns,v∈ws∧isStr v=false)∧∀v∈u'.vs,v∈ws∧isStr v=true∧arV v=0
 | [],p,u,u',d,m,_,_,_,hu,h=>by
  have h:aA u=aA u':=h;cases h
  exact hu
 | v::r,p,u,u',0,m,_,hp,_,_,_=>nomatch hp
 | v::r,p,u,u',d+1,m,hs,hp,he,hu,h=>by
  have hpl:p < ws.length:=by
   rcases ad0 p ws.length with g | g
   ·exact g
   ·rw[abr g] at he;cases he
  have hx:ws[p]?=aA ws[p]:=aa2 hpl;have hxm:=aaj hpl;rw[cv] at h;have eg:ws.getD p .non=ws[p]:=by rw[aa7,hx];rfl
  rw[eg] at h;by_cases c:lies `q v ws[p]=true
  ·rw[if_pos c] at h;obtain ⟨d',m',h1,h2⟩:=fm hk (hs v aa6) hx (hw _ hxm) hp he c;refine E3 hk hw r _ _ u' d' m' (λx hx=>hs x `ct) h1 h2 ?_ h;unfold lies at c;unfold Und.put;by_cases c1:ay kinds v=lH
   ·rw[if_pos c1];exact hu
   rw[if_neg c1] at c ⊢;by_cases c2:ay kinds v=lN
   ·rw[if_pos c2] at c ⊢;refine ⟨λy hy=>?_,hu.2⟩;rcases List.mem_append.mp hy with z | z
    ·exact hu.1 y z
    ·rw[List.mem_singleton.mp z];exact ⟨hxm,by simpa using c⟩
   rw[if_neg c2] at c ⊢;by_cases c3:ay kinds v=lV
   ·rw[if_pos c3] at c ⊢;rw[ac1] at c;refine ⟨hu.1,λy hy=>?_⟩;rcases List.mem_append.mp hy with z | z
    ·exact hu.2 y z
    ·rw[List.mem_singleton.mp z];exact ⟨hxm,c.1,of_decide_eq_true c.2⟩
   rw[if_neg c3];exact hu
  ·rw[if_neg c] at h;cases h
theorem us_of {kinds:List Str} {rd:List Rd} {ws:List V} {es:List Sd} {pl:Nat→Nat} {ρ:Str→Option Int} {ns:List Int} (hT:CvT kinds rd ws es pl) (bk:Bk kinds (rd.map (·.1))) (tw:Tw ws) (hwd:∀v∈ws,WdF ns v) (hρ:Lb ns ρ):∀e∈es,USm ρ e.2:=λe he=>by
 obtain ⟨j,hj⟩:=ab7 he;have hjl:=(List.getElem?_eq_some_iff.mp hj).1;obtain ⟨l1,_⟩:=hT.laid j e hj;obtain ⟨w1,w2,w3⟩:=bk.sh _ (aby (hT.rd e he));obtain ⟨n,hn⟩:=tw.eat (hT.pw j hjl);have hww:∀v∈ws,isW v:=λv hv=>(tw.w v hv).1;obtain ⟨m1,m2⟩:=E3 bk.kd hww _ _ _ _ 1 n w1 w2 hn ⟨(λ_ z=>(aac z).elim),(λ_ z=>(aac z).elim)⟩ l1;have up:∀{x:Int},x.natAbs < 10 ^ 12→x.natAbs < 2 ^ 50:=λh=>aer h `a;refine ⟨λv hv=>?_,λv hv=>?_⟩
 ·obtain ⟨a,b⟩:=m1 v hv;rcases hwd v a with ⟨x,rfl,hx⟩ | ⟨i,_,rfl⟩ | z
  ·exact ⟨x,rfl,up hx⟩
  ·cases b
  ·obtain ⟨k,rfl⟩:=hww v a;cases k with
   | inl i=>cases z
   | inr s=>cases b
 ·obtain ⟨a,b,c⟩:=m2 v hv;rcases hwd v a with ⟨x,rfl,hx⟩ | ⟨i,hi,rfl⟩ | z
  ·cases b
  ·obtain ⟨x,h1,h2⟩:=hρ i hi;exact ⟨_,x,rfl,h1,up h2⟩
  ·omega
theorem Uk {ws:List V} {ρ:Str→Option Int} {ns:List Int} (tw:Tw ws) (hwd:∀v∈ws,WdF ns v) (hρ:Lb ns ρ):∀v∈ws,isW v∧hasV ρ v∧uj `ew:=λv hv=>by
 have up:∀i:Int,i.natAbs < 10 ^ 12→mag i≤2 ^ 200:=λi hi=>by
  have h1:(2:Nat)≤2 ^ 200:=by decide+kernel
  have h2:(10:Nat) ^ 12≤2 ^ 200:=by decide+kernel
  unfold mag;omega
 refine ⟨(tw.w v hv).1,?_⟩;rcases hwd v hv with ⟨x,rfl,hx⟩ | ⟨i,hi,rfl⟩ | z
 ·exact ⟨trivial,up x hx⟩
 ·obtain ⟨x,h1,h2⟩:=hρ i hi;refine ⟨.inr (by rw[h1];rfl),?_⟩;show uj (if 0 < arS `ds then _ else V.int ((ρ `ds).getD 0))
  by_cases c:0 < arS `ds
  ·rw[if_pos c];exact trivial
  ·rw[if_neg c,h1];exact up x h2
 ·obtain ⟨k,rfl⟩:=(tw.w v hv).1;cases k with
  | inl i=>cases z
  | inr s=>
   have z:0 < arS s:=z;exact ⟨.inl z,by show uj (if 0 < arS s then _ else _);rw[if_pos z];exact trivial⟩
theorem Lp {ws:List V} {ρ:Str→Option Int} (tw:Tw ws) (hv:∀v∈ws,isW v∧hasV ρ v∧uj `ew) {p:Nat} (hp:p < ws.length):(wAt ρ ws p).natAbs < 2 ^ (200*ws.length+1):=by
 obtain ⟨m,hm⟩:=pd _ 1 tw.one p;rw[←ac6] at hm;have hne:(ws.drop p).map arV≠[]:=λe=>by
  have:=congrArg ac2 e;rw[aa0,aau] at this;have:ws.length - p=0:=this;omega
 have hpos:=Fn hm hne;have hs:=runN_size `cK m (λv hv'=>by
  obtain ⟨y,hy,rfl⟩:=List.mem_map.mp hv';obtain ⟨a,b,c⟩:=hv y (ac5 hy);exact ⟨ph a,c⟩) (by rw[xp];exact hm)
 have hl:=Au (ρ:=ρ) (xs:=ws.drop p) (λv hv'=>(hv v (ac5 hv')).1) hm;have hl:(runN `cK).length=m:=hl;have hin:wAt ρ ws p∈runN `cK:=by
  show (runN `cK).getD 0 0∈_
  rw[aa7,aa2 (by omega)];exact aaj _
 have h1:=mag_le _ _ hin;have h3:(wAt ρ ws p).natAbs≤mag (wAt ρ ws p):=ado _ _;rw[aa0,aau] at hs;have h4:2 ^ (200*(ws.length - p))≤2 ^ (200*ws.length):=ac4 `a (by omega);rw[ae5];have h5:1≤2 ^ (200*ws.length):=ad9;omega
noncomputable def Ht:List V:=[V.str `R,V.str (aB "load"),V.str `w,V.str `h,V.str `D,V.str `u]
theorem gw.head {vals kvs:List (Key×V)} {t:List V} {b n:Int} (h:gw vals kvs t b n):∃z r,t=.str z::r∧inV `J Ht=true:=by
 cases h with
 | put=>exact ⟨_,_,rfl,by decide+kernel⟩
 | load=>exact ⟨_,_,rfl,by decide+kernel⟩
 | neg=>exact ⟨_,_,rfl,by decide+kernel⟩
 | bin z b x y m n hz=>
  refine ⟨_,_,rfl,?_⟩;rcases fk (z:=z) (by omega) with rfl | rfl | rfl | rfl <;> decide+kernel
noncomputable def Dv (a b:Int):List (Key×V):=[(aM `h,V.int (a+b)),(aM `D,V.int (a - b)),(aM `u,V.int (a*b))]
theorem disp3 {z:Str} (h:arS z=2) (a b:Int):bf (g6 [] (Dv a b)) (aM z)=aA (.int `dQ):=by
 have k:∀x y:Str,x≠y→¬((aM x:Key)=aM y):=λx y n e=>n (eB e);have n1:(aB "add")≠(aB "mul"):=by decide+kernel
 have n2:(aB "add")≠(aB "sub"):=by decide+kernel
 have n3:(aB "sub")≠(aB "mul"):=by decide+kernel
 show bf (putK (putK (putK ([]:List (Key×V)) (aM `h) (V.int (a+b))) (aM `D) (V.int (a - b))) (aM `u) (V.int (a*b))) (aM z)=_
 unfold opN;rcases fk (z:=z) (by omega) with rfl | rfl | rfl | rfl
 ·rw[cg,if_neg (k _ _ n1),cg,if_neg (k _ _ n2),cg,if_pos rfl,if_pos rfl]
 ·rw[cg,if_neg (k _ _ n3),cg,if_pos rfl,if_neg n2.symm,if_pos rfl]
 ·rw[cg,if_pos rfl,if_neg n1.symm,if_neg n3.symm,if_pos rfl]
 ·exact absurd h `b
theorem Qc {K:aG} {c:Nat} {a:Addr} {xs:List V} {fr:L2.St} {tc:TT} {te:TE} {D:Addr} {H1:Hp} {Q:Hp→Prop} (P:Nat→List V→Hp→Prop) (mono:∀i ys H H',TK H H'→P i ys H→P i ys H') (hc:c=2) (hS:SqL K H1 a xs) (hn:xs.length < sizeLine) (hD:H1 D=none) (h0:P 0 [] H1)
  (step:∀i x ys H (G:Hp→Prop) (K':V→Hp→Prop),xs[i]?=aA x→P i ys H→ys.length≤i→ag H1 H→(∀H3,ag H H3→P (i+1) ys H3→G H3)→(∀y H4,ag H H4→P (i+1) (ys++[y]) H4→K' y H4)→tc ([aA (.int (i:Nat)),aA x]++fr) H λb H3=>if b=true then te ([aA (.int (i:Nat)),aA x]++fr) H3 K' else G H3)
  (done:∀ys H,P xs.length ys H→ys.length≤xs.length→ag H1 H→H D=aA `aS→Q H):LC 2 fr (gTup K c (nz (gh 0) (nz (gh 1) gNil))) tc te (Ite K a) D H1 Q:=by
 refine Qx xs.length (λi x y _=>x=.int (i:Nat)∧xs[i]?=aA y) P mono hc hn hD (λi H hi hs=>⟨xs,_,hs.seq hS,aa2 hi⟩) (λi H v H' hi hs hy=>?_) (λH hs=>⟨xs,hs.seq hS,aa3 _⟩) h0 (λi x y ys H G K' hi hR hP hl hs hG hK=>?_) done
 ·obtain ⟨p,y,hy,hp,rfl,rfl⟩:=hy;exact ⟨ab hp _,p,_,y,rfl,SqT.of aa,rfl,hy xs (hs.seq hS)⟩
 ·obtain ⟨rfl,hy⟩:=hR;exact step i y ys H G K' hy hP hl hs hG hK
theorem zf {k:Key}:∀{ps acc:List (Key×V)},k∉ps.map (·.1)→bf (b7 ps acc) k=bf acc k
 | [],acc,_=>rfl
 | p::r,acc,h=>by
  show bf (b7 r `c2) k=_
  rw[zf λz=>h (aa9 _ z),cg,if_neg λz=>h (by rw[z];exact aa6)]
theorem Bp {k:Key} {v:V}:∀{ps acc:List (Key×V)},(ps.map (·.1)).Nodup→(k,v)∈ps→bf (b7 ps acc) k=aA v
 | p::r,acc,nd,h=>by
  obtain ⟨n1,n2⟩:=List.nodup_cons.mp nd;show bf (b7 r `c2) k=_
  rcases List.mem_cons.mp h with rfl | h
  ·rw[zf n1,cg,if_pos rfl]
  ·exact Bp n2 h
theorem Af {k:Key} {v:V}:∀{ps acc:List (Key×V)},(∀p∈ps,∃i:Int,p.2=.int i)→(∀y w,bf acc y=aA w→∃i:Int,w=.int i)→bf (b7 ps acc) k=aA v→∃i:Int,v=.int i
 | [],acc,_,ha,h=>ha k v h
 | p::r,acc,hp,ha,h=>by
  refine Af (ps:=r) (acc:=putK acc p.1 p.2) (λx hx=>hp x `ct) (λy w hy=>?_) h;rw[cg] at hy;split at hy
  ·cases hy;exact hp p aa6
  ·exact ha y w hy
theorem E2:∀{ps acc:List (Key×V)},(acc.map (·.1)).Nodup→((b7 ps acc).map (·.1)).Nodup
 | [],acc,h=>h
 | p::r,acc,h=>E2 (ps:=r) (acc:=putK acc p.1 p.2) (nd_put p.2 h)
theorem Ib {names:List Str} {xs:List Int} (nd:names.Nodup) (hl:xs.length=names.length) {ps:List (Key×V)} (hp:ps=(names.map (aM:Str→Key)).zip (xs.map V.int)):∃ρ:Str→Option Int,(∀z,bf `ex (aM z)=(ρ z).map V.int)∧(∀(j:Nat) (z:Str) (x:Int),names[j]?=aA z→xs[j]?=aA x→ρ z=aA x)∧(b7 ps []).length≤names.length∧((b7 ps []).map (·.1)).Nodup:=by
 have ek:ps.map (·.1)=names.map (aM:Str→Key):=by
  rw[hp];exact ae7 (by rw[aa0,aa0];omega)
 have nd2:(ps.map (·.1)).Nodup:=by
  rw[ek];exact List.pairwise_map.mpr (List.Pairwise.imp (λn e=>n (eB e)) nd)
 have hin:∀p∈ps,∃i:Int,p.2=.int i:=λp h=>by
  rw[hp] at h;obtain ⟨i,_,e⟩:=List.mem_map.mp (ac3 (a:=p.1) (b:=p.2) h).2;exact ⟨i,e.symm⟩
 let ρ:Str→Option Int:=λz=>(bf `ex (aM z)).map intOf
 refine ⟨ρ,λz=>?_,λj z x hj hx=>?_,?_,E2 (ps:=ps) (acc:=[]) acx⟩
 ·show _=((bf `ex (aM z)).map intOf).map V.int
  cases e:bf `ex (aM z) with
  | none=>rfl
  | some v=>
   obtain ⟨i,rfl⟩:=Af hin (λy w h=>by cases h) e;rfl
 ·show (bf `ex (aM z)).map intOf=aA x
  have hm:((aM z:Key),V.int x)∈ps:=by
   rw[hp];refine aak (i:=j) ?_;rw[ae0];exact ⟨by rw[aa5,hj];rfl,by rw[aa5,hx];rfl⟩
  rw[Bp nd2 hm];rfl
 ·have:=jg ps [];have el:ps.length=names.length:=by rw[←aa0 (f:=(·.1)),ek,aa0]
  have e0:([]:List (Key×V)).length=0:=rfl;omega
noncomputable def four:List Nat:=[21,22,0,4]
theorem Vg (ns:List Int):(four.map (wd ns)).Nodup:=by
 refine List.pairwise_map.mpr (ae6 ?_ (show four.Nodup by decide));intro a b ha hb n e;have lt:∀x∈four,x < 26:=by decide
 exact n (Hw (lt a ha) (lt b hb) e)
theorem Mk.five {kinds:List Str} {sh:List V} {dd:List `o} (h:Mk kinds sh dd):dd.length≤5:=by
 cases h with
 | any=>show (1:Nat)≤5;decide
 | var=>show (1:Nat)≤5;decide
 | neg=>show (1:Nat)≤5;decide
 | two=>show (1:Nat)≤5;decide
 | four=>show (3:Nat)≤5;decide
 | zero=>show (2:Nat)≤5;decide
 | twice=>show (4:Nat)≤5;decide
 | vzero=>show (1:Nat)≤5;decide
 | way=>show (3:Nat)≤5;decide
 | s1=>
  rename_i l _
  have:=l.bq c0 "t1";rw[aa1,aa4];omega
 | s2=>
  rename_i w l m _ _ _
  have:=l.bq c0 "t1";have:=m.bq `ay "t2";rw[aa1,aa1,aa4];omega
 | s3=>
  rename_i w o l m r _ _ _ _ _
  have:=l.bq c0 "t1";have:=m.bq `ay "t2";have:=r.bq `Q "t3";rw[aa1,aa1,aa1,aa1,aa4,aa4];omega
 | s4=>
  rename_i w o l m r _ _ _ _ _
  have:=l.bq c0 "t1";have:=m.bq `ay "t2";have:=r.bq `Q "t3";rw[aa1,aa1,aa1,aa1,aa4,aa4];omega
theorem G3 {kinds:List Str} {rd:List Rd} {ws:List V} {es:List Sd} {pl:Nat→Nat} {ρ:Str→Option Int} (hT:CvT kinds rd ws es pl) (bk:Bk kinds (rd.map (·.1))) (us:∀e∈es,USm ρ e.2) (h:(post `C 0).length≤190):(ud es `C).length≤1000:=by
 have five:∀e∈es,e.1.2.length≤5:=λe he=>(hT.md e he).five;have:∀xs:List Nat,(xs.flatMap (jn es `C `d4)).length≤5*xs.length:=λxs=>by
  induction xs with
  | nil=>exact aa3 _
  | cons x xs ih=>
   rw[abx,aa1,aa8];have:(jn es `C `d4 x).length≤5:=by
    unfold jn;cases e:es[x]? with
    | none=>exact aai _
    | some a=>
     show (j6 a _ _).length≤5
     unfold j6;rw[aa0];exact five a (aak e)
   omega
 have h2:=this (post `C 0);show ((post `C 0).flatMap (jn es `C `d4)).length≤1000
 omega
theorem bp.rowsIn {H:Hp} {as:List Addr} {R:List `o} (h:bp H as R):Q6 H (as.map V.ref) R:=⟨by rw[aa0];exact h.1,λi t ht=>by
 obtain ⟨a,h1,h2⟩:=h.2 i t ht;exact ⟨a,by rw[aa5,h1];rfl,h2⟩⟩
end Pc
namespace PySem
open Sem (wp)
open AutoSeq1 (wpAny_loadPart')
noncomputable def iu (l:Addr):Obj:={ cls:=.type "tuple_iterator",data:=.fields #[.ref l,.int 0 0] }
theorem Mf (l:Addr) (items:Array aD) (n:Nat) (t:Tok) (dct:Option Addr) (sl:Array `e2):
  Meets `cb (λ_ R s=>s.heap.get? l=aA { cls:=.type "tuple",dict:=dct,data:=.seq items n,slots:=sl }∧
   R (.ok (.ret `aG)) { s with heap:=(s.heap.push (iu l)).push `aR }):=
 .of_wp λprog w A R s h=>by
  obtain ⟨hp,g,d,tk,os⟩:=s;obtain ⟨hl,h⟩:=h;have hsb:=sub_enumerate;have hLs:mU `eV l items:=⟨_,hl,rfl,n,rfl⟩;wp_walk using wpAny_loadPart' hl
  refine wpAny_stack_any λst=>aH ?_;split
  ·next c _ _ _ _ _=>
   cases (c==dA "enumerate") <;> (wp_walk using wpAny_loadPart' hl,eR hLs;exact ⟨_,rfl,h⟩)
  ·wp_walk using wpAny_loadPart' hl,eR hLs
   exact ⟨_,rfl,h⟩
section
variable {prog:aX} {w:aZ} {A:bJ} {E:aD→aF→Prop} {s:aF}
theorem Qa {l:Addr} {t:Tok} {items:Array aD} {Q:aD→aF→Prop} (hL:s.heap.IsTuple l items)
  (h:Q `aG { s with heap:=(s.heap.push (iu l)).push `aR }):
  aI `f A (call `cQ [.ref l] [("start",.int 1 t)]) Q E s:=by
 have ft:=mZ;obtain ⟨c0,tl,hmro⟩:=ft.mro;have hmade:=ft.made;have hsub:=ft.sub;have hct:=G6 `B (.int 1 t);obtain ⟨⟨c,dct,dt,sl⟩,hl,hc,n,hd⟩:=hL;replace hc:c=.type "tuple":=hc
 replace hd:dt=.seq items n:=hd
 subst hc hd;refine nQ (codeAny_of_tree (show aI _ _ (callAny `cQ _) _ _ _ from ?_));refine aH ⟨nA _ `b,dF nH ?_⟩;rw[nB `eu (lR _ _ _)];have h1:=ft.notType;have h2:=ft.canCreate;repeat (any_goals (first | assumption | wp_step))
 have hen:(iw s.heap.objs.size).cls=.type "enumerate":=rfl;have hT:({ s with heap:=(s.heap.push (iu l)).push `aR }:aF).TypeIs `aG "enumerate":=⟨_,aJ _ rfl,rfl⟩;refine eZ (R:=wants (λv s1=>v=.ref (s.heap.push (iu l)).objs.size∧s1={ s with heap:=(s.heap.push (iu l)).push `aR }) E) (fH ft.plain lB (nJ (J0 `B (.int 1 t)) (Mf l items n t dct sl prog w A.in1 _ s ⟨hl,rfl,rfl⟩))) λr s1 hr=>?_;match r,hr with
 | .error e,hr=>exact hr
 | .ok (.ret obj),hr=>
  obtain ⟨rfl,rfl⟩:=hr;have hli:=ft.init.lookup;have hbi:=ft.init.bind `aG;repeat (any_goals (first | assumption | wp_step))
  have gi:=yj (T:="enumerate") (self:=.ref (s.heap.push (iu l)).objs.size) (a:=.ref l) (v:=.int 1 t) ft.init.lookup ft.made `a;refine eZ (fH ft.init.plain mD (ft.init.check _ _ _ _ _ _ _ _ hT (Gm _ _ _) (gi prog w A.in1 (wants (λr s2=>r=.none∧Q `aG s2) E) _ ⟨hT,rfl,h⟩))) λr2 s2 hr2=>?_;match r2,hr2 with
  | .error e,hr2=>exact hr2
  | .ok (.ret r),hr2=>
   obtain ⟨rfl,hq⟩:=hr2;repeat (any_goals (first | assumption | wp_step))
end
end PySem
namespace L2
open PySem PySem.Spec PyProof.Rows L2.Zg
theorem Su {prog:aX} {w:aZ} {A:bJ} (hh:A.handled=none) (it l:Addr) (hne:l≠it) (items:Array aD):
  Draws prog w A it [it,l] (items.size+1) (λi v=>∃j,i=j+1∧items[j]?=aA v) (λi h=>∃j,i=j+1∧h.IsTupleIter it l j∧h.IsTuple l items) where
 live:=λ_ _ ⟨_,_,⟨o,ho,_⟩,_⟩=>⟨o,ho⟩
 frame:=λ_ _ _ ⟨j,e,a,b⟩ hk=>⟨j,e,a.at λo e=>hk it aa6 o e,b.at λo e=>hk l `eZ o e⟩
 item:=by
  rintro i s Q E hi ⟨j,rfl,a,b⟩ hQ;have hj:j < items.size:=aef hi;exact Hf.next (b:=true) ⟨a,b⟩ hne (aax hj) λh' ⟨a',b'⟩ hs=>hQ _ h' s.toks ⟨j,rfl,aax hj⟩ ⟨j+1,rfl,a',b'⟩ hs
 done:=by
  rintro s Q E ⟨j,e,a,b⟩ hE;obtain rfl:j=items.size:=(acy e).symm;exact Hf.stop (b:=true) hh ⟨a,b⟩ (ac0 (aa3 _)) hE
noncomputable def Rr (K:aG) (a:Addr):It:=
 ⟨λi H=>∃xs x,SqT K H a xs∧xs[i]?=aA x,λi H x H'=>∃p y,(∀xs,SqT K H a xs→xs[i]?=aA y)∧H p=none∧x=.ref p∧H'=upd H p (.tup [.int ((i+1:Nat):Int),y]),λi H=>∃xs,SqT K H a xs∧xs.length≤i⟩
theorem Fj {P:aX} {w:aZ} {K:aG} {elts:List Expr} {x1} {tpos:Pos} (a it e:Addr) (hne:e≠it) (hea:e≠a) (hai:a≠it):Turn P w K `cq (Rr K a) [e,it] e (λi h=>(∃old,IsEnum h e it ((i+1:Nat):Int) old)∧h.IsTupleIter it a i) where
 mem:=by simp
 obj:=λi h st b hb=>by
  obtain ⟨⟨old,he⟩,o',e',c',d'⟩:=st;rcases List.mem_cons.mp hb with rfl | z
  ·exact ⟨_,he,λv z=>by cases z⟩
  ·cases List.mem_singleton.mp z
   exact ⟨o',e',λv z=>by rw[d'] at z;cases z⟩
 keep:=λi h h' ⟨⟨old,he⟩,st2⟩ k=>⟨⟨old,k e `c _ he⟩,st2.at λo' e'=>k it `c o' e'⟩
 item:=by
  intro X hP hw hK hc i pins s σ H E I hf st hg;subst hP hw hK;obtain ⟨xs,x,hq,hx⟩:=hg;obtain ⟨⟨old,he⟩,st2⟩:=st;obtain ⟨its,rv,p,hz⟩:=I.tuple hq;obtain ⟨u,hu,ru⟩:=rv.get hx;have le:e < s.heap.objs.size:=aK he;have li:it < s.heap.objs.size:=let ⟨_,e',_⟩:=st2;aK e'
  have hil:i < its.toArray.size:=by
   have:=(List.getElem?_eq_some_iff.mp hu).1;simpa using this
  refine jJ (Su (A:=X.A.in1) `aH it a hai its.toArray) he ⟨i,rfl,st2,`a7⟩ (aey hil) hne (λz=>by
   rcases List.mem_cons.mp z with z | z
   ·exact hne z
   ·exact hea `eo) λu' h1 tk hP heo hst1 ht1 hz1 hk1=>⟨_,rfl,?_⟩
  obtain ⟨j,ej,hu'⟩:=hP;cases acy ej
  obtain rfl:u'=u:=by
   have:its.toArray[i]?=aA u:=by simpa using hu
   exact aaa (hu'.symm.trans this)
  obtain ⟨j,ej,hit1,_⟩:=hst1;cases acy ej
  refine fJ heo λh2 he2 sb=>?_;have sb:bE e h1 h2:=sb;have hfr:H s.heap.objs.size=none:=I.hok.fresh (aa3 _);have I1:Inv X pins σ (upd H s.heap.objs.size `V) { s with heap:=s.heap.push { cls:=.type "tuple",data:=.seq #[.int ((i+1:Nat):Int) tk,u'] },toks:=tk+1 }:=
   I.laid (t':=tk+1) (λb o' e'=>aE _ e') (aa3 _) (show cj X.prog X.w _ _ _ `V from ⟨by show (2:Nat)≤sizeLine;decide,[.int ((i+1:Nat):Int) tk,u'],.cons ⟨_,rfl⟩ (.cons ru .nil),⟨_,aJ _ rfl,rfl,_,rfl,rfl⟩⟩)
  have nup:∀b,b < s.heap.objs.size→(upd H s.heap.objs.size `V) b=H b:=λb hb=>ah (aam hb);have fpl:∀b∈[e,it],b < s.heap.objs.size:=λb hb=>(List.mem_cons.mp hb).elim (λz=>z ▸ le) λz=>by rw[List.mem_singleton.mp z];exact li
  have I2:=Inv.tf (h':=h2) (t':=tk+1) (fp:=[e,it]) I1 (λb o' hb e'=>by
   have be:b≠e:=λz=>hb (by rw[z];exact aa6);have bi:b≠it:=λz=>hb (by rw[z];exact aa9 _ aa6);have e':(s.heap.push { cls:=.type "tuple",data:=.seq #[.int ((i+1:Nat):Int) tk,u'] }).get? b=aA o':=e';by_cases hbs:b=s.heap.objs.size
   ·subst hbs;rw[aJ _ rfl] at e';cases e'
    exact (sb.2 _ be).trans ht1
   ·rw[gF _ _ _ hbs] at e';exact (sb.2 _ be).trans (hk1 b o' be bi e')) λb hb=>by
   obtain ⟨f0,f⟩:=hf b hb;exact ⟨(nup b `dN).trans f0,f⟩
  exact ⟨.ref s.heap.objs.size,_,I2,rfl,⟨_,x,λys hy=>by rw[I.vy hy hq];exact hx,hfr,rfl,rfl⟩,⟨⟨u',he2⟩,hit1.at λo' e'=>(sb.2 _ hne.symm).trans e'⟩,λb hb=>(nup b `dN).trans (hf b hb).1⟩
 done:=by
  intro X hP hw hK hc i pins s σ H E I hf st hg;subst hP hw hK;obtain ⟨xs,hq,hx⟩:=hg;obtain ⟨⟨old,he⟩,st2⟩:=st;obtain ⟨its,rv,p,hz⟩:=I.tuple hq;have hl:=rv.length;obtain ⟨f0,f1,f2,f3,f4,f5⟩:=hf it `c;have hT:s.TypeIs `e5 "enumerate":=⟨_,he,rfl⟩;have hnone:its.toArray[i]?=none:=by simp;omega
  unfold cS;refine aC (dU (bK (name:=aB "__next__") hT fD (bN fD hT kL ?_ (jK _))));show aI _ _ (eL `e5 2 >>=_) _ _ _
  refine aC (bF he rfl (x:=.ref it) rfl (aC (Hf.stop (b:=true) `aH ⟨st2,`a7⟩ hnone λh' x eb ⟨o,ho,hc'⟩=>aC (eF (T:="StopIteration") (b:=true) ⟨o,ho,hc'⟩ gA ?_))));exact aH ⟨rfl,I.turned (t':=s.toks) (λb o' hb e'=>eb b o' hb e') f0 f1 f3 f4 f5⟩
 self:=λ_ _ _ _ _ st h=>by
  obtain ⟨⟨old,he⟩,_⟩:=st;exact dW he h
theorem ym {K:aG} {a:Addr} {xs:List V} {g:TG} {tb:TS} {D:Ends} {σ:St} {H:Hp} (Pv:Nat→St→Hp→Prop) (h0:Pv 0 σ H) (hl:∀i σ H,i≤xs.length→Pv i σ H→SqT K H a xs)
  (hs:∀i x σ H p,xs[i]?=aA x→Pv i σ H→H p=none→g `aW σ (upd H p `V) λσ2 H2=>tb { D with nx:=Pv (i+1),ct:=Pv (i+1),bk:=D.nx } σ2 H2) (hd:∀σ H,Pv xs.length σ H→D.nx σ H):Dc g tb D (Rr K a) σ H:=by
 refine ⟨λi m σ H=>m=xs.length - i∧i≤xs.length∧Pv i σ H,⟨xs.length,by simp,aai _,h0⟩,?_⟩;rintro i m σ H ⟨rfl,hi,p⟩;have q:=hl i σ H hi p;by_cases hlt:i < xs.length
 ·refine .inr ⟨⟨xs,_,q,aa2 hlt⟩,Pv (i+1),λσ' H' p'=>⟨xs.length - (i+1),by omega,rfl,hlt,p'⟩,λx H' y=>?_⟩;obtain ⟨t,v,hv,hn,rfl,rfl⟩:=y;exact hs i v σ H t (hv xs q) p hn
 ·obtain rfl:i=xs.length:=by omega
  exact .inl ⟨⟨xs,q,aa3 _⟩,hd σ H p⟩
section
variable {X:Cx}
def Qu (K:aG) (ta:TA):TI:=λσ H R=>ta σ H λvs H1=>∃a xs,vs=[.ref a]∧((SqL K H1 a xs∧R (Ite1 K a) H1)∨(SqT K H1 a xs∧R (Rr K a) H1))
theorem Ro {a:Expr} {ta:TA} {p pos tpos cp kp:Pos} {elts:List Expr} {x1} {j} (hg:Gl X "enumerate") (hm:X.mg "enumerate"=none) (ha:PA X [a] ta) (hs:bB [a] X.env=[(false,eval a X.env)]:=by rfl):PI X `cq (.Call (.Name "enumerate" p) [a] [⟨aA "start",.Constant (.int 1) j cp,kp⟩] pos) (Qu X.K ta):=by
 intro pins s σ H R I h;refine bU (gj I hg hm xc (Df (thn `aw λus s1 ⟨vs,H1,I1,r1,q1⟩=>?_) (by rw[hs];rfl) (by rw[hs];rfl) rfl rfl));obtain ⟨l,xs,e,hq⟩:=q1;subst e;cases r1 with
 | cons r rr=>
  cases rr
  cases (show _=bG l from r)
  refine kws_cons (mL (kws_nil ?_));rcases hq with ⟨hq,q⟩ | ⟨hq,q⟩
  ·have I1:=I1.tok (s1.toks+1);obtain ⟨its,rv,pl,hz⟩:=I1.list hq;refine Rz (t:=s1.toks) pl.isList ?_;have hz1:(s1.heap.push (iy l)).objs.size=s1.heap.objs.size+1:=bD ..;have he:IsEnum ((s1.heap.push (iy l)).push `dh) (s1.heap.objs.size+1) s1.heap.objs.size ((0+1:Nat):Int) .none:=by
    have:=aJ (s1.heap.push (iy l)) (o:=iw s1.heap.objs.size) rfl;rw[hz1] at this;exact this
   show aI _ _ (iZ (.ref (s1.heap.push (iy l)).objs.size)) _ _ _
   rw[hz1];refine dW he ?_;have I2:=I1.kept (h':=(s1.heap.push (iy l)).push `dh) (t':=s1.toks+1) λb o x=>aE _ (aE _ x);have ll:l < s1.heap.objs.size:=pl.lt;refine ⟨s1.heap.objs.size+1,[s1.heap.objs.size+1,s1.heap.objs.size],_,_,H1,rfl,I2,Ie l _ _ (ae3 _) (ab2 (acj ll)) (aam ll),⟨⟨_,he⟩,⟨_,aE _ (aJ _ rfl),rfl,rfl⟩⟩,λb hb=>?_,q⟩;rcases List.mem_cons.mp hb with z | z
   ·subst z;exact I1.nu (abe _) (I1.hok.fresh (abe _))
   ·rw[List.mem_singleton.mp z];exact I1.nu (aa3 _) `aL
  ·have I1:=I1.tok (s1.toks+1);obtain ⟨its,rv,pl,hz⟩:=I1.tuple hq;refine Qa (t:=s1.toks) (show s1.heap.IsTuple l its.toArray from pl) ?_;have hz1:(s1.heap.push (iu l)).objs.size=s1.heap.objs.size+1:=bD ..;have he:IsEnum ((s1.heap.push (iu l)).push `dh) (s1.heap.objs.size+1) s1.heap.objs.size ((0+1:Nat):Int) .none:=by
    have:=aJ (s1.heap.push (iu l)) (o:=iw s1.heap.objs.size) rfl;rw[hz1] at this;exact this
   show aI _ _ (iZ (.ref (s1.heap.push (iu l)).objs.size)) _ _ _
   rw[hz1];refine dW he ?_;have I2:=I1.kept (h':=(s1.heap.push (iu l)).push `dh) (t':=s1.toks+1) λb o x=>aE _ (aE _ x);have ll:l < s1.heap.objs.size:=by obtain ⟨o,e,_⟩:=(show s1.heap.IsTuple l its.toArray from pl);exact aK e
   refine ⟨s1.heap.objs.size+1,[s1.heap.objs.size+1,s1.heap.objs.size],_,_,H1,rfl,I2,Fj l _ _ (ae3 _) (ab2 (acj ll)) (aam ll),⟨⟨_,he⟩,⟨_,aE _ (aJ _ rfl),rfl,rfl⟩⟩,λb hb=>?_,q⟩;rcases List.mem_cons.mp hb with z | z
   ·subst z;exact I1.nu (abe _) (I1.hok.fresh (abe _))
   ·rw[List.mem_singleton.mp z];exact I1.nu (aa3 _) `aL
end
end L2
namespace L2
open PySem PySem.Spec PyProof.Rows
abbrev TFx:=St→Hp→Str→(Str→Hp→Prop)→Prop
def PFx (X:Cx) (es:List Expr) (n:Nat) (t:TFx):Prop:=
 ∀(pins:List (Addr×Obj)) (s:aF) (σ:St) (H:Hp) (Q:Str→Hp→Prop) (acc:Str),Inv X pins σ H s→acc.length+n≤sizeLine→t σ H acc Q→
  Joins `d X.A X.xe (evalEach es X.env) acc (λout s1=>out.length≤sizeLine∧∃H1,Inv X pins σ H1 s1∧Q out H1) s
noncomputable def tX0:TFx:=λ_ H acc Q=>Q acc H
noncomputable def tXS (tv:TE) (t:TFx):TFx:=λσ H acc Q=>tv σ H λx H1=>∃z,x=.str z∧z.length≤1000∧t σ H1 (acc++z) Q
noncomputable def tXI (tv:TE) (t:TFx):TFx:=λσ H acc Q=>tv σ H λx H1=>∃a:Int,x=.int a∧a.natAbs.log2 < 1920∧t σ H1 (acc++aB (toString a)) Q
def tFx (t:TFx):TE:=λσ H Q=>t σ H iB λo H1=>Q (.str o) H1
section
variable {X:Cx} {v e1 e2:Expr} {es:List Expr} {tv:TE} {t:TFx} {p pos:Pos} {n:Nat}
theorem px_nil:PFx X [] 0 tX0:=λpins s σ H Q acc I ha h=>⟨ha,H,I,h⟩
theorem px_s (hv:PE X v tv) (r:PFx X es n t):PFx X (.FormattedValue v (-1) none p::es) (1000+n) (tXS tv t):=λpins s σ H Q acc I ha h=>by
 refine iL (thn (hv pins s σ H _ I h) λu s1 ⟨x,H1,I1,r1,z,e,hl,q⟩=>?_);subst e;obtain ⟨t,rfl⟩:=r1;have sz:=aV;exact formatField_str (λt' tk=>⟨_,t',rfl,by rw[iM];omega,r pins _ σ H1 Q _ (I1.tok _) (by rw[iM];omega) q⟩) (by omega)
theorem px_i (hv:PE X v tv) (r:PFx X es n t):PFx X (.FormattedValue v (-1) none p::es) (2000+n) (tXI tv t):=λpins s σ H Q acc I ha h=>by
 refine iL (thn (hv pins s σ H _ I h) λu s1 ⟨x,H1,I1,r1,a,e,hl,q⟩=>?_);subst e;obtain ⟨t,rfl⟩:=r1;have hx:(aB (toString a)).length≤1921:=by rw[PySem.ofString_length];exact int_text_length_le `a hl
 have sz:=aV;refine formatField_int_small hl ?_;exact ⟨_,_,rfl,by rw[iM];show _+(aB (toString a)).length≤_;omega,r pins _ σ H1 Q _ (I1.tok _) (by rw[iM];show _+(aB (toString a)).length+_≤_;omega) q⟩
theorem Uj (h:PFx X (e1::e2::es) n t) (hn:n≤1000000:=by decide):PE X (.JoinedStr (e1::e2::es) pos) (tFx t):=by
 intro pins s σ H Q I hq;have sz:=aV;refine wpAny_JoinedStr ?_;have:=h pins s σ H _ iB I (by show 0+n≤_;omega) hq;have mono:∀(xs:List (Sem aD)) (acc:Str) (Q Q':Str→aF→Prop) (s:aF),(∀o s,Q o s→Q' o s)→Joins `d X.A X.xe xs acc Q s→Joins `d X.A X.xe xs acc Q' s:=by
  intro xs;induction xs with
  | nil=>intro acc Q Q' s hQ h;exact hQ _ _ h
  | cons x r ih=>intro acc Q Q' s hQ h;exact thn h λu s1 ⟨y,t,e,hl,hj⟩=>⟨y,t,e,hl,ih _ _ _ _ hQ hj⟩
 exact mono _ _ _ _ _ (λo s1 ⟨hl,H1,I1,q⟩=>⟨hl,.str o,H1,I1.tok _,⟨_,rfl⟩,q⟩) this
end
end L2
namespace L2.Zg
open PySem L2.Zd
structure Hs (it l:Addr) (XS:Str) (XT:Tok) (k:Nat) (h:Heap):Prop where
 st:h.IsStrIter it "str_ascii_iterator" XS XT k
theorem Hs.keep {it l:Addr} {XS:Str} {XT:Tok} {k:Nat} {h h':Heap} (x:Hs it l XS XT k h) (g1:∀o,h.get? it=aA o→h'.get? it=aA o) (g2:∀o,h.get? l=aA o→h'.get? l=aA o):Hs it l XS XT k h':=by
 obtain ⟨⟨o,e,r⟩⟩:=x;exact ⟨⟨o,g1 _ e,r⟩⟩
section
variable {prog:aX} {w:aZ} {A:bJ} {E:aD→aF→Prop} {s:aF}
theorem Hs.next {it l:Addr} {XS:Str} {XT:Tok} {k ch:Nat} {v:aD} {Q:aD→aF→Prop} (x:Hs it l XS XT k s.heap) (hne:l≠it) (hx:XS.cps[k]?=aA ch) (ex:v=.str ⟨#[ch]⟩ s.toks)
  (hQ:∀h',Hs it l XS XT (k+1) h'→bE it s.heap h'→Q v { s with heap:=h',toks:=s.toks+1 }):aI `f A (aY `bv) Q E s:=
 wpAny_nextOf_ascii_item x.st hx λh' a b=>by rw[←ex];exact hQ h' ⟨a⟩ b
theorem Hs.stop {it l:Addr} {XS:Str} {XT:Tok} {k:Nat} {Q:aD→aF→Prop} (hh:A.handled=none) (x:Hs it l XS XT k s.heap) (hx:XS.cps[k]?=none)
  (hE:∀h' e,Heap.ExtBut it s.heap h'→(∃o,h'.get? e=aA o∧o.cls=.type "StopIteration")→E `e5 { s with heap:=h' }):aI `f A (aY `bv) Q E s:=
 wpAny_nextOf_ascii_end hh x.st hx hE
end
def ZsS (z TI TO i1 i2 l1 l2:Addr) (XS:Str) (XT:Tok) (ys:Array aD) (i:Nat) (h:Heap):Prop:=
 (∃f0 b,IsZ h z TI TO f0 `dy∧(f0=.none∨∃T:Addr,f0=cP T))∧(∃a b,bV h TO a b)∧bV h TI `bD `cI∧Hs i1 l1 XS XT i h∧Hf true i2 l2 ys i h
section
variable {prog:aX} {w:aZ} {A:bJ} {E:aD→aF→Prop} {s:aF} {z TI TO i1 i2 l1 l2:Addr} {XS:Str} {XT:Tok} {ys:Array aD} {i:Nat}
theorem itemS {ch:Nat} {x y:aD} {Q:aD→aF→Prop} (D:cX z TI TO i1 i2 l1 l2) (hz:ZsS z TI TO i1 i2 l1 l2 XS XT ys i s.heap) (hx:XS.cps[i]?=aA ch) (ex:x=.str ⟨#[ch]⟩ s.toks) (hy:ys[i]?=aA y)
  (hQ:∀h',ZsS z TI TO i1 i2 l1 l2 XS XT ys (i+1) h'→bV h' s.heap.objs.size x y→h'.objs.size=s.heap.objs.size+1→(∀c o,c≠z→c≠TO→c≠i1→c≠i2→s.heap.get? c=aA o→h'.get? c=aA o)→Q `j { s with heap:=h',toks:=s.toks+1 }):
  aI `f A `ac (λfin s'=>∃v,fin=.done (.ret v)∧Q v s') E s:=by
 obtain ⟨⟨f0,b,z0,hf⟩,⟨p,q,hTO⟩,hTI,h1,h2⟩:=hz;show aI _ _ (eL `s 2 >>=_) _ _ _
 refine aC (bF z0 rfl (x:=.bool false) rfl ?_);show aI _ _ (eL `s 3 >>=_) _ _ _
 refine aC (bF z0 rfl (x:=.ref TI) rfl ?_);refine aC (bP hTI rfl ?_);show aI _ _ (bC `s >>=_) _ _ _
 refine aC (free z0 hf λr h₁ b1 z1 s1=>?_);have k1:∀c o,c≠z→s.heap.get? c=aA o→h₁.get? c=aA o:=λc o n e=>s1.extBut _ _ n e;have H1:=h1.keep (λo e=>k1 _ o D.i1z e) λo e=>k1 _ o D.l1z e;have H2:=h2.keep (λo e=>k1 _ o D.i2z e) λo e=>k1 _ o D.l2z e;cases r with
 | false=>
  simp only[abn,if_false];refine aC ?_;rw[←aca];simp only[abt,abq];refine aC (aC (bI ?_));show aI _ _ (aY `bD >>=_) _ _ _
  refine aC (H1.next (s:={ s with heap:=h₁ }) D.l1i1 hx ex λh₂ H1' s2=>aH (aH ?_));have s2:bE i1 h₁ h₂:=s2;have H2':=H2.keep (λo e=>s2.extBut _ _ D.i12.symm e) λo e=>s2.extBut _ _ D.l2i1 e;refine aC (aC (bI ?_));show aI _ _ (aY `cI >>=_) _ _ _
  refine aC (H2'.next (s:={ s with heap:=h₂,toks:=s.toks+1 }) D.l2i2 hy λh₃ H2'' s3=>aH (aH (aH ?_)));have s3:bE i2 h₂ h₃:=s3;refine aC (fZ (hsz:=by show (2:Nat)≤sizeLine;decide) ?_);have sz:h₃.objs.size=s.heap.objs.size:=by rw[s3.1,s2.1,s1.1]
  have up:∀c o,c≠z→c≠i1→c≠i2→s.heap.get? c=aA o→(h₃.push { cls:=.type "tuple",data:=.seq #[x,y] }).get? c=aA o:=λc o n1 n2 n3 e=>aE _ `dp;refine aH ⟨_,rfl,?_⟩;rw[sz];refine hQ _ ⟨⟨f0,b1,aE _ `dA,hf⟩,⟨p,q,up _ _ D.TOz D.TOi1 D.TOi2 hTO⟩,up _ _ D.TIz D.TIi1 D.TIi2 hTI,?_,H2''.keep (λo e=>aE _ e) λo e=>aE _ e⟩ ?_ (by rw[bD,sz]) λc o n1 _ n3 n4 e=>up c o n1 n3 n4 e
  ·exact H1'.keep (λo e=>aE _ (s3.extBut _ _ D.i12 e)) λo e=>aE _ (s3.extBut _ _ D.l1i2 e)
  ·rw[←sz];exact aJ _ rfl
 | true=>
  simp only[if_true];refine aC (dZ ?_);refine aC (bF z1 rfl (x:=.ref TO) rfl ?_);refine aC (bR z1 `c λh₂ z2 s2=>?_);replace z2:IsZ h₂ z TI TO .ellipsis `cd:=z2
  have s2:bE z h₁ h₂:=s2;refine aC ?_;simp only[adi,adq,abt,abq];have H1a:=H1.keep (λo e=>s2.extBut _ _ D.i1z e) λo e=>s2.extBut _ _ D.l1z e;have H2a:=H2.keep (λo e=>s2.extBut _ _ D.i2z e) λo e=>s2.extBut _ _ D.l2z e;refine aC (aC (fM ?_));show aI _ _ (aY `bD >>=_) _ _ _
  refine aC (H1a.next (s:={ s with heap:=h₂ }) D.l1i1 hx ex λh₃ H1b s3=>aH ?_);have s3:bE i1 h₂ h₃:=s3;have o3:bV h₃ TO p q:=s3.extBut _ _ D.TOi1 (s2.extBut _ _ D.TOz (k1 _ _ D.TOz hTO));refine aC (bP o3 rfl ?_);refine aC (fG o3 λh₄ o4 s4=>?_);replace o4:bV h₄ TO x q:=o4
  have s4:bE TO h₃ h₄:=s4;refine aC (fO (aH ?_));have H2b:=H2a.keep (λo e=>s4.extBut _ _ D.TOi2.symm (s3.extBut _ _ D.i12.symm e)) λo e=>s4.extBut _ _ D.l2TO (s3.extBut _ _ D.l2i1 e);refine aC (aC (fM ?_));show aI _ _ (aY `cI >>=_) _ _ _
  refine aC (H2b.next (s:={ s with heap:=h₄,toks:=s.toks+1 }) D.l2i2 hy λh₅ H2c s5=>aH ?_);have s5:bE i2 h₄ h₅:=s5;have o5:bV h₅ TO x q:=s5.extBut _ _ D.TOi2 o4;refine aC (bP o5 rfl ?_);refine aC (fG o5 λh₆ o6 s6=>?_);replace o6:bV h₆ TO x y:=o6
  have s6:bE TO h₅ h₆:=s6;refine aC (fO (aH (aH ?_)));refine aC (bP o6 rfl ?_);refine aC (fZ ?_);have sz:h₆.objs.size=s.heap.objs.size:=by rw[s6.1,s5.1,s4.1,s3.1,s2.1,s1.1]
  have z6:IsZ h₆ z TI TO .ellipsis `cd:=s6.extBut _ _ D.TOz.symm (s5.extBut _ _ D.i2z.symm (s4.extBut _ _ D.TOz.symm (s3.extBut _ _ D.i1z.symm z2)));have up:∀c o,c≠z→c≠TO→c≠i1→c≠i2→s.heap.get? c=aA o→h₆.get? c=aA o:=λc o n1 n2 n3 n4 e=>s6.extBut _ _ n2 `bT;have H1c:=H1b.keep (λo e=>s6.extBut _ _ D.TOi1.symm (s5.extBut _ _ D.i12 (s4.extBut _ _ D.TOi1.symm e))) λo e=>s6.extBut _ _ D.l1TO `ei;have H2d:=H2c.keep (λo e=>s6.extBut _ _ D.TOi2.symm e) λo e=>s6.extBut _ _ D.l2TO e;have zl:z < h₆.objs.size:=aK z6;show aI _ _ (cQ `s `dw >>=_) _ _ _
  refine aC ?_;unfold cQ;have z7:IsZ `dM z TI TO .ellipsis `cd:=aE _ z6;refine aC (bR z7 `c λh₈ z8 s8=>?_);replace z8:IsZ h₈ z TI TO `dS `cd:=z8
  refine bR z8 `c λh₉ z9 s9=>?_;replace z9:IsZ h₉ z TI TO `dS (.bool false):=z9
  have u9:∀c o,c≠z→h₆.get? c=aA o→h₉.get? c=aA o:=λc o n e=>s9.extBut _ _ n (s8.extBut _ _ n (aE _ e));have t9:bV h₉ h₆.objs.size x y:=s9.extBut _ _ (ab2 zl) (s8.extBut _ _ (ab2 zl) (aJ _ rfl));have n9:h₉.objs.size=h₆.objs.size+1:=by rw[s9.1,s8.1,bD]
  rw[sz] at z9 t9 n9;refine aH ⟨_,rfl,?_⟩;show Q `dw _
  rw[sz];exact hQ h₉ ⟨⟨_,false,z9,.inr ⟨_,rfl⟩⟩,⟨x,y,u9 _ _ D.TOz o6⟩,u9 _ _ D.TIz (up _ _ D.TIz D.TITO D.TIi1 D.TIi2 hTI),H1c.keep (λo e=>u9 _ o D.i1z e) λo e=>u9 _ o D.l1z e,H2d.keep (λo e=>u9 _ o D.i2z e) λo e=>u9 _ o D.l2z e⟩ t9 n9 λc o n1 n2 n3 n4 e=>u9 c o n1 (up c o n1 n2 n3 n4 e)
theorem finS {Q:Fin→aF→Prop} (hh:A.handled=none) (D:cX z TI TO i1 i2 l1 l2) (hz:ZsS z TI TO i1 i2 l1 l2 XS XT ys i s.heap) (hx:XS.cps[i]?=none)
  (hE:∀h' e,(∀c o,c≠z→c≠TO→c≠i1→c≠i2→s.heap.get? c=aA o→h'.get? c=aA o)→(∃o,h'.get? e=aA o∧o.cls=.type "StopIteration")→E `e5 { s with heap:=h' }):
  aI `f A `ac Q E s:=by
 obtain ⟨⟨f0,b,z0,hf⟩,⟨p,q,hTO⟩,hTI,h1,h2⟩:=hz;show aI _ _ (eL `s 2 >>=_) _ _ _
 refine aC (bF z0 rfl (x:=.bool false) rfl ?_);show aI _ _ (eL `s 3 >>=_) _ _ _
 refine aC (bF z0 rfl (x:=.ref TI) rfl ?_);refine aC (bP hTI rfl ?_);show aI _ _ (bC `s >>=_) _ _ _
 refine aC (free z0 hf λr h₁ b1 z1 s1=>?_);have k1:∀c o,c≠z→s.heap.get? c=aA o→h₁.get? c=aA o:=λc o n e=>s1.extBut _ _ n e;have H1:=h1.keep (λo e=>k1 _ o D.i1z e) λo e=>k1 _ o D.l1z e;cases r with
 | false=>
  simp only[abn,if_false];refine aC ?_;rw[←aca];simp only[abt,abq];refine aC (aC (bI ?_));show aI _ _ (aY `bD >>=_) _ _ _
  exact aC (H1.stop (s:={ s with heap:=h₁ }) hh hx λh₂ e s2 he=>hE h₂ e (λc o n1 _ n3 _ g=>s2 _ _ n3 (k1 _ _ n1 g)) he)
 | true=>
  simp only[if_true];refine aC (dZ ?_);refine aC (bF z1 rfl (x:=.ref TO) rfl ?_);refine aC (bR z1 `c λh₂ z2 s2=>?_);replace z2:IsZ h₂ z TI TO .ellipsis `cd:=z2
  have s2:bE z h₁ h₂:=s2;refine aC ?_;simp only[adi,adq,abt,abq];have H1a:=H1.keep (λo e=>s2.extBut _ _ D.i1z e) λo e=>s2.extBut _ _ D.l1z e;refine aC (aC (fM ?_));show aI _ _ (aY `bD >>=_) _ _ _
  refine aC (H1a.stop (s:={ s with heap:=h₂ }) hh hx λh₃ e s3 he=>?_);obtain ⟨oe,hoe,hce⟩:=he;have z3:IsZ h₃ z TI TO .ellipsis `cd:=s3 _ _ D.i1z.symm z2;have hez:e≠z:=λx=>by subst x;rw[z3] at hoe;cases hoe;simp at hce
  exact bR z3 `c λh₄ _ s4=>hE h₄ e (λc o n1 _ n3 _ g=>s4.extBut _ _ n1 `eM) ⟨oe,s4.extBut _ _ hez hoe,hce⟩
theorem To {ch:Nat} {x y:aD} {Q:Option aD→aF→Prop} (D:cX z TI TO i1 i2 l1 l2) (hz:ZsS z TI TO i1 i2 l1 l2 XS XT ys i s.heap) (hx:XS.cps[i]?=aA ch) (ex:x=.str ⟨#[ch]⟩ s.toks) (hy:ys[i]?=aA y)
  (hQ:∀h',ZsS z TI TO i1 i2 l1 l2 XS XT ys (i+1) h'→bV h' s.heap.objs.size x y→h'.objs.size=s.heap.objs.size+1→(∀c o,c≠z→c≠TO→c≠i1→c≠i2→s.heap.get? c=aA o→h'.get? c=aA o)→Q (aA `j) { s with heap:=h',toks:=s.toks+1 }):
  aI `f A (cS `s) Q E s:=by
 have hT:s.TypeIs `s "zip":=by obtain ⟨⟨f0,b,z0,_⟩,_⟩:=hz;exact ⟨_,z0,rfl⟩
 unfold cS;exact aC (dU (bK (name:=aB "__next__") hT bW (bN bW hT eC (itemS D hz hx ex hy λh' a b c d=>aH (hQ h' a b c d)) (dX _))))
theorem pyFinS {Q:Option aD→aF→Prop} (hh:A.handled=none) (D:cX z TI TO i1 i2 l1 l2) (hz:ZsS z TI TO i1 i2 l1 l2 XS XT ys i s.heap) (hx:XS.cps[i]?=none)
  (hQ:∀h',(∀c o,c≠z→c≠TO→c≠i1→c≠i2→s.heap.get? c=aA o→h'.get? c=aA o)→Q none { s with heap:=h' }):aI `f A (cS `s) Q E s:=by
 have hT:s.TypeIs `s "zip":=by obtain ⟨⟨f0,b,z0,_⟩,_⟩:=hz;exact ⟨_,z0,rfl⟩
 unfold cS;refine aC (dU (bK (name:=aB "__next__") hT bW (bN bW hT eC (finS (by first | exact hh | simp[hh]) D hz hx λh' e hk he=>?_) (dX _))));obtain ⟨o,ho,hc⟩:=he;refine aC (eF (T:="StopIteration") (b:=true) ⟨o,ho,hc⟩ gA ?_);exact aH (hQ _ hk)
theorem U2 {Q:aD→aF→Prop} (hz:ZsS z TI TO i1 i2 l1 l2 XS XT ys i s.heap) (h:Q `s s):aI `f A (iZ `s) Q E s:=by
 have hT:s.TypeIs `s "zip":=by obtain ⟨⟨f0,b,z0,_⟩,_⟩:=hz;exact ⟨_,z0,rfl⟩
 refine gG hT dE (bN dE hT gN ?_ (gH _));show aI _ _ (ret `s) _ _ s
 exact aH ⟨_,rfl,"zip",_,hT,F.slot_zip_next.lookup,h⟩
end
theorem new_st (XS:Str) (XT:Tok) (ha:XS.cps.all (· < 128)=true) (l2:Addr) (ys:Array aD):
  Meets (cR.«zip.__new__» ⟨[.type "zip",.str XS XT,.ref l2],[]⟩) (λ_ R s=>s.heap.IsTuple l2 ys∧
   R (.ok (.ret `a4)) { s with heap:=((((s.heap.push { cls:=.type "str_ascii_iterator",data:=.fields #[.str XS XT,.int 0 0] }).push { cls:=.type "tuple_iterator",data:=.fields #[.ref l2,.int 0 0] }).push { cls:=.type "tuple",data:=.seq #[.ref s.heap.objs.size,.ref (s.heap.objs.size+1)] }).push { cls:=.type "tuple",data:=.seq #[.none,.none] }).push { cls:=.type "zip",data:=.fields #[.none,.bool false,.bool false,.ref (s.heap.objs.size+2),.ref (s.heap.objs.size+3)] } }):=
 .of_wp λprog w A R s h=>by
  obtain ⟨hp,g,d,tk,os⟩:=s;obtain ⟨hl2,h⟩:=h;have hsub:=sub_zip;have hL2:mU (gL ⟨hp.push { cls:=.type "str_ascii_iterator",data:=.fields #[.str XS XT,.int 0 0] },g,d,tk,os⟩) l2 ys:=Heap.IsTuple.push hl2 _;simp only[←bD] at h;wp_walk using wpAny_pyIter_ascii ha,eR hL2
  simp only[bD] at h ⊢;exact ⟨_,rfl,h⟩
section
variable {prog:aX} {w:aZ} {A:bJ} {E:aD→aF→Prop} {s:aF}
theorem Ut {XS:Str} {XT:Tok} {l2:Addr} {ys:Array aD} {Q:aD→aF→Prop} (ha:XS.cps.all (· < 128)=true) (hl2:s.heap.IsTuple l2 ys)
  (h:∀h',ZsS (s.heap.objs.size+4) (s.heap.objs.size+2) (s.heap.objs.size+3) s.heap.objs.size (s.heap.objs.size+1) l2 l2 XS XT ys 0 h'→h'.objs.size=s.heap.objs.size+5→
   (∀c o,s.heap.get? c=aA o→h'.get? c=aA o)→Q `a4 { s with heap:=h' }):
  aI `f A (call `bM [.str XS XT,.ref l2]) Q E s:=by
 refine callType_new F.called_zip `a (F.typeCall_zip_2 _ _) (F.newCall_zip_2 _ _) (λobj=>lP obj _ _) F.entry_zip_new (new_st XS XT ha l2 ys) ⟨hl2,?_⟩;generalize hn:s.heap.objs.size=n at h ⊢;have e1:(s.heap.push { cls:=.type "str_ascii_iterator",data:=.fields #[.str XS XT,.int 0 0] }).get? n=aA { cls:=.type "str_ascii_iterator",data:=.fields #[.str XS XT,.int 0 0] }:=by rw[←hn];exact aJ _ rfl
 have n1:(s.heap.push { cls:=.type "str_ascii_iterator",data:=.fields #[.str XS XT,.int 0 0] }).objs.size=n+1:=by rw[bD,hn]
 have k1:∀c o,s.heap.get? c=aA o→(s.heap.push { cls:=.type "str_ascii_iterator",data:=.fields #[.str XS XT,.int 0 0] }).get? c=aA o:=λc o e=>aE _ e;generalize s.heap.push { cls:=.type "str_ascii_iterator",data:=.fields #[.str XS XT,.int 0 0] }=h1 at e1 n1 k1 ⊢;have e2:(h1.push { cls:=.type "tuple_iterator",data:=.fields #[.ref l2,.int 0 0] }).get? (n+1)=aA { cls:=.type "tuple_iterator",data:=.fields #[.ref l2,.int 0 0] }:=by rw[←n1];exact aJ _ rfl
 have n2:(h1.push { cls:=.type "tuple_iterator",data:=.fields #[.ref l2,.int 0 0] }).objs.size=n+2:=by rw[bD,n1]
 have k2:∀c o,h1.get? c=aA o→(h1.push { cls:=.type "tuple_iterator",data:=.fields #[.ref l2,.int 0 0] }).get? c=aA o:=λc o e=>aE _ e;generalize h1.push { cls:=.type "tuple_iterator",data:=.fields #[.ref l2,.int 0 0] }=h2 at e2 n2 k2 ⊢;have e3:(h2.push { cls:=.type "tuple",data:=.seq #[.ref n,.ref (n+1)] }).get? (n+2)=aA { cls:=.type "tuple",data:=.seq #[.ref n,.ref (n+1)] }:=by rw[←n2];exact aJ _ rfl
 have n3:(h2.push { cls:=.type "tuple",data:=.seq #[.ref n,.ref (n+1)] }).objs.size=n+3:=by rw[bD,n2]
 have k3:∀c o,h2.get? c=aA o→(h2.push { cls:=.type "tuple",data:=.seq #[.ref n,.ref (n+1)] }).get? c=aA o:=λc o e=>aE _ e;generalize h2.push { cls:=.type "tuple",data:=.seq #[.ref n,.ref (n+1)] }=h3 at e3 n3 k3 ⊢;have e4:(h3.push { cls:=.type "tuple",data:=.seq #[.none,.none] }).get? (n+3)=aA { cls:=.type "tuple",data:=.seq #[.none,.none] }:=by rw[←n3];exact aJ _ rfl
 have n4:(h3.push { cls:=.type "tuple",data:=.seq #[.none,.none] }).objs.size=n+4:=by rw[bD,n3]
 have k4:∀c o,h3.get? c=aA o→(h3.push { cls:=.type "tuple",data:=.seq #[.none,.none] }).get? c=aA o:=λc o e=>aE _ e;generalize h3.push { cls:=.type "tuple",data:=.seq #[.none,.none] }=h4 at e4 n4 k4 ⊢;have e5:(h4.push { cls:=.type "zip",data:=.fields #[.none,.bool false,.bool false,.ref (n+2),.ref (n+3)] }).get? (n+4)=aA { cls:=.type "zip",data:=.fields #[.none,.bool false,.bool false,.ref (n+2),.ref (n+3)] }:=by rw[←n4];exact aJ _ rfl
 have n5:(h4.push { cls:=.type "zip",data:=.fields #[.none,.bool false,.bool false,.ref (n+2),.ref (n+3)] }).objs.size=n+5:=by rw[bD,n4]
 have k5:∀c o,h4.get? c=aA o→(h4.push { cls:=.type "zip",data:=.fields #[.none,.bool false,.bool false,.ref (n+2),.ref (n+3)] }).get? c=aA o:=λc o e=>aE _ e;generalize h4.push { cls:=.type "zip",data:=.fields #[.none,.bool false,.bool false,.ref (n+2),.ref (n+3)] }=h5 at e5 n5 k5 ⊢;have up:∀c o,s.heap.get? c=aA o→h5.get? c=aA o:=λc o e=>k5 _ _ (k4 _ _ (k3 _ _ (k2 _ _ (k1 _ _ e))));obtain ⟨o2,g2,r2⟩:=hl2;exact ⟨⟨_,e5,rfl⟩,h _ ⟨⟨.none,false,e5,.inl rfl⟩,⟨_,_,k5 _ _ e4⟩,k5 _ _ (k4 _ _ e3),⟨⟨_,k5 _ _ (k4 _ _ (k3 _ _ (k2 _ _ e1))),rfl,rfl⟩⟩,⟨⟨_,k5 _ _ (k4 _ _ (k3 _ _ e2)),rfl,rfl⟩,⟨o2,up _ _ g2,r2⟩⟩⟩ n5 up⟩
end
end L2.Zg
namespace L2
open PySem PySem.Spec PyProof.Rows L2.Zg L2.Zd
noncomputable def ItzS (K:aG) (XS:Str) (l2:Addr):It:=
  ⟨λi H=>∃ys y ch,SqT K H l2 ys∧XS.cps[i]?=aA ch∧ys[i]?=aA y,
   λi H x H'=>∃p ch v,XS.cps[i]?=aA ch∧(∀ys,SqT K H l2 ys→ys[i]?=aA v)∧H p=none∧x=.ref p∧H'=upd H p (.tup [.str ⟨#[ch]⟩,v]),
   λi H=>∃ys,SqT K H l2 ys∧XS.cps.size≤i⟩
theorem Nm {P:aX} {w:aZ} {K:aG} {tg:Expr} (z TI TO i1 i2 l2:Addr) (XS:Str) (XT:Tok) (D:cX z TI TO i1 i2 l2 l2) (ht:(∃x pos,tg=.Name x pos)∨∃es k pos,tg=.Tuple es k pos):
  Turn P w K tg (ItzS K XS l2) [z,TI,TO,i1,i2] z (λi h=>zpN z TI TO i1 i2 h∧h.IsStrIter i1 "str_ascii_iterator" XS XT i∧itB true h i2 l2 i) where
 mem:=by simp
 obj:=λi h st b hb=>by
  obtain ⟨⟨⟨f0,b0,a1,_⟩,⟨p,q,a2⟩,a3⟩,a4,a5⟩:=st;simp only[aan,aac,or_false] at hb;rcases hb with rfl | rfl | rfl | rfl | rfl
  ·exact ⟨_,a1,λv z=>by cases z⟩
  ·exact ⟨_,a3,λv z=>by cases z⟩
  ·exact ⟨_,a2,λv z=>by cases z⟩
  ·obtain ⟨o,e,_,d⟩:=a4;exact ⟨o,e,λv z=>by rw[d] at z;cases z⟩
  ·exact a5.obj
 keep:=λi h h' st k=>by
  obtain ⟨⟨⟨f0,b0,a1,a0⟩,⟨p,q,a2⟩,a3⟩,a4,a5⟩:=st;exact ⟨⟨⟨f0,b0,k z `c _ a1,a0⟩,⟨p,q,k TO `c _ a2⟩,k TI `c _ a3⟩,by obtain ⟨o,e,r⟩:=a4;exact ⟨o,k i1 `c _ e,r⟩,a5.keep (k i2 `c)⟩
 item:=by
  intro X hP hw hK hc i pins s σ H E I hf st hg;subst hP hw hK;obtain ⟨ys,y,ch,hq2,hx,hy⟩:=hg;obtain ⟨⟨a1,a2,a3⟩,a4,a5⟩:=st;obtain ⟨its2,rv2,_,_,f2,_,_⟩:=I.sqB (b:=true) hq2;obtain ⟨v,hv,rv⟩:=rv2.get hy;have fpl:∀b∈[z,TI,TO,i1,i2],b < s.heap.objs.size:=λb hb=>by
   obtain ⟨f0,b0,e1,_⟩:=a1;obtain ⟨p,q,e2⟩:=a2;obtain ⟨_,e4,_⟩:=id a4;obtain ⟨_,e5,_⟩:=a5.obj;simp only[aan,aac,or_false] at hb;rcases hb with rfl | rfl | rfl | rfl | rfl
   ·exact aK e1
   ·exact aK a3
   ·exact aK e2
   ·exact aK e4
   ·exact aK e5
  refine To (XS:=XS) (XT:=XT) (ys:=its2.toArray) (i:=i) (ch:=ch) (x:=.str ⟨#[ch]⟩ s.toks) (y:=v) D ⟨a1,a2,a3,⟨a4⟩,f2 _ _ a5⟩ hx rfl (by simpa using hv) λh1 zs1 hT hz1 hk1=>⟨_,rfl,?_⟩;obtain ⟨⟨f0,b0,e0,g0⟩,⟨p,q,e2⟩,e3,e4,e5⟩:=zs1;refine go_zip ht e0 g0 λh2 f3 e0' g0' sb=>?_;have sb:bE z h1 h2:=sb;have hfr:H s.heap.objs.size=none:=I.hok.fresh (aa3 _);have I1:Inv X pins σ (upd H s.heap.objs.size `co) { s with heap:=s.heap.push { cls:=.type "tuple",data:=.seq #[.str ⟨#[ch]⟩ s.toks,v] },toks:=s.toks+1 }:=
   I.laid (t':=s.toks+1) (λb o' e'=>aE _ e') (aa3 _) (show cj X.prog X.w _ _ _ `co from ⟨by show (2:Nat)≤sizeLine;decide,[.str ⟨#[ch]⟩ s.toks,v],.cons ⟨_,rfl⟩ (.cons rv .nil),⟨_,aJ _ rfl,rfl,_,rfl,rfl⟩⟩)
  have nup:∀b,b < s.heap.objs.size→(upd H s.heap.objs.size `co) b=H b:=λb hb=>ah (aam hb);have zl:=fpl z `c;have I2:=Inv.tf (h':=h2) (t':=s.toks+1) (fp:=[z,TI,TO,i1,i2]) I1 (λb o' hb e'=>by
   simp only[aan,aac,or_false,not_or] at hb;have e':(s.heap.push { cls:=.type "tuple",data:=.seq #[.str ⟨#[ch]⟩ s.toks,v] }).get? b=aA o':=e';by_cases hbs:b=s.heap.objs.size
   ·subst hbs;rw[aJ _ rfl] at e';cases e'
    exact (sb.2 _ hb.1).trans hT
   ·rw[gF _ _ _ hbs] at e';exact (sb.2 _ hb.1).trans (hk1 b o' hb.1 hb.2.2.1 hb.2.2.2.1 hb.2.2.2.2 e')) λb hb=>by
   obtain ⟨f0,f⟩:=hf b hb;exact ⟨by rw[nup b `dN];exact f0,f⟩
  exact ⟨.ref s.heap.objs.size,_,I2,rfl,⟨_,ch,y,hx,λzs hz=>by rw[I.Tp (b:=true) hz hq2];exact hy,hfr,rfl,rfl⟩,⟨⟨⟨f3,b0,e0',g0'⟩,⟨p,q,sb.extBut _ _ D.TOz e2⟩,sb.extBut _ _ D.TIz e3⟩,(by obtain ⟨⟨o,e,r⟩⟩:=e4;exact ⟨o,sb.extBut _ _ D.i1z e,r⟩),(Q5 e5).keep λo e=>sb.extBut _ _ D.i2z e⟩,λb hb=>by rw[nup b `dN];exact (hf b hb).1⟩
 done:=by
  intro X hP hw hK hc i pins s σ H E I hf st hg;subst hP hw hK;obtain ⟨ys,hq2,hx⟩:=hg;obtain ⟨⟨a1,a2,a3⟩,a4,a5⟩:=st;obtain ⟨its2,rv2,_,_,f2,_,_⟩:=I.sqB (b:=true) hq2;refine pyFinS (XS:=XS) (XT:=XT) (ys:=its2.toArray) (i:=i) `aH D ⟨a1,a2,a3,⟨a4⟩,f2 _ _ a5⟩ (ac0 hx) λh' hk=>⟨rfl,Inv.tf (t':=s.toks) (fp:=[z,TI,TO,i1,i2]) I (λb o hb e=>?_) hf⟩;simp only[aan,aac,or_false,not_or] at hb;exact hk b o hb.1 hb.2.2.1 hb.2.2.2.1 hb.2.2.2.2 e
 self:=λ_ _ _ _ _ st h=>by
  obtain ⟨⟨⟨f0,b0,a1,_⟩,_⟩,_⟩:=st;refine gG ⟨_,a1,rfl⟩ dE (bN dE ⟨_,a1,rfl⟩ gN ?_ (gH _));exact aH ⟨_,rfl,"zip",_,⟨_,a1,rfl⟩,F.slot_zip_next.lookup,h⟩
def iZipS (K:aG) (ta:TA):TI:=λσ H R=>ta σ H λvs H1=>∃XS l2 ys,vs=[.str XS,.ref l2]∧XS.cps.all (· < 128)=true∧SqT K H1 l2 ys∧R (ItzS K XS l2) H1
section
variable {X:Cx}
theorem Vc {a b:Expr} {ta:TA} {p pos:Pos} {tg:Expr} (hg:Gl X "zip") (hm:X.mg "zip"=none) (ht:(∃x pos,tg=.Name x pos)∨∃es k pos,tg=.Tuple es k pos) (ha:PA X [a,b] ta) (hs:bB [a,b] X.env=(false,eval a X.env)::bB [b] X.env:=by rfl) (hpl:(cJ pos (bB [b] X.env)).any (·.1)=false:=by rfl):PI X tg (.Call (.Name "zip" p) [a,b] [] pos) (iZipS X.K ta):=by
 intro pins s σ H R I h;refine Call_ (gj I hg hm N1 (bL (thn `aw λus s1 ⟨vs,H1,I1,r1,q1⟩=>?_) hs hpl));obtain ⟨XS,l2,ys,rfl,ha',e2,q⟩:=q1;obtain ⟨u1,u2,rfl,ru1,ru2⟩:=vals2 r1;obtain ⟨XT,rfl⟩:=ru1;cases ru2
 obtain ⟨v,rv,_,lt2,_,t2,_⟩:=I1.sqB (b:=true) e2;refine Ut ha' (t2 rfl) λh' zs hz keep=>?_;refine U2 zs ?_;obtain ⟨a1,a2,a3,a4,a5⟩:=zs;refine ⟨s1.heap.objs.size+4,[s1.heap.objs.size+4,s1.heap.objs.size+2,s1.heap.objs.size+3,s1.heap.objs.size,s1.heap.objs.size+1],_,_,H1,rfl,I1.kept (t':=s1.toks) keep,Nm _ _ _ _ _ l2 XS XT (mV lt2 lt2) ht,⟨⟨a1,a2,a3⟩,a4.st,Q5 a5⟩,λb hb=>?_,q⟩;simp only[aan,aac,or_false] at hb;rcases hb with rfl | rfl | rfl | rfl | rfl
 ·exact I1.nu `bL `ea
 ·exact I1.nu `bL `ea
 ·exact I1.nu `bL `ea
 ·exact I1.nu (aa3 _) `aL
 ·exact I1.nu `bL `ea
end
theorem L9 {K:aG} {XS:Str} {l2:Addr} {ys:List V} {g:TG} {tb:TS} {D:Ends} {σ:St} {H:Hp} (Pv:Nat→St→Hp→Prop) (h0:Pv 0 σ H) (hn:XS.cps.size=ys.length) (hl:∀i σ H,i≤ys.length→Pv i σ H→SqT K H l2 ys)
  (hs:∀i ch y σ H p,XS.cps[i]?=aA ch→ys[i]?=aA y→Pv i σ H→H p=none→g `aW σ (upd H p `co) λσ2 H2=>tb { D with nx:=Pv (i+1),ct:=Pv (i+1),bk:=D.nx } σ2 H2) (hd:∀σ H,Pv ys.length σ H→D.nx σ H):Dc g tb D (ItzS K XS l2) σ H:=by
 refine ⟨λi m σ H=>m=ys.length - i∧i≤ys.length∧Pv i σ H,⟨ys.length,by simp,aai _,h0⟩,?_⟩;rintro i m σ H ⟨rfl,hi,p⟩;have q2:=hl i σ H hi p;by_cases hlt:i < ys.length
 ·refine .inr ⟨⟨ys,_,_,q2,aax (by omega),aa2 hlt⟩,Pv (i+1),λσ' H' p'=>⟨ys.length - (i+1),by omega,rfl,hlt,p'⟩,λx H' y=>?_⟩;obtain ⟨t,ch,v,hu,hv,hn,rfl,rfl⟩:=y;exact hs i ch v σ H t hu (hv ys q2) p hn
 ·have e:i=ys.length:=by omega
  subst e;exact .inl ⟨⟨ys,q2,by omega⟩,hd σ H p⟩
end L2
namespace HT
open PySem PySem.Spec PyProof.Rows L2
section
variable {prog:aX} {w:aZ} {A:bJ} {E:aD→aF→Prop} {s:aF}
theorem ve {sl:Addr} {n:Nat} {t:Tok} {Q:Int×Int×Nat→aF→Prop} (hs:s.heap.IsSliceOf sl .none .none (.int (-1) t))
  (h:Q ((n:Int) - 1,-1,n) s):aI `f A (dR `bZ (pure (n:Int))) Q E s:=by
 obtain ⟨os,hos,hcs,hds⟩:=id hs;unfold dR iQ;refine aC (aC (bF hos hds (x:=.none) rfl (aC (bF hos hds (x:=.none) rfl (aC (bF hos hds (x:=.int (-1) t) rfl (aH ?_)))))));refine aC (slicePart_int ?_);show aI _ _ (if ((-1:Int)==0)=true then _ else _) _ _ s
 rw[if_neg `a];refine aC (gX (aC (gX (aC (aH ?_)))));show aI _ _ (pure ((n:Int) - 1,(-1:Int),bX ((n:Int) - 1) (-1) (-1))) _ _ s
 have e:bX ((n:Int) - 1) (-1) (-1)=n:=by
  unfold bX;rw[if_neg `a];by_cases c:(n:Int) - 1 > -1
  ·rw[if_pos c];have:((n:Int) - 1 - -1 - 1) / - -1=(n:Int) - 1:=by
    rw[show (- -1:Int)=1 by decide,Int.ediv_one];omega
   rw[this];omega
  ·rw[if_neg c];omega
 rw[e];exact aH h
theorem Kq {α β:Type} {f:α→Option β} {g:α→β}:∀{l:List α},(∀m∈l,f m=aA (g m))→l.filterMap f=l.map g
 | [],_=>rfl
 | a::l,h=>by rw[ac7,h a aa6,aas,Kq λm hm=>h m (aa9 _ hm)]
theorem Qt (xs:Array aD):((abh xs.size).filterMap λ(m:Nat)=>xs[((xs.size:Int) - 1+(m:Int)*-1).toNat]?)=xs.toList.reverse:=by
 apply aev
 intro i;have hs:∀m∈abh xs.size,(xs[((xs.size:Int) - 1+(m:Int)*-1).toNat]?)=aA (xs.toList.reverse.getD m .none):=λm hm=>by
  have hm:=List.mem_range.mp hm;have e:((xs.size:Int) - 1+(m:Int)*-1).toNat=xs.size - 1 - m:=by omega
  have hl:m < xs.toList.length:=by rw[abb];exact hm
  rw[e,aa7,ach hl,abb,acd,aax (by omega)];rfl
 rw[Kq hs,aa5];by_cases c:i < xs.size
 ·rw[aeo c];show aA (xs.toList.reverse.getD i .none)=_
  rw[aa7,aa2 (by rw[aat,abb];exact c)];rfl
 ·rw[abk (by rw[abw];omega),abk (by rw[aat,abb];omega)];rfl
theorem t7 {t sl:Addr} {items:Array aD} {tk:Tok} {Q:aD→aF→Prop} (ht:iP s.heap t items) (hs:s.heap.IsSliceOf sl .none .none (.int (-1) tk))
  (h:Q `j { s with heap:=s.heap.push { cls:=.type "tuple",data:=.seq items.toList.reverse.toArray } })
  (hsz:items.size≤sizeLine):aI `f A (fB `I `bZ) Q E s:=by
 have htake:sizeOk (.seq items.toList.reverse.toArray):=by
  show items.toList.reverse.toArray.size≤sizeLine
  rw[aae,aat,abb];exact hsz
 obtain ⟨os,hos,hcs,hds⟩:=id hs;have hTs:s.TypeIs `bZ "slice":=⟨os,hos,hcs⟩;unfold fB;try with_reducible refine bI ?_
 first | refine aC (aH ?_) | skip
 refine aC (iO ht.typeIs `a ?_);refine aC (bK (name:=aB "__getitem__") ht.typeIs bT
  (bN bT ht.typeIs gV ?_ (iD _ _)))
 show aI _ _ (fI `I >>=_) _ _ s
 refine aC (lU ht ?_);refine aC (dC hTs ?_);rw[if_pos `a];refine aC (ve hs ?_);show aI _ _ (if (((items.size:Int) - 1)==0&&(-1:Int)==1&&items.size==items.size)=true then _ else _) _ _ s
 have hno:¬((((items.size:Int) - 1)==0&&(-1:Int)==1&&items.size==items.size)=true):=by
  rw[show ((-1:Int)==1)=false by decide,aeh,Bool.false_and];exact aaq
 rw[if_neg hno,Qt];first
  | exact aC (m:=dD _) (cI `bq htake)
end
end HT
namespace L2
open PySem PySem.Spec PyProof.Rows
section
variable {X:Cx} {e:Expr} {te:TE} {pos p2 p3 p4:Pos}
def tRevT (te:TE):TE:=λσ H Q=>te σ H λx H1=>∃a xs,x=.ref a∧H1 a=aA `aA∧∀p,H1 p=none→Q `aW (upd H1 p (.tup xs.reverse))
theorem Tb {j} (he:PE X e te):PE X (.Subscript e `cz pos) (tRevT te):=by
 intro pins s σ H Q I h;refine lL (thn `bF λv s1 ⟨x,H1,I1,r1,q1⟩=>?_);refine wpAny_Slice ?_;rw[lW];refine aH (aH ?_);rw[evalPart_some];refine thn (pe_un (X:=X) Pr Je pins s1 σ H1 (λv' H'=>v'=.int (-1)∧H'=H1) I1 ⟨1,rfl,rfl,rfl⟩) λu s3 ⟨x3,H3,I3,r3,q3⟩=>?_;obtain ⟨rfl,rfl⟩:=q3;obtain ⟨tk,rfl⟩:=r3;obtain ⟨a,xs,rfl,ha,q⟩:=q1;cases r1
 have I4:Inv X pins σ H3 { s3 with heap:=s3.heap.push { cls:=.type "slice",data:=.fields #[.none,.none,.int (-1) tk] } }:=I3.kept (t':=s3.toks) λb ob q=>aE _ q;obtain ⟨its,r,ht,hz⟩:=I4.tuple (SqT.of ha);have hlen:its.toArray.size=xs.length:=by rw[aae];exact r.length.symm
 show aI `d X.A (iI e `cz `p (.ref s3.heap.objs.size)) `ag X.xe { s3 with heap:=s3.heap.push { cls:=.type "slice",data:=.fields #[.none,.none,.int (-1) tk] } }
 refine tail_any (ops:=[.ref a,.ref s3.heap.objs.size]) ht.typeIs PyProof.Rows.slot_tuple_getitem.lookup (HT.t7 ht (mP ..) ?_ (by rw[hlen];exact hz)) `by;have hsz:xs.reverse.length≤sizeLine:=by rw[aat];exact hz
 refine ⟨.ref _,_,I4.laid (o:=.tup xs.reverse) (λb ob q=>aE _ q) (aa3 _) ⟨hsz,its.reverse,r.reverse,⟨_,aJ _ rfl,rfl,_,rfl,rfl⟩⟩,rfl,q _ (I4.hok.fresh (aa3 _))⟩
end
end L2
namespace L2
open PySem PySem.Spec PyProof.Rows PySem.SeqAt
theorem Ey:∀{ps:List (Key×V)} {R:Nat→Key→aD→Prop},(∀(i:Nat) (p:Key×V),ps[i]?=aA p→∃y,RelV p.2 y∧R i p.1 y)→∃qs:List (Key×aD),KV ps qs∧∀(i:Nat) (k:Key) (y:aD),qs[i]?=aA (k,y)→R i k y
 | [],_,_=>⟨[],.nil,λi k y h=>by simp at h⟩
 | p::ps,R,h=>by
  obtain ⟨y,ry,hy⟩:=h 0 p rfl;obtain ⟨qs,r,hq⟩:=Ey (ps:=ps) (R:=λi=>R (i+1)) λi p hp=>h (i+1) p (by rw[acq];exact hp);refine ⟨(p.1,y)::qs,.cons ⟨rfl,ry⟩ r,λi k z e=>?_⟩;cases i with
  | zero=>cases e;exact hy
  | succ i=>exact hq i k z (by rw[acq] at e;exact e)
section
variable {X:Cx}
theorem sg:fo X `cc (λxs H Q=>X.calm=true∧∃(a:Addr) (rs:List V) (ps:List (Key×V)),xs=[.ref a]∧H a=aA (.lst rs)∧rs.length=ps.length∧(∀(i:Nat) (p:Key×V),ps[i]?=aA p→∃t,rs[i]?=aA `I∧H t=aA (.tup [kV p.1,p.2]))∧∀d,H d=none→Q `X (upd H d (.dK `ex))):=by
 intro pins s σ H xs us Q I r h;obtain ⟨hc,a,rs,ps,rfl,ha,hl,hp,q⟩:=h;obtain ⟨u,rfl,rx⟩:=vals1 r;cases rx
 obtain ⟨z,its,n,rv,hl2,e⟩:=I.Hk ha;obtain ⟨qs,kv,hq⟩:=Ey (ps:=ps) (R:=λi k y=>∃(T:Addr) (x:aD) (o:Obj) (m:Nat),its[i]?=aA (.ref T)∧RelV (kV k) x∧s.heap.get? T=aA o∧o.cls=.type "tuple"∧o.data=.seq #[x,y] m) λi p hp'=>by
  obtain ⟨t,h1,h2⟩:=hp i p hp';obtain ⟨u,hu,ru⟩:=rv.get h1;cases (show u=bG t from ru)
  obtain ⟨_,js,rj,o,g1,g2,m,g3⟩:=tup_rd I.hok h2;obtain ⟨x,y,rfl,rx,ry⟩:=vals2 rj;exact ⟨y,ry,t,x,o,m,hu,rx,g1,g2,g3⟩
 have lq:=kv.length;refine Zd.sg (knd:=cm X.prog X.w) `aH e qs (by rw[aae];omega) (λi k y hi=>?_) (by omega) λh' tk hd keep=>?_
 ·obtain ⟨T,x,o,m,g1,g2,g3,g4,g5⟩:=hq i k y hi;exact ⟨T,x,o,m,by rw[acf];exact g1,(λz=>nomatch z),qk g2,g3,g4,g5⟩
 ·have zl:(b7 ps []).length≤sizeLine:=by
   have:=jg ps [];rw[ace] at this;omega
  refine ⟨.ref s.heap.objs.size,_,I.laid (t':=tk) (λb u e=>keep b u e) (aa3 _) (show cj X.prog X.w _ _ _ (.dK `ex) from ⟨zl,?_,_,KV.Il kv .nil,hd⟩),rfl,q _ `au⟩;exact beq_eq_false_iff_ne.mpr (cT (aam I.big))
end
end L2
namespace K62
open PySem PySem.Spec L2 PyProof.Rows Pc
set_option hygiene false
set_option compiler.extract_closed false
local macro_rules | `(tactic| push_cast [$xs,*])=>`(tactic| simp only [↓Nv,↓Ud,↓Ur,↓Vz,↓exists_eq_left,↓exists_eq_left',↓int_ex,↓ref_ex,↓bl_ex,↓Te,uc,Ba,rID,rUD,tBD,Ir,Ci,Rc,Q4,tSeq,tIfS,tRet,tRetN,tNext,tVar,tC,Gq,tB,tOp,tUn,rI,rI0,rU,rEq,rNe,Oc,tCB,G7,tNil,tAnd,tOr,tNot,tAndV,tOrV,tNotV,tIf,gh,tAsg,tBM,tBM0,tSl,K7,Qb,rSlS,rSlL,tLst,tTup,tDrop,tNoIf,iStr,Rv,iTup,iRng1,iRng2,tLC,O8,m7,List.set_cons_zero,List.set_cons_succ,List.getElem?_cons_zero,List.getElem?_cons_succ,Option.some.injEq,V.int.injEq,V.str.injEq,V.bl.injEq,V.ref.injEq,List.cons.injEq,exists_eq_left,exists_eq_left',exists_eq_right,exists_eq_right',exists_and_left,exists_and_right,and_true,true_and,List.cons_append,List.nil_append,List.append_nil,reduceCtorEq,false_and,exists_false,false_or,or_false,decide_eq_true_eq,eq_self,if_true,if_false,Bool.false_eq_true,Bool.true_eq_false,cxOf_K,cxOf_P,cxOf_w,Vp,cxOf_b,List.map_cons,List.map_nil,Option.getD_some,Option.getD_none,exists_const,nox_K,and_assoc,exists_eq,exists_eq',V.ty.injEq,tVals,Int.reduceLT,Int.reduceLE,Int.reduceNeg,Int.reducePow,Nat.reduceLT,Nat.reduceLeDiff,T8,Sv,CDiv,tCallV,tDIn,K1,tDGet,iRev,Oj,sDPut,and_self,exists_prop,$xs,*])
set_option hygiene true
set_option compiler.extract_closed true
noncomputable def top (i:Nat):Stmt:=PySem.Challenge.pw_pricecover_k62_whole_rows_come_to_worth.main.body.getD i (.Pass ⟨0,0,0,0⟩)
structure Gs (w:aZ) (K:aG) (mg:Str→Option aD):Prop where
 m_all:mg "all"=none
 m_any:mg "any"=none
 m_dict:mg "dict"=none
 m_enumerate:mg "enumerate"=none
 m_int:mg "int"=none
 m_isinstance:mg "isinstance"=none
 m_len:mg "len"=none
 m_list:mg "list"=none
 m_max:mg "max"=none
 m_range:mg "range"=none
 m_reversed:mg "reversed"=none
 m_str:mg "str"=none
 m_tuple:mg "tuple"=none
 m_zip:mg "zip"=none
 m_PARTS_BELOW:∃a,mg "PARTS_BELOW"=aA `p∧ModD w K a [(aM "add",.int 2),(aM "sub",.int 2),(aM "mul",.int 2),(aM "neg",.int 1)]
 m_BOXES:∃a,mg "BOXES"=aA `p∧∀H,SqT K H a [.str "out",.str "t1",.str "t2",.str "t3"]
def J4 (K:aG):Sp:=λvs H Q _=>∃(a:Addr) (ns:List Int),vs=[.ref a]∧SqL K H a `G∧ns.length≤63∧∀H',Q (.bl true) H'
set_option hygiene false
local macro_rules
 | `(A0 $a)=>`(@pl _ $a _ _ rfl rfl `a)
 | `(A1 $a $b)=>`(@Ed _ _ _ _ _ $a $b rfl)
 | `(A2 $_)=>`(@Je _ _ _ _)
 | `(A3 $_)=>`(@O4 _)
 | `(A4 $a $b $c)=>`(@pe_op _ _ _ _ _ _ _ _ $a $b $c)
 | `(A5 $a $b)=>`(@Rp _ _ _ _ _ $a $b)
 | `(A6 $a $b $c)=>`(@pe_ix _ _ _ _ _ _ _ $a $b $c (λ_ _=>rfl))
 | `(A7 $a)=>`(@Ve _ _ _ $a)
 | `(A8 $a)=>`(@pe_tup _ _ _ _ _ $a)
 | `(A9 $a $b $c)=>`(@Pf _ _ $a _ _ _ _ $b rfl (ab6 rfl) $c rfl `W)
 | `(AA $_)=>`(@Ol _)
 | `(AB $_)=>`(@Q7 _ _ _ _)
 | `(AC $a)=>`(@Eb.str _ _ _ _ _ $a)
 | `(AD $a $b $c)=>`(@pe_has _ _ _ _ _ _ _ _ _ _ $a $b $c rfl `b rfl rfl)
 | `(AE $a)=>`(@ps_ret _ _ _ _ $a)
 | `(AF $_)=>`(@nomark _ _ `a `a)
 | `(AG $a $b $c)=>`(@ps_if _ _ _ _ _ _ _ _ $a $b $c)
 | `(AH $a $b $c $d)=>`(@Gg _ _ _ _ _ _ _ _ $a $b $c $d)
 | `(AI $_)=>`(@Vi _)
 | `(AJ $a)=>`(@pk _ $a _ _ rfl rfl `a)
 | `(AK $_)=>`(@U0 _)
 | `(AL $_)=>`(@J1 _)
 | `(AM $_)=>`(@U9 _)
 | `(AN $_)=>`(@op_eq _)
 | `(AO $a $b $c $d)=>`(@Ow _ _ _ _ _ _ _ _ _ $a rfl $b $c $d `a `a rfl rfl)
 | `(AQ $a $b $c)=>`(@Ek _ _ $a _ $b rfl $c `W)
 | `(AR $a)=>`(@pe_lst _ _ _ _ $a)
 | `(AS $a $b $c $d $e $f)=>`(@pe_bm _ _ _ _ _ _ _ _ _ _ _ _ $a $b $c $d $e $f rfl rfl rfl rfl rfl)
 | `(AT $_)=>`(@Qy _)
 | `(AU $a)=>`(@Uc _ _ _ _ $a rfl)
 | `(AV $_)=>`(@Bg _)
 | `(AW $a)=>`(@N2 _ _ _ $a)
 | `(AX $_)=>`(@Eb.nil)
 | `(AY $_)=>`(@vm _)
 | `(AZ $a $b $c)=>`(@ps_for _ _ _ _ _ _ _ _ PassesOwn.never rfl $a $b $c (by intro _;rfl))
 | `(B0 $a $b $c $d)=>`(@Mq _ _ _ _ _ _ _ _ _ $a rfl $b $c $d `a `a rfl rfl)
 | `(B5 $a $b $c)=>`(@Tx _ _ _ _ _ _ $a $b $c (λ_ _=>rfl))
 | `(B6 $a $b)=>`(@Pz _ _ _ _ _ $a $b rfl)
 | `(B7 $_)=>`(@Um _)
 | `(B8 $a $b)=>`(@Ek _ _ $a _ $b rfl (ab6 rfl) (.inr rfl))
 | `(B9 $a)=>`(@Eb.int _ _ _ _ _ $a)
 | `(BA $a $b $c $d $e)=>`(@mz.mk _ _ $a $b $c _ rfl rfl rfl rfl $d rfl $e)
 | `(BB $a)=>`(@Ob _ _ _ _ $a)
 | `(BC $_)=>`(@Ub _)
 | `(BD $_)=>`(@Ac _)
 | `(BE $a $b)=>`(@Vo _ _ _ _ _ $a $b)
 | `(BF $a)=>`(@Lk _ _ _ _ $a)
 | `(BG $a $b $c $d $e)=>`(@pe_lc _ _ _ _ _ _ _ _ _ _ _ _ _ _ _ $a rfl $b $c $d $e (by intro _;rfl))
 | `(BH $a $b $c)=>`(@Oi _ _ _ _ _ _ _ _ _ $a $b $c)
 | `(BI $a $b)=>`(@pe_un _ _ _ _ _ _ $a $b)
 | `(BJ $a $b $c $d)=>`(@Qm _ _ _ _ _ _ _ _ _ _ $a $b $c $d)
 | `(BK $a)=>`(@Ri _ _ _ $a)
 | `(BL $a $b $c $d)=>`(@V5 _ _ _ _ _ _ _ _ _ $a $b $c $d rfl)
 | `(BM $a $b $c $d $e $f $g)=>`(@Sf _ _ _ _ _ _ _ _ _ _ _ _ _ _ _ $a _ _ _ $b rfl (ab6 rfl) $c rfl $d $e $f $g rfl (by intro _;rfl) `W)
 | `(BN $a $b)=>`(@Qp _ _ _ _ _ $a rfl $b rfl rfl)
 | `(BO $a)=>`(@PW.pt _ _ _ $a)
 | `(BP $a $b $c)=>`(@Gg _ _ _ _ _ _ _ _ $a $b $c `by)
 | `(BQ $a)=>`(@V0 _ _ _ $a (by intro _;rfl))
 | `(BR $a $b)=>`(@So _ _ _ _ _ _ $a $b)
 | `(BS $a $b)=>`(@ps_asg _ _ _ _ _ _ $a $b rfl rfl rfl)
 | `(BT $a $b $c $d $e)=>`(@pe_bm0 _ _ _ _ _ _ _ _ _ $a $b $c $d $e rfl rfl)
 | `(BU $a $b)=>`(@Ly _ _ _ _ _ _ rfl $a $b rfl)
 | `(BV $a $b)=>`(@Rx _ _ _ _ _ _ PassesOwn.never $a $b)
 | `(BW $a $b $c $d)=>`(@C5 _ _ _ _ _ _ _ _ $a $b $c $d)
 | `(BX $a $b)=>`(@pw_and _ _ _ _ _ _ _ $a $b)
 | `(BY $a $b)=>`(@pe_gty _ _ _ _ $a $b rfl `b `b)
 | `(BZ $a $b $c)=>`(@Pf _ _ $a _ _ _ _ $b rfl (ab5 rfl) $c rfl `W)
 | `(C0 $a $b $c)=>`(@pg_sub _ _ _ _ _ _ _ $a $b $c (by intro _;rfl))
 | `(C1 $a $b)=>`(@Vn _ _ _ _ _ _ _ _ rfl $a $b rfl)
 | `(C2 $a $b $c)=>`(@Sj _ _ _ _ _ _ _ _ $a $b $c)
 | `(C3 $a $b)=>`(@Th _ _ _ _ _ $a rfl rfl $b `a)
set_option hygiene true
section
variable {P:aX} {w:aZ} {K:aG} {mg:Str→Option aD} {base:Heap} {k:Nat}
noncomputable abbrev Ad:Stmt:=top 36
theorem Nz:av ["script","k","cell","mixed"] ["script","k"] (ae Ad):=⟨rfl,rfl,rfl,by decide+kernel,rfl,by decide+kernel,by decide+kernel⟩
theorem Tr (G:Gs w K mg) (D:Def K mg "_law_draw" Ad ["script","k"]):Has P w K mg base (k+1) "_law_draw" ["script","k"] (jw K):=by
 refine D.has Nz (λvs H Q E h=>?_) (λf cdv A outer s H vs Q E hr h=>?_)
 ·obtain ⟨_,_,_,rfl,_,_,_,_⟩:=h;rfl
 have nd:=Nz.nd;have hu:=b8 hr;have hu0:=aaf hu;obtain ⟨a,ns,k1,rfl,hA,hl,hk,q⟩:=h;have m_len:=G.m_len;have m_max:=G.m_max;refine ⟨_,(A5 (A9 2 nd (A2 0)) (BE (AG (AH (@ko _) `cT (A2 0) (AF 0)) (A7 (A9 2 nd (A4 (AI 0) (A6 (AL 0) (A0 0) (A4 (AI 0) (A0 1) `cT)) (A2 0)))) (AK 0)) (A5 (A9 3 nd (A4 (AI 0) (A4 (@ju _) (A4 (AM 0) (A4 (AM 0) (A0 2) (A2 0)) (A4 (@ju _) (A2 0) (A4 (AT 0) (A0 1) (AO (@Lx _ rfl) m_max b_max (A1 (A2 0) (A1 `cT (A3 0))))))) (A2 0)) (A2 0))) (A7 (AE (A4 (AI 0) (A4 (@ju _) (A0 3) (A0 3)) (A2 0))))))),?_⟩;rw[show start ["script","k","cell","mixed"] [.ref a,.int (k1:Int)]=[aA `p,aA (.int (k1:Int)),none,none] from rfl];clear hu hu0 nd hr;push_cast [and_true];have sz:=aV;refine g7 (λσ' H'=>σ'=[aA `p,aA (.int (k1:Int)),aA (.int (drwC ns k1)),none]∧H=H') ?_ ?_
 ·push_cast [and_true];refine ⟨_,.inl hA,?_⟩;rw[aa0];unfold drwC;refine df (λc=>?_) λc=>?_
  ·have hlt:k1 % ns.length < ns.length:=Nat.mod_lt _ (by omega);rw[if_pos (by omega)];refine ⟨_,.inl hA,by rw[aa0];omega,a,ns.map V.int,_,.int ns[k1 % ns.length],rfl,rfl,hA,?_,?_⟩
   ·rw[aa0,show (k1:Int) % (ns.length:Int)=((k1 % ns.length:Nat):Int) by omega];exact bb (by rw[aa5,aa2 hlt];rfl)
   ·rw[aa7,aa2 hlt];exact ⟨by decide,rfl,rfl⟩
  ·rw[if_neg (by omega)]
 rintro _ _ ⟨rfl,rfl⟩;push_cast [and_true];have em:(if (((ns.map V.int).length:Nat):Int) > 1 then (((ns.map V.int).length:Nat):Int) else 1)=((max 1 ns.length:Nat):Int):=by
  rw[aa0];by_cases c:(ns.length:Int) > 1
  ·rw[if_pos c];omega
  ·rw[if_neg c];omega
 have ed:(k1:Int) / ((max 1 ns.length:Nat):Int)=((k1 / max 1 ns.length:Nat):Int):=by omega
 have b1:drwM ns k1 < 2147483629:=abo _ `a;have b0:0≤drwM ns k1:=ab8 _ `a;refine ⟨ns.map V.int,.inl hA,?_⟩;rw[em,ed];exact ⟨by omega,by omega,by unfold zx;omega,by unfold zx;omega,by unfold zx;unfold drwM at b0 b1;omega,q⟩
noncomputable abbrev zv:Stmt:=top 37
theorem Ny:av ["script","i","letters","pad","place","tail","word"] ["script","i"] (ae zv):=⟨rfl,rfl,rfl,by decide+kernel,rfl,by decide+kernel,by decide+kernel⟩
theorem Tc (G:Gs w K mg) (h_law_draw:Has P w K mg base k "_law_draw" ["script","k"] (jw K)) (D:Def K mg "_law_word" zv ["script","i"]):Has P w K mg base (k+1) "_law_word" ["script","i"] (vj K):=by
 refine D.has Ny (λvs H Q E h=>?_) (λf cdv A outer s H vs Q E hr h=>?_)
 ·obtain ⟨_,_,_,rfl,_,_,_,_⟩:=h;rfl
 have nd:=Ny.nd;have hu:=b8 hr;have hu0:=aaf hu;obtain ⟨a,ns,i,rfl,hA,hl,hi,q⟩:=h;refine ⟨_,(A5 (A9 2 nd (AB 0)) (A5 (A9 3 nd (A6 (@Pt _) (A0 2) (A4 (AI 0) `v (A2 0)))) (A5 (A9 4 nd (A4 (AI 0) `v (A2 0))) (A5 (A9 5 nd (A4 (AI 0) `v (A4 (BC 0) (A2 0) (A0 4)))) (BE (AG (AH (AN 0) (A4 (AI 0) (A4 (AT 0) `v (A2 0)) (A2 0)) (A2 0) (AF 0)) (A7 (A9 5 nd (A4 (AI 0) (AD h_law_draw hr (A1 (A0 0) (A1 (A4 (AM 0) (A2 0) (A0 1)) (A3 0)))) (A4 (BC 0) (A2 0) (A0 4))))) (AK 0)) (A5 (A9 6 nd (A4 (@jb _) (A4 (@jb _) (A4 (@Ag _) (A0 3) (A0 4)) (A6 (@Pt _) (A0 2) (A4 (AI 0) (A4 (AM 0) (A0 1) `v) (A2 0)))) (A4 (@Ag _) (A0 3) (A0 5)))) (A5 (AG (AH (AN 0) (A0 6) (AB 0) (AF 0)) (A7 (AE (AB 0))) (AK 0)) (A7 (AE (A0 6)))))))))),?_⟩;rw[show start ["script","i","letters","pad","place","tail","word"] [.ref a,.int (i:Int)]=[aA `p,aA `cJ,none,none,none,none,none] from rfl];clear hu hu0 nd hr;push_cast [and_true];have sz:=aV;have d8:0 < 8 - drw ns 1 % 8:=by have:=abo (drw ns 1) (show (0:Int) < 8 by decide);omega
 refine dc (k:=0) hA hl (by omega) ⟨by decide,Fh (dc (k:=1) hA hl (by omega) ⟨by decide,dc (k:=2) hA hl (by omega) ⟨d8,?_⟩⟩)⟩;refine g7 (λσ' H'=>σ'=[aA `p,aA `cJ,aA (.str abcS),aA (.str `cL),aA (.int (drw ns 1 % 8)),aA (.int (wTl ns i)),none]∧H=H') ?_ ?_
 ·push_cast [and_true];refine dc (k:=1) hA hl (by omega) ⟨by decide,by decide,rfl,?_⟩;have e:wTl ns i=if drw ns 1 / 8 % 2=1 then (drw ns (4+i) % (8 - drw ns 1 % 8)).toNat else (drw ns 2 % (8 - drw ns 1 % 8)).toNat:=rfl
  refine df (λc=>?_) λc=>?_
  ·rw[if_pos c] at e;refine dc (k:=4+i) hA hl (by omega) ⟨d8,?_,rfl⟩;rw[e];have:=ab8 (drw ns (4+i)) (show 8 - drw ns 1 % 8≠0 by omega);omega
  ·rw[if_neg c] at e;refine ⟨?_,rfl⟩;rw[e];have:=ab8 (drw ns 2) (show 8 - drw ns 1 % 8≠0 by omega);omega
 rintro _ _ ⟨rfl,rfl⟩;push_cast [and_true];have tl:=O2 ns i;have p8:=Si ns;have l1:=Ko (drw ns 0);have l2:=Ko ((i:Int)+drw ns 3);have m1:=Kc (drw ns 0) (wPl ns);have m2:=Kc (drw ns 0) (wTl ns i);refine ⟨ab8 _ `a,by omega,by omega,dc (k:=3) hA hl (by omega) (Fh ⟨_,rfl,by show (u5 `cL (wPl ns)).length+_≤_;omega,by omega,by omega,by omega,by rw[Str.length_append];show (u5 `cL (wPl ns)).length+_+(u5 `cL (wTl ns i)).length≤_;omega,rfl,?_⟩)⟩;unfold wd at q;by_cases c:wd0 ns i=aB "add"
 ·rw[if_pos c] at q;exact ifY c q
 ·rw[if_neg c] at q;exact ifN c q
noncomputable abbrev y6:Stmt:=top 38
theorem R8:av ["draw","some"] ["draw"] (ae y6):=⟨rfl,rfl,rfl,by decide+kernel,rfl,by decide+kernel,by decide+kernel⟩
theorem Vt (G:Gs w K mg) (D:Def K mg "_law_number" y6 ["draw"]):Has P w K mg base (k+1) "_law_number" ["draw"] vi:=by
 refine D.has R8 (λvs H Q E h=>?_) (λf cdv A outer s H vs Q E hr h=>?_)
 ·obtain ⟨_,rfl,_,_,_⟩:=h;rfl
 have nd:=R8.nd;have hu:=b8 hr;have hu0:=aaf hu;obtain ⟨c,rfl,h0,h1,q⟩:=h;refine ⟨_,(A5 (A9 1 nd (AR (A1 `m (A1 `m (A1 (A4 (AI 0) (A4 (@ju _) (A4 (AT 0) (A0 0) (A2 0)) (A2 0)) (A4 (@Ux _) (A2 0) (A2 0))) `ce))))) (A7 (AE (A6 (AL 0) (AR (A1 (A6 (AL 0) (A0 1) `bR) (A1 (BI (@jt _) (A6 (AL 0) (A0 1) `bR)) (A3 0)))) `m)))),?_⟩;rw[show start ["draw","some"] [.int c]=[aA (.int c),none] from rfl];clear hu hu0 nd hr;push_cast [and_true];have sz:=aV;refine ⟨by unfold zx;omega,⟨by decide,by decide,by decide⟩,by decide,by show (4:Nat)≤sizeLine;decide,λp hp=>?_⟩;obtain ⟨v,hv,hm⟩:=vg [V.int (c / 8 % 4),V.int (c / 8 % 1000),V.int (c / 8*8191 % 10 ^ af3 12),V.int 1] (c % 4) (ab8 _ `a) (by show c % 4 < 4;omega);obtain ⟨x,rfl,hx⟩:∃x:Int,v=.int x∧x.natAbs < 10 ^ 12:=by
  simp only[aan,aac,or_false] at hm;rcases hm with rfl | rfl | rfl | rfl
  ·exact ⟨_,rfl,by omega⟩
  ·exact ⟨_,rfl,by omega⟩
  ·refine ⟨_,rfl,?_⟩;have e:(10:Int) ^ af3 12=1000000000000:=by decide
   rw[e];have a1:=ab8 (c / 8*8191) (show (1000000000000:Int)≠0 by decide);have a2:=abo (c / 8*8191) (show (0:Int) < 1000000000000 by decide);omega
  ·exact ⟨1,rfl,by decide⟩
 have s1:=ab hp (.lst [V.int (c / 8 % 4),V.int (c / 8 % 1000),V.int (c / 8*8191 % 10 ^ af3 12),V.int 1]);refine ax aa hv (ax aa hv ⟨by show (2:Nat)≤sizeLine;decide,λp2 hp2=>?_⟩);obtain ⟨y,hy,hm2⟩:=vg [V.int x,V.int (-x)] (c / 4 % 2) (ab8 _ `a) (by show c / 4 % 2 < 2;omega);refine ax aa hy ?_;simp only[aan,aac,or_false] at hm2;rcases hm2 with rfl | rfl
 ·exact q _ _ (s1.trans (ab hp2 _)) hx
 ·exact q _ _ (s1.trans (ab hp2 _)) (by rw[adv];exact hx)
noncomputable abbrev kr:Stmt:=top 41
theorem Fg:av ["draw"] ["draw"] (ae kr):=⟨rfl,rfl,rfl,by decide+kernel,rfl,by decide+kernel,by decide+kernel⟩
theorem Mg (G:Gs w K mg) (D:Def K mg "_law_price" kr ["draw"]):Has P w K mg base (k+1) "_law_price" ["draw"] uv:=by
 refine D.has Fg (λvs H Q E h=>?_) (λf cdv A outer s H vs Q E hr h=>?_)
 ·obtain ⟨_,rfl,_,_⟩:=h;rfl
 have nd:=Fg.nd;have hu:=b8 hr;have hu0:=aaf hu;obtain ⟨c,rfl,h0,q⟩:=h;refine ⟨_,(A7 (AE (A6 (AL 0) (AR (A1 (A2 0) (A1 (A4 (AM 0) (A2 0) `m) (A1 (A4 (AM 0) (A2 0) `m) (A1 (A4 (AM 0) (A2 0) `m) (A3 0)))))) `bR))),?_⟩;rw[show start ["draw"] [.int c]=[aA (.int c)] from rfl];clear hu hu0 nd hr;push_cast [and_true];have sz:=aV;refine ⟨by show (4:Nat)≤sizeLine;decide,λp hp=>?_⟩;obtain ⟨v,hv,hm⟩:=vg [V.int 1,V.int (1+c / 4 % 3),V.int (1+c / 4 % 40),V.int (1+c / 4 % 999999)] (c % 4) (ab8 _ `a) (by show c % 4 < 4;omega);refine ax aa hv ?_;simp only[aan,aac,or_false] at hm;rcases hm with rfl | rfl | rfl | rfl
 ·exact q _ _ (ab hp _) `a `a
 ·exact q _ _ (ab hp _) (by omega) (by omega)
 ·exact q _ _ (ab hp _) (by omega) (by omega)
 ·exact q _ _ (ab hp _) (by omega) (by omega)
noncomputable abbrev sf:Stmt:=top 39
theorem Lg:av ["draw","kinds","seen","box"] ["draw","kinds","seen","box"] (ae sf):=⟨rfl,rfl,rfl,by decide+kernel,rfl,by decide+kernel,by decide+kernel⟩
theorem N7 (G:Gs w K mg) (D:Def K mg "_law_leaf" sf ["draw","kinds","seen","box"]):Has P w K mg base (k+1) "_law_leaf" ["draw","kinds","seen","box"] xm:=by
 refine D.has Lg (λvs H Q E h=>?_) (λf cdv A outer s H vs Q E hr h=>?_)
 ·obtain ⟨_,_,_,_,_,_,rfl,_,_,_,_,_,_,_⟩:=h;rfl
 have nd:=Lg.nd;have hu:=b8 hr;have hu0:=aaf hu;obtain ⟨c,kl,sn,bx,kinds,kc,rfl,hK,hS,hk1,b1,b2,b3,q⟩:=h;have m_len:=G.m_len;have m_str:=G.m_str;refine ⟨_,(A5 (AG (AH (@Dg _) `bR (A2 0) (AF 0)) (A5 (BS (A4 (AM 0) `eq (A2 0)) (C0 (A0 2) (A2 0) (@set_list _))) (A7 (AE (A8 (A1 (A6 (AL 0) (A0 1) (A4 (AI 0) (A4 (AT 0) (A0 0) (A2 0)) (AO (AV 0) m_len dg `ec))) (A1 (A8 (A3 0)) (A1 (A4 (@jb _) (AB 0) (B0 (@me _) m_str Hj (A1 `eq (A3 0)))) (A3 0)))))))) (AK 0)) (A5 `t (A5 `t (A7 (AE (A8 (A1 `m (A1 (A8 (A1 (A8 (A1 (AB 0) (A1 (A0 3) (A1 `m (A3 0))))) (A3 0))) `aI)))))))),?_⟩;rw[show start ["draw","kinds","seen","box"] [.int c,.ref kl,.ref sn,.str bx]=[aA (.int c),aA `cH,aA (.ref sn),aA (.str bx)] from rfl];clear hu hu0 nd hr;push_cast [and_true];have sz:=aV;have nks:kl≠sn:=mx hK hS (by intro e;cases kinds <;> simp[Cnt.vs] at e);refine df (λ_=>?_) λ_=>?_
 ·refine ax hS `c5 ?_;push_cast [gSub,Qw];obtain ⟨tx1,tx2⟩:=qp (n:=kc.h+1) (by omega);have h1l:(aB "h").length=1:=by decide+kernel
  refine ⟨_,hS,0,rfl,?_⟩;have eS:upd H sn `a5 sn=aA (.lst [V.int ((kc.h+1:Nat):Int),V.int (kc.n:Int),V.int (kc.v:Int)]):=aa;have eK:upd H sn `a5 kl=aA `eI:=by rw[ah nks];exact hK
  have s1:gu sn H (upd H sn `a5):=λb o ne h=>by rw[ah ne];exact h
  generalize upd H sn `a5=H1 at eS eK s1 ⊢;obtain ⟨i,hi,ei⟩:=Az (c / 6) (n:=kinds.length) (by omega);refine ⟨kinds.map V.str,.inl (SqL.of eK),by rw[aa0];omega,ax (v:=.str kinds[i]) eK (by rw[aa0,ei];exact bb (by rw[aa5,aa2 hi];rfl)) ⟨aai _,λp hp=>ax (ab hp _ _ _ eS) `c5 ⟨tx2,by omega,by show (3:Nat)≤sizeLine;decide,λp1 hp1=>?_⟩⟩⟩;have s2:=ab hp (.tup []);have s3:=ab hp1 (.tup [V.str kinds[i],V.ref p,V.str (aB "h"++Fz (V.int ((kc.h+1:Nat):Int)))]);exact q (.h kinds[i]) p1 _ (aaj hi) (s1.trans (gu.of (s2.trans s3))) ((s2.trans s3) _ _ eS) ⟨p,aa,[],s3 _ _ aa,bp.nil _⟩
 ·push_cast [gSub,Qw];have put:∀(x:V) (j:Nat) (l:Lv),l.ok kinds→kc.vs.set j x=(l.next kc).vs→∀{deed:List V} {w:V},w=l.word→l.gs kc bx=[deed]→l.lbl kc bx=bx→∀(t:Addr) (H':Hp),ag (upd H sn (.lst (kc.vs.set j x))) H'→(∃da:Addr,H' t=aA (.tup [w,.ref da,.str bx])∧du H' da [deed])→Q `I H':=λx j l ok e deed w ew ed el t H' s' h=>by
   obtain ⟨da,g1,g2⟩:=h;refine q l t H' ok (gu.trans (gu.tb _) (gu.of s')) ?_ ⟨da,by rw[el,←ew];exact g1,by rw[ed];exact g2⟩;rw[←e];exact s' _ _ aa
  refine ⟨rfl,df (λ_=>?_) λ_=>⟨rfl,df (λ_=>?_) λ_=>?_⟩⟩
  ·obtain ⟨tx1,tx2⟩:=qp (n:=kc.n+1) (by omega);have h1l:(aB "n").length=1:=by decide+kernel
   refine ax hS (bb (j:=1) rfl) ⟨_,hS,1,rfl,ax (v:=.int ((kc.n+1:Nat):Int)) aa (bb (j:=1) rfl) ⟨tx2,by omega,Dx (by show (3:Nat)≤10;decide) (put _ 1 .n trivial rfl rfl rfl rfl)⟩⟩
  ·obtain ⟨tx1,tx2⟩:=qp (n:=kc.v+1) (by omega);have h1l:(aB "v").length=1:=by decide+kernel
   refine ax hS (bb (j:=2) rfl) ⟨_,hS,2,rfl,ax (v:=.int ((kc.v+1:Nat):Int)) aa (bb (j:=2) rfl) ⟨tx2,by omega,Dx (by show (3:Nat)≤10;decide) (put _ 2 .v trivial rfl rfl rfl rfl)⟩⟩
  ·refine Dx (by show (3:Nat)≤10;decide) λt H' s' h=>?_;obtain ⟨da,g1,g2⟩:=h;exact q (.c (c / 6 % 3)) t H' ⟨by omega,by omega⟩ (gu.of s') (s' _ _ hS) ⟨da,g1,g2⟩
noncomputable abbrev lp:Stmt:=top 40
theorem Hg:av ["draw","more","kinds","seen","word","first","second","third","other","deeds"] ["draw","more","kinds"] (ae lp):=⟨rfl,rfl,rfl,by decide+kernel,rfl,by decide+kernel,by decide+kernel⟩
theorem Nh (G:Gs w K mg) (h_law_leaf:Has P w K mg base k "_law_leaf" ["draw","kinds","seen","box"] xm) (D:Def K mg "_law_shape" lp ["draw","more","kinds"]):Has P w K mg base (k+1) "_law_shape" ["draw","more","kinds"] t4:=by
 refine D.has Hg (λvs H Q E h=>?_) (λf cdv A outer s H vs Q E hr h=>?_)
 ·obtain ⟨_,_,_,_,rfl,_,_,_,_,_,_,_⟩:=h;rfl
 have nd:=Hg.nd;have hu:=b8 hr;have hu0:=aaf hu;obtain ⟨c,m,kl,kinds,rfl,hK,hk1,h0,h1,m0,m1,q⟩:=h;refine ⟨_,(A5 (A9 3 nd (AR (AW (B9 (B9 (B9 (AX 0))))))) (A5 (A9 4 nd (A6 (AL 0) (AR (AW `N)) `bR)) (A5 (A9 5 nd (AD h_law_leaf hr (A1 `m `dU))) (A5 (AG (AH (AN 0) `m (A2 0) (AF 0)) (A7 (AE (A8 (A1 (A8 (A1 (AB 0) (A1 `x (A3 0)))) (A1 (A4 (B7 0) `x (A8 (A1 (A8 (A1 (AB 0) (A1 (AB 0) (A1 `x (A3 0))))) (A3 0)))) (A3 0)))))) (AK 0)) (A5 (A9 6 nd (AD h_law_leaf hr (A1 (A4 (AI 0) (A0 1) (A2 0)) `dU))) (A5 (AG (AH (@Dg _) `m (A2 0) (AF 0)) (A7 (AE (A8 (A1 (A8 (A1 (A0 4) `e4)) (A1 (A4 (B7 0) (A4 (B7 0) `x `ad) (A8 (A1 (A8 (A1 (A0 4) (A1 (AB 0) `e4))) (A3 0)))) (A3 0)))))) (AK 0)) (A5 (A9 7 nd (AD h_law_leaf hr (A1 `b1 `dU))) (A5 (A9 8 nd (A6 (AL 0) (AR (AW `N)) `b1)) (A5 (AG (AH (AN 0) `b1 (A2 0) (AF 0)) (A5 (A9 9 nd (A4 (B7 0) (A4 (B7 0) (A4 (B7 0) `ad `bn) (A8 (A1 (A8 (A1 (A0 8) (A1 (AB 0) `eB))) (A3 0)))) `x)) (A7 (AE (A8 (A1 (A8 (A1 (A0 4) (A1 `x (A1 (A0 8) `eB)))) (A1 (A4 (B7 0) (A0 9) (A8 (A1 (A8 (A1 (A0 4) (A1 (AB 0) (A1 `x `a0)))) (A3 0)))) (A3 0))))))) (AK 0)) (A5 (A9 9 nd (A4 (B7 0) (A4 (B7 0) (A4 (B7 0) `x `ad) (A8 (A1 (A8 (A1 (A0 8) (A1 (AB 0) `e4))) (A3 0)))) `bn)) (A7 (AE (A8 (A1 (A8 (A1 (A0 4) (A1 (A0 8) (A1 `x `eB)))) (A1 (A4 (B7 0) (A0 9) (A8 (A1 (A8 (A1 (A0 4) (A1 (AB 0) (A1 (AB 0) (A1 `bn (A3 0)))))) (A3 0)))) (A3 0)))))))))))))))),?_⟩;rw[show start ["draw","more","kinds","seen","word","first","second","third","other","deeds"] [.int c,.int m,.ref kl]=[aA (.int c),aA (.int m),aA `cH,none,none,none,none,none,none,none] from rfl];clear hu hu0 nd hr;push_cast [and_true];have sz:=aV;refine ⟨by show (3:Nat)≤sizeLine;decide,λsn hsn=>⟨by show (3:Nat)≤sizeLine;decide,λpw hpw=>?_⟩⟩;have s1:=ab hsn `df;have s2:=ab hpw `aj;have S2:=s1.trans s2;have n2:=s2 _ _ (aa (H:=H) (a:=sn) (o:=.lst [V.int 0,V.int 0,V.int 0]));have w2:upd (upd H sn `df) pw `aj pw=aA `aj:=aa;generalize upd (upd H sn `df) pw `aj=H2 at s2 S2 n2 w2 ⊢;obtain ⟨w,hw,hw3⟩:=N8 c;have same:∀{H':Hp},gu sn H2 H'→ag H H':=λs b o h=>s b o (ao h hsn) (S2 b o h);have tkB:∀{HA HB:Hp} {xs:List V},HA sn=aA `ab→gu sn HA HB→TK HA HB:=λe s b xs h=>s b _ (mx h e (by intro z;cases z)) h;refine ax w2 hw (En (k:=c0) (S2 _ _ hK) n2 hk1 `a `a `a λl t1 H3 ok1 s3 n3 L3=>⟨rfl,?_⟩);have lk1:=l.gp (k:=c0) (n:=0) `a `a `a;have dl1:=l.bq c0 "t1";obtain ⟨da1,a1,a2⟩:=id L3;refine df (λ_=>?_) λ_=>?_
 ·refine af a1 rfl ⟨by show (2:Nat)≤sizeLine;decide,λsa hsa=>?_⟩;have s4:=ab hsa `cW;have e4:upd H3 sa `cW sa=aA `cW:=aa;generalize upd H3 sa `cW=H4 at s4 e4 ⊢;refine af (s4 _ _ a1) rfl (af (s4 _ _ a1) rfl (C4 (a2.tk (TK.of s4)) (by show (3:Nat)≤10;decide) (by omega) λp5 H5 s5 d5=>J5 (s5 _ _ e4) d5 λt H6 s6 m6=>q t _ _ H6 (Mk.s1 ok1) ((same s3).trans (s4.trans (s5.trans s6))) m6))
 ·refine En (k:=l.next c0) (s3 _ _ (mx (S2 _ _ hK) n2 (by intro e;cases kinds <;> simp at e)) (S2 _ _ hK)) n3 hk1 (by omega) (by omega) (by omega) λm' t2 H4 ok2 s4 n4 L4=>?_;have lk2:=m'.gp (k:=l.next c0) (n:=1) lk1.1 lk1.2.1 lk1.2.2;have dl2:=m'.bq `ay "t2";obtain ⟨da2,b1,b2⟩:=id L4;have tk4:=tkB n3 s4;have a1:=tk4 _ _ a1;have a2:=a2.tk tk4;have s24:=s3.trans s4;refine df (λ_=>?_) λ_=>?_
  ·refine af a1 rfl (af b1 rfl ⟨by show (3:Nat)≤sizeLine;decide,λsa hsa=>?_⟩);have s5:=ab hsa `bX;have e5:upd H4 sa `bX sa=aA `bX:=aa;generalize upd H4 sa `bX=H5 at s5 e5 ⊢;refine af (s5 _ _ a1) rfl (af (s5 _ _ b1) rfl (catD (a2.tk (TK.of s5)) (b2.tk (TK.of s5)) (by omega) λp6 H6 s6 d6=>af ((s5.trans s6) _ _ a1) rfl (af ((s5.trans s6) _ _ b1) rfl (C4 d6 (by show (4:Nat)≤10;decide) (by simp only[aa1,aa4];omega) λp7 H7 s7 d7=>J5 ((s6.trans s7) _ _ e5) d7 λt H8 s8 m8=>q t _ _ H8 (Mk.s2 hw3 ok1 ok2) ((same s24).trans (s5.trans (s6.trans (s7.trans s8)))) m8))))
  ·refine En (k:=m'.next (l.next c0)) (s24 _ _ (mx (S2 _ _ hK) n2 (by intro e;cases kinds <;> simp at e)) (S2 _ _ hK)) n4 hk1 (by omega) (by omega) (by omega) λr t3 H5 ok3 s5 n5 L5=>⟨by show (3:Nat)≤sizeLine;decide,λpo hpo=>?_⟩;have dl3:=r.bq (m'.next (l.next c0)) "t3";obtain ⟨da3,x1,x2⟩:=id L5;have tk5:=tkB n4 s5;have s6:=ab hpo `aj;have e6:upd H5 po `aj po=aA `aj:=aa;generalize upd H5 po `aj=H6 at s6 e6 ⊢;have a1:=s6 _ _ (tk5 _ _ a1);have a2:=(a2.tk tk5).tk (TK.of s6);have b1:=s6 _ _ (tk5 _ _ b1);have b2:=(b2.tk tk5).tk (TK.of s6);have x1:=s6 _ _ x1;have x2:=x2.tk (TK.of s6);have S6:=(same (s24.trans s5)).trans s6;obtain ⟨o,ho,ho3⟩:=N8 (m / 1000000);refine ax e6 ho ⟨rfl,df (λ_=>?_) λ_=>?_⟩
   ·refine af b1 rfl (af x1 rfl (catD b2 x2 (by omega) λp7 H7 s7 d7=>af (s7 _ _ b1) rfl (af (s7 _ _ x1) rfl (C4 d7 (by show (4:Nat)≤10;decide) (by simp only[aa1,aa4];omega) λp8 H8 s8 d8=>af ((s7.trans s8) _ _ a1) rfl (catD d8 (a2.tk (TK.of (s7.trans s8))) (by simp only[aa1,aa4];omega) λp9 H9 s9 d9=>?_)))));have s79:=s7.trans (s8.trans s9);refine af (s79 _ _ a1) rfl (af (s79 _ _ b1) rfl (af (s79 _ _ x1) rfl ⟨by show (5:Nat)≤sizeLine;decide,λsa hsa=>?_⟩));have sA:=ab hsa `aO;have eA:upd H9 sa `aO sa=aA `aO:=aa;generalize upd H9 sa `aO=HA at sA eA ⊢;exact af ((s79.trans sA) _ _ a1) rfl (C4 (d9.tk (TK.of sA)) (by show (4:Nat)≤10;decide) (by simp only[aa1,aa4];omega) λpB HB sB dB=>J5 (sB _ _ eA) dB λt HC sC mC=>q t _ _ HC (Mk.s3 hw3 ho3 ok1 ok2 ok3) `en mC)
   ·refine af a1 rfl (af b1 rfl (catD a2 b2 (by omega) λp7 H7 s7 d7=>af (s7 _ _ a1) rfl (af (s7 _ _ b1) rfl (C4 d7 (by show (4:Nat)≤10;decide) (by simp only[aa1,aa4];omega) λp8 H8 s8 d8=>af ((s7.trans s8) _ _ x1) rfl (catD d8 (x2.tk (TK.of (s7.trans s8))) (by simp only[aa1,aa4];omega) λp9 H9 s9 d9=>?_)))));have s79:=s7.trans (s8.trans s9);refine af (s79 _ _ a1) rfl (af (s79 _ _ b1) rfl (af (s79 _ _ x1) rfl ⟨by show (5:Nat)≤sizeLine;decide,λsa hsa=>?_⟩));have sA:=ab hsa `aP;have eA:upd H9 sa `aP sa=aA `aP:=aa;generalize upd H9 sa `aP=HA at sA eA ⊢;exact af ((s79.trans sA) _ _ x1) rfl (C4 (d9.tk (TK.of sA)) (by show (4:Nat)≤10;decide) (by simp only[aa1,aa4];omega) λpB HB sB dB=>J5 (sB _ _ eA) dB λt HC sC mC=>q t _ _ HC (Mk.s4 hw3 ho3 ok1 ok2 ok3) `en mC)
noncomputable abbrev qx:Stmt:=top 42
theorem Kn:av ["script","kinds","draw","made","some","deeds"] ["script","kinds"] (ae qx):=⟨rfl,rfl,rfl,by decide+kernel,rfl,by decide+kernel,by decide+kernel⟩
theorem N4 (G:Gs w K mg) (h_law_draw:Has P w K mg base k "_law_draw" ["script","k"] (jw K)) (D:Def K mg "_law_more" qx ["script","kinds"]):Has P w K mg base (k+1) "_law_more" ["script","kinds"] (x5 K):=by
 refine D.has Kn (λvs H Q E h=>?_) (λf cdv A outer s H vs Q E hr h=>?_)
 ·obtain ⟨_,_,_,_,rfl,_,_,_,_,_⟩:=h;rfl
 have nd:=Kn.nd;have hu:=b8 hr;have hu0:=aaf hu;obtain ⟨a,kl,ns,kinds,rfl,hA,hl,hK,hk1,q⟩:=h;have m_len:=G.m_len;have m_range:=G.m_range;have m_tuple:=G.m_tuple;refine ⟨_,(A5 (BZ 2 nd `v) (A5 (A9 3 nd `bh) (BE (AG (AH (AN 0) (A4 (AI 0) (AJ 2) (A2 0)) (A2 0) (AF 0)) (A5 (A9 4 nd (B0 (BD 0) m_tuple fz (A1 (BG (BA ["k"] ["kinds","draw"] [1,2] (aah rfl `Y) `dd) (BU m_range `ce) (λ_ _ _=>(B8 0 (show abj (["k","kinds","draw"]:List Str) by decide+kernel))) (λ_ _ _=>(@xj _)) (λ_ _ _=>(A6 (@Gr _ K rfl) (AJ 1) (A4 (AI 0) (A4 (AT 0) (AJ 2) (A4 (AM 0) (A2 0) (A4 (@ju _) (A2 0) (A0 0)))) (AO (@Bb _ K rfl) m_len dg `eb))))) (A3 0)))) (A5 (A9 5 nd (A8 (A1 `eA (A1 `eA (A1 `eA (A3 0)))))) (A7 (AU (AS aL aS aT (AY 0) (A0 3) (A1 (A8 (A1 (A4 (B7 0) (A4 (B7 0) (A4 (B7 0) (A8 (A1 (AB 0) `a0)) (BJ (@pf _) (A0 4) (@jr _) (BK (A2 0)))) (A8 `a0)) (BJ (@pf _) (A0 4) (BK (A2 0)) (@jr _))) `cf)) (A3 0))))))) (AK 0)) (BE (AG `aK (A7 (AU (AS aL aS aT (AY 0) (A0 3) (A1 (A8 (A1 (A8 (A1 (AB 0) (A1 (A2 0) (A1 (A6 (AL 0) (AJ 1) (A2 0)) (A3 0))))) (A1 (A8 (A1 `bi (A1 `bi (A3 0)))) (A3 0)))) (A3 0))))) (AK 0)) (BE (AG `aK (A5 (A9 5 nd (A8 (A1 `bi (A1 `eA (A1 (A8 (AW `N)) (A1 (A8 (AW `N)) (A3 0))))))) (A7 (AU (AS aL aS aT (AY 0) (A0 3) (A1 (A8 (A1 (A8 (A1 (AB 0) (A1 (A2 0) (A1 (A6 (AL 0) (AJ 1) (A4 (AI 0) (A4 (AT 0) (AJ 2) (A2 0)) (AO (AV 0) m_len dg `eb))) (A3 0))))) `cf)) (A3 0)))))) (AK 0)) (BE (AG `aK (A7 (AU (AS aL aS aT (AY 0) (A0 3) (A1 (A8 (A1 `bi (A1 (A8 (A1 `bi (A3 0))) (A3 0)))) (A3 0))))) (AK 0)) (A7 (AE (A0 3))))))))),?_⟩;rw[show start ["script","kinds","draw","made","some","deeds"] [.ref a,.ref kl]=[aA `p,aA `cH,none,none,none,none] from rfl];clear hu hu0 nd hr;push_cast [and_true];have sz:=aV;refine dc (k:=57) hA hl (by omega) ⟨aai _,λml hml=>?_⟩;have nkm:kl≠ml:=ao hK hml;have fK:∀{H':Hp},ag H H'→H' kl=aA `eI:=λs=>s _ _ hK;obtain ⟨I,eI⟩:∃I:Nat→L2.St→Hp→Prop,∀j σ H',I j σ H'↔∃(as:List Addr) (ms:List Md) (v4 v5:Option V),σ=[aA `p,aA `cH,aA (.int (drw ns 57)),aA (.ref ml),v4,v5]∧ag H H'∧H' ml=aA `e∧cq H' as ms∧ms.length≤j∧∀x∈ms,Mk kinds x.1 x.2:=⟨_,λ_ _ _=>abv⟩;have add:∀{j:Nat} {as:List Addr} {ms:List Md} {HA HB:Hp} (t:Addr) (sh:List V) (dd:List `o) (v4 v5:Option V),j≤10→ag H HA→HA ml=aA `e→cq HA as ms→ms.length≤j→(∀x∈ms,Mk kinds x.1 x.2)→ag HA HB→jy HB t sh dd→Mk kinds sh dd→ou (.ref ml) [.ref t] HB λ_ H1=>I (j+1) [aA `p,aA `cH,aA (.int (drw ns 57)),aA (.ref ml),v4,v5] H1:=λ{j as ms HA HB} t sh dd v4 v5 hj sA mA MA lA kA sB hM hk=>by
  have mB:=sB _ _ mA;have al:=MA.1;have tk:TK HB (upd HB ml `U):=TK.put mB (λ_ z=>nomatch z);refine (cb (K:=K) mB (by rw[aa0];omega) ((eI _ _ _).mpr ⟨as++[t],ms++[(sh,dd)],_,_,rfl,(sA.trans sB).upd hml _,by rw[aa,aab];rfl,((MA.tk (TK.of sB)).app (cq.one hM)).tk tk,by rw[aa1];show _+1≤_;omega,λx hx=>?_⟩)).2;rcases List.mem_append.mp hx with hx | hx
  ·exact kA x hx
  ·rw[List.mem_singleton.mp hx];exact hk
 have keep:∀{j:Nat} {σ:L2.St} {H':Hp},I j σ H'→I (j+1) σ H':=λh=>by
  obtain ⟨as,ms,v4,v5,h1,h2,h3,h4,h5,h6⟩:=(eI _ _ _).mp h;exact (eI _ _ _).mpr ⟨as,ms,v4,v5,h1,h2,h3,h4,by omega,h6⟩
 have i0:I 0 [aA `p,aA `cH,aA (.int (drw ns 57)),aA (.ref ml),none,none] (upd H ml `ai):=(eI _ _ _).mpr ⟨[],[],_,_,rfl,ab hml _,aa,cq.nil _,aa3 _,λ_ h=>(aac h).elim⟩;refine g7 (I 1) ?_ ?_
 ·generalize upd H ml `ai=H1 at i0 ⊢;push_cast [and_true];refine ⟨rfl,df (λ_=>?_) λ_=>keep i0⟩;obtain ⟨as,ms,v4,v5,_,s1,m1,M1,l1,k1⟩:=(eI _ _ _).mp i0;intro D hD;refine Fe (λi ys=>∃zs:List Str,ys=zs.map V.str∧zs.length=i∧∀z∈zs,z∈kinds) (by show (4:Nat) < _;omega) hD ⟨[],rfl,rfl,λ_ h=>(aac h).elim⟩ (λi ys H2 G' K' hi hP hl2 hS hG hK'=>?_) λys H2 hP hl2 hS hD2=>?_
  ·obtain ⟨zs,rfl,zl,zk⟩:=hP;have hi:i < 4:=hi;push_cast [and_true];obtain ⟨j,hj,ej⟩:=Az (drw ns 57 / (2+3*(0+(i:Int)))) (n:=kinds.length) (by omega);refine ⟨by unfold zx;omega,by omega,by omega,kinds.map V.str,.inl (SqL.of (hS _ _ (fK s1))),by rw[aa0];omega,ax (v:=.str kinds[j]) (hS _ _ (fK s1)) (by rw[aa0,ej];exact bb (by rw[aa5,aa2 hj];rfl)) (hK' _ _ `az ⟨zs++[kinds[j]],by rw[aab];rfl,by rw[aa1,zl];rfl,Vh zk λz hz=>by rw[List.mem_singleton.mp hz];exact aaj hj⟩)⟩
  obtain ⟨zs,rfl,zl,zk⟩:=hP;have zl:zs.length=4:=zl;obtain ⟨x1,x2,x3,x4,rfl⟩:∃x1 x2 x3 x4,zs=[x1,x2,x3,x4]:=us4 (P:=λzs=>∃x1 x2 x3 x4,zs=[x1,x2,x3,x4]) zl λa b c d=>⟨a,b,c,d,rfl⟩;refine ⟨_,.inl ⟨SqL.of hD2,λst hst=>?_⟩⟩;have s_st:=ab hst (.tup `bm);have e_st:upd H2 st (.tup `bm) st=aA (.tup `bm):=aa;generalize upd H2 st (.tup `bm)=H3 at s_st e_st ⊢;refine ⟨by show (4:Nat)≤sizeLine;decide,λd1 h_d1=>?_⟩;have s_d1:=ab h_d1 `ar;have e_d1:upd H3 d1 `ar d1=aA `ar:=aa;generalize upd H3 d1 `ar=H4 at s_d1 e_d1 ⊢;refine ⟨by show (4:Nat)≤sizeLine;decide,λd2 h_d2=>?_⟩;have s_d2:=ab h_d2 `al;have e_d2:upd H4 d2 `al d2=aA `al:=aa;generalize upd H4 d2 `al=H5 at s_d2 e_d2 ⊢;refine ⟨by show (4:Nat)≤sizeLine;decide,λd3 h_d3=>?_⟩;have s_d3:=ab h_d3 `aB;have e_d3:upd H5 d3 `aB d3=aA `aB:=aa;generalize upd H5 d3 `aB=H6 at s_d3 e_d3 ⊢;refine ⟨by show (3:Nat)≤sizeLine;decide,λda h_da=>?_⟩;have s_da:=ab h_da `M;have e_da:upd H6 da `M da=aA `M:=aa;generalize upd H6 da `M=H7 at s_da e_da ⊢;have s17:=hS.trans (s_st.trans (s_d1.trans (s_d2.trans (s_d3.trans s_da))));refine ⟨bj (s17 _ _ m1),?_⟩;refine ⟨by show (2:Nat)≤sizeLine;decide,λp0 h_p0=>?_⟩;have s_p0:=ab h_p0 `cu;have e_p0:upd H7 p0 `cu p0=aA `cu:=aa;generalize upd H7 p0 `cu=H8 at s_p0 e_p0 ⊢;have e2:=(s_d1.trans (s_d2.trans (s_d3.trans (s_da.trans s_p0)))) _ _ e_st;have D8:du H8 da [[V.str `h,V.str `z,V.str (aB "h1"),V.str (aB "h2")],[V.str `h,V.str (aB "t2"),V.str (aB "h3"),V.str (aB "h4")],[V.str `h,V.str `n,V.str `z,V.str (aB "t2")]]:=⟨[d1,d2,d3],s_p0 _ _ e_da,bp.cons ((s_d2.trans (s_d3.trans (s_da.trans s_p0))) _ _ e_d1) (bp.cons ((s_d3.trans (s_da.trans s_p0)) _ _ e_d2) (bp.one ((s_da.trans s_p0) _ _ e_d3)))⟩;refine mi e2 λq1 H9 s9 h9=>?_;rw[show jk `bm none (aA 2)=[V.str x1,V.str x2] from cut2 _ _ _ _] at h9;refine jj (s9 _ _ e_p0) h9 (by show (4:Nat)≤sizeLine;decide) λq2 HA sA hA2=>?_;refine ⟨by show (1:Nat)≤sizeLine;decide,λq3 h_q3=>?_⟩;have s_q3:=ab h_q3 `eD;have e_q3:upd HA q3 `eD q3=aA `eD:=aa;generalize upd HA q3 `eD=HB at s_q3 e_q3 ⊢;refine jj (s_q3 _ _ hA2) e_q3 (by show (5:Nat)≤sizeLine;decide) λq4 HC sC hC=>?_;have s8C:=s9.trans (sA.trans (s_q3.trans sC));refine mi (s8C _ _ e2) λq5 HD' sD hD5=>?_;rw[show jk `bm (aA 2) none=[V.str x3,V.str x4] from Am [V.str x1,V.str x2,V.str x3,V.str x4] 2 0 (by show (2:Nat)≤4;decide)] at hD5;refine jj (sD _ _ hC) hD5 (by show (7:Nat)≤sizeLine;decide) λq6 HE sE hE=>?_;have s8E:=s8C.trans (sD.trans sE);refine ⟨by show (2:Nat)≤sizeLine;decide,λt h_t=>?_⟩;have s_t:=ab h_t `cv;have e_t:upd HE t `cv t=aA `cv:=aa;generalize upd HE t `cv=HF at s_t e_t ⊢;exact add t _ _ _ _ (by omega) s1 m1 M1 l1 k1 (s17.trans (s_p0.trans (s8E.trans s_t))) ⟨q6,da,e_t,s_t _ _ hE,(D8.tk (TK.of (s8E.trans s_t)))⟩ (Mk.four (zk x1 `c) (zk x2 `c) (zk x3 `c) (zk x4 `c))
 rintro σ H2 hh;obtain ⟨as,ms,v4,v5,rfl,s2,m2,M2,l2,k2⟩:=(eI _ _ _).mp hh;refine g7 (I 2) ?_ ?_
 ·push_cast [and_true];refine ⟨rfl,df (λ_=>⟨bj m2,ax (v:=.str kinds[0]) (fK s2) (bb (j:=0) (by rw[aa5,aa2 (by omega)];rfl)) ?_⟩) λ_=>keep hh⟩;refine ⟨by show (3:Nat)≤sizeLine;decide,λsa h_sa=>?_⟩;have s_sa:=ab h_sa `bk;have e_sa:upd H2 sa `bk sa=aA `bk:=aa;generalize upd H2 sa `bk=H3 at s_sa e_sa ⊢;refine ⟨by show (3:Nat)≤sizeLine;decide,λd1 h_d1=>?_⟩;have s_d1:=ab h_d1 `bc;have e_d1:upd H3 d1 `bc d1=aA `bc:=aa;generalize upd H3 d1 `bc=H4 at s_d1 e_d1 ⊢;refine ⟨by show (3:Nat)≤sizeLine;decide,λd2 h_d2=>?_⟩;have s_d2:=ab h_d2 `ak;have e_d2:upd H4 d2 `ak d2=aA `ak:=aa;generalize upd H4 d2 `ak=H5 at s_d2 e_d2 ⊢;refine ⟨by show (2:Nat)≤sizeLine;decide,λda h_da=>?_⟩;have s_da:=ab h_da `cw;have e_da:upd H5 da `cw da=aA `cw:=aa;generalize upd H5 da `cw=H6 at s_da e_da ⊢;refine ⟨by show (2:Nat)≤sizeLine;decide,λt h_t=>?_⟩;have s_t:=ab h_t `k;have e_t:upd H6 t `k t=aA `k:=aa;generalize upd H6 t `k=H7 at s_t e_t ⊢;exact add t _ _ _ _ (by omega) s2 m2 M2 l2 k2 (s_sa.trans (s_d1.trans (s_d2.trans (s_da.trans s_t)))) ⟨sa,da,e_t,(s_d1.trans (s_d2.trans (s_da.trans s_t))) _ _ e_sa,[d1,d2],s_t _ _ e_da,bp.cons ((s_d2.trans (s_da.trans s_t)) _ _ e_d1) (bp.one ((s_da.trans s_t) _ _ e_d2))⟩ (Mk.zero (aaj _))
 rintro σ H3 hh;obtain ⟨as,ms,v4,v5,rfl,s3,m3,M3,l3,k3⟩:=(eI _ _ _).mp hh;refine g7 (I 3) ?_ ?_
 ·push_cast [and_true];refine ⟨rfl,df (λ_=>?_) λ_=>keep hh⟩;refine ⟨by show (3:Nat)≤sizeLine;decide,λd1 h_d1=>?_⟩;have s_d1:=ab h_d1 `bH;have e_d1:upd H3 d1 `bH d1=aA `bH:=aa;generalize upd H3 d1 `bH=H4 at s_d1 e_d1 ⊢;refine ⟨by show (4:Nat)≤sizeLine;decide,λd2 h_d2=>?_⟩;have s_d2:=ab h_d2 `as;have e_d2:upd H4 d2 `as d2=aA `as:=aa;generalize upd H4 d2 `as=H5 at s_d2 e_d2 ⊢;refine ⟨by show (3:Nat)≤sizeLine;decide,λd3 h_d3=>?_⟩;have s_d3:=ab h_d3 `bz;have e_d3:upd H5 d3 `bz d3=aA `bz:=aa;generalize upd H5 d3 `bz=H6 at s_d3 e_d3 ⊢;refine ⟨by show (3:Nat)≤sizeLine;decide,λd4 h_d4=>?_⟩;have s_d4:=ab h_d4 `bA;have e_d4:upd H6 d4 `bA d4=aA `bA:=aa;generalize upd H6 d4 `bA=H7 at s_d4 e_d4 ⊢;refine ⟨by show (4:Nat)≤sizeLine;decide,λda h_da=>?_⟩;have s_da:=ab h_da `aZ;have e_da:upd H7 da `aZ da=aA `aZ:=aa;generalize upd H7 da `aZ=H8 at s_da e_da ⊢;have s38:=s_d1.trans (s_d2.trans (s_d3.trans (s_d4.trans s_da)));obtain ⟨j,hj,ej⟩:=Az (drw ns 57 / 18) (n:=kinds.length) (by omega);refine ⟨bj (s38 _ _ m3),kinds.map V.str,.inl (SqL.of (fK (s3.trans s38))),by rw[aa0];omega,ax (v:=.str kinds[j]) (fK (s3.trans s38)) (by rw[aa0,ej];exact bb (by rw[aa5,aa2 hj];rfl)) ?_⟩;refine ⟨by show (3:Nat)≤sizeLine;decide,λsa h_sa=>?_⟩;have s_sa:=ab h_sa `bj;have e_sa:upd H8 sa `bj sa=aA `bj:=aa;generalize upd H8 sa `bj=H9 at s_sa e_sa ⊢;refine ⟨by show (2:Nat)≤sizeLine;decide,λt h_t=>?_⟩;have s_t:=ab h_t `k;have e_t:upd H9 t `k t=aA `k:=aa;generalize upd H9 t `k=HA at s_t e_t ⊢;have s9A:=s_sa.trans s_t;exact add t _ _ _ _ (by omega) s3 m3 M3 l3 k3 (s38.trans s9A) ⟨sa,da,e_t,s_t _ _ e_sa,[d1,d2,d3,d4],s9A _ _ e_da,bp.cons ((s_d2.trans (s_d3.trans (s_d4.trans (s_da.trans s9A)))) _ _ e_d1) (bp.cons ((s_d3.trans (s_d4.trans (s_da.trans s9A))) _ _ e_d2) (bp.cons ((s_d4.trans (s_da.trans s9A)) _ _ e_d3) (bp.one ((s_da.trans s9A) _ _ e_d4))))⟩ (Mk.twice (aaj hj))
 rintro σ H4 hh;obtain ⟨as,ms,v4,v5,rfl,s4,m4,M4,l4,k4⟩:=(eI _ _ _).mp hh;refine g7 (I 4) ?_ ?_
 ·push_cast [and_true];refine ⟨rfl,df (λ_=>⟨bj m4,?_⟩) λ_=>keep hh⟩;refine ⟨by show (3:Nat)≤sizeLine;decide,λsa h_sa=>?_⟩;have s_sa:=ab h_sa `bB;have e_sa:upd H4 sa `bB sa=aA `bB:=aa;generalize upd H4 sa `bB=H5 at s_sa e_sa ⊢;refine ⟨by show (3:Nat)≤sizeLine;decide,λd1 h_d1=>?_⟩;have s_d1:=ab h_d1 `ak;have e_d1:upd H5 d1 `ak d1=aA `ak:=aa;generalize upd H5 d1 `ak=H6 at s_d1 e_d1 ⊢;refine ⟨by show (1:Nat)≤sizeLine;decide,λda h_da=>?_⟩;have s_da:=ab h_da `P;have e_da:upd H6 da `P da=aA `P:=aa;generalize upd H6 da `P=H7 at s_da e_da ⊢;refine ⟨by show (2:Nat)≤sizeLine;decide,λt h_t=>?_⟩;have s_t:=ab h_t `k;have e_t:upd H7 t `k t=aA `k:=aa;generalize upd H7 t `k=H8 at s_t e_t ⊢;exact add t _ _ _ _ (by omega) s4 m4 M4 l4 k4 (s_sa.trans (s_d1.trans (s_da.trans s_t))) ⟨sa,da,e_t,(s_d1.trans (s_da.trans s_t)) _ _ e_sa,[d1],s_t _ _ e_da,bp.one `d0⟩ Mk.vzero
 rintro σ H5 hh;obtain ⟨as,ms,v4,v5,rfl,s5,m5,M5,l5,k5⟩:=(eI _ _ _).mp hh;push_cast [and_true];exact q ml as ms H5 s5 hml m5 M5 l5 k5
noncomputable abbrev qu:Stmt:=top 43
theorem Lf:av ["script","kinds","made","k","word","some","rules","pair","kind","number","deeds","price","at"] ["script"] (ae qu):=⟨rfl,rfl,rfl,by decide+kernel,rfl,by decide+kernel,by decide+kernel⟩
theorem Qv (G:Gs w K mg) (h_law_draw:Has P w K mg base k "_law_draw" ["script","k"] (jw K)) (h_law_more:Has P w K mg base k "_law_more" ["script","kinds"] (x5 K)) (h_law_number:Has P w K mg base k "_law_number" ["draw"] vi) (h_law_price:Has P w K mg base k "_law_price" ["draw"] uv) (h_law_shape:Has P w K mg base k "_law_shape" ["draw","more","kinds"] t4) (h_law_word:Has P w K mg base k "_law_word" ["script","i"] (vj K)) (D:Def K mg "_law_book" qu ["script"]):Has P w K mg base (k+1) "_law_book" ["script"] (ya K):=by
 refine D.has Lf (λvs H Q E h=>?_) (λf cdv A outer s H vs Q E hr h=>?_)
 ·obtain ⟨_,_,rfl,_,_,_⟩:=h;rfl
 have nd:=Lf.nd;have hu:=b8 hr;have hu0:=aaf hu;obtain ⟨a,ns,rfl,hA,hl,q⟩:=h;have m_enumerate:=G.m_enumerate;have m_len:=G.m_len;have m_range:=G.m_range;have m_tuple:=G.m_tuple;refine ⟨_,(A5 (BM 1 nd (BA ["k"] ["script"] [0] `Y `l) (BU m_range (A1 (A4 (AM 0) (A2 0) (A4 (AI 0) (AD h_law_draw hr (A1 (AJ 0) `ce)) (A2 0))) (A3 0))) (λ_ _ _=>(B8 0 (show abj (["k","script"]:List Str) by decide+kernel))) (λ_ _ _=>(@xj _)) (λ_ _ _=>(AD h_law_word hr (A1 (AJ 1) `a2)))) (A5 (A9 2 nd (AR (A1 `dk (A1 `dk (A3 0))))) (A5 (AZ (C1 m_enumerate (A1 (AR (AW (AC `N))) (A3 0))) (BN 2 (B6 (AQ 3 nd (by first | exact ab6 rfl | exact ab5 rfl)) (B6 (AQ 4 nd (by first | exact ab6 rfl | exact ab5 rfl)) (@jq _)))) (A7 (AG (AH (@ko _) (A4 (AI 0) (AD h_law_draw hr (A1 (AJ 0) (A1 (A4 (AM 0) (A2 0) (A0 3)) (A3 0)))) (A2 0)) (A2 0) (AF 0)) (A5 (A9 5 nd (A8 (A1 (A6 (AL 0) (A0 1) (A4 (AI 0) (A4 (AT 0) (AD h_law_draw hr (A1 (AJ 0) (A1 (A4 (AM 0) (A2 0) (A0 3)) (A3 0)))) (A2 0)) (AO (AV 0) m_len dg (A1 (A0 1) (A3 0))))) (A1 (A6 (AL 0) (A0 1) (A2 0)) (A3 0))))) (A7 (AG (AH (AN 0) (A0 4) (AB 0) (AF 0)) (A7 (AU (AS aL aS aT (AY 0) (A0 2) (A1 (A8 (A1 (A4 (B7 0) (A8 (A1 (AB 0) (A3 0))) (BJ (@pf _) (A0 5) (@jr _) (BK (A2 0)))) (A1 (A8 (A1 (A8 (AW (AC (AC (AC (AX 0)))))) (A3 0))) (A3 0)))) (A3 0))))) (A7 (AU (AS aL aS aT (AY 0) (A0 2) (A1 (A8 (A1 (A4 (B7 0) (A8 (A1 (A0 4) (A3 0))) (A0 5)) (A1 (A8 (A1 (A8 (A1 (A0 4) (A1 (AB 0) (A1 (AB 0) (A1 (AB 0) (A3 0)))))) (A3 0))) (A3 0)))) (A3 0)))))))) (AK 0)))) (A5 (A9 2 nd (A4 (@Ii _) (A0 2) (AD h_law_more hr (A1 (AJ 0) (A1 (A0 1) (A3 0)))))) (A5 (AZ (BU m_range (A1 (A4 (AI 0) (AD h_law_draw hr (A1 (AJ 0) (A1 (A2 0) (A3 0)))) (A2 0)) (A3 0))) (AQ 3 nd (by first | exact ab6 rfl | exact ab5 rfl)) (A7 (AU (AS aL aS aT (AY 0) (A0 2) (A1 (AD h_law_shape hr (A1 (AD h_law_draw hr (A1 (AJ 0) (A1 (A4 (AM 0) (A2 0) (A4 (@ju _) (A2 0) (A0 3))) (A3 0)))) (A1 (AD h_law_draw hr (A1 (AJ 0) (A1 (A4 (AM 0) (A2 0) (A4 (@ju _) (A2 0) (A0 3))) (A3 0)))) (A1 (A0 1) (A3 0))))) (A3 0)))))) (A5 (A9 6 nd (AR (A3 0))) (A5 (AZ (C1 m_enumerate (A1 (A0 2) (A3 0))) (BN 2 (B6 (AQ 3 nd (by first | exact ab6 rfl | exact ab5 rfl)) (B6 (AQ 7 nd (by first | exact ab6 rfl | exact ab5 rfl)) (@jq _)))) (A5 (A9 8 nd (A6 (AL 0) (A0 1) (A2 0))) (BE (AG (BO (@O0 _ _ _ _ _ _ _ (AH (@Jz _) (A0 3) (A2 0) (AF 0)) (@Js _ _ _ _ (AH (@Dg _) (A0 3) (A2 0) (AF 0))))) (A7 (A9 8 nd (A6 (AL 0) (A0 1) (A4 (AI 0) (A4 (AT 0) (AD h_law_draw hr (A1 (AJ 0) (A1 (A4 (AM 0) (A2 0) (A0 3)) (A3 0)))) (A2 0)) (AO (AV 0) m_len dg (A1 (A0 1) (A3 0))))))) (AK 0)) (A7 (AU (AS aL aS aT (AY 0) (A0 6) (A1 (A8 (A1 (AD h_law_word hr (A1 (AJ 0) (A1 (A4 (AM 0) (A2 0) (A0 3)) (A3 0)))) (A1 (A0 8) (A1 (AD h_law_price hr (A1 (AD h_law_draw hr (A1 (AJ 0) (A1 (A4 (AM 0) (A2 0) (A0 3)) (A3 0)))) (A3 0))) (A1 (A6 (AA 0) (A0 7) (A2 0)) (A1 (A6 (AA 0) (A0 7) (A2 0)) (A3 0))))))) (A3 0)))))))) (A5 (AZ (BU m_range (A1 (A4 (BC 0) (AO (AV 0) m_len dg (A1 (A0 1) (A3 0))) (A2 0)) (A3 0))) (AQ 3 nd (by first | exact ab6 rfl | exact ab5 rfl)) (A7 (AZ (BF (AR (A1 (A8 (A1 (A0 3) (A1 (A4 (AM 0) (A0 3) (A2 0)) (A3 0)))) (A1 (A8 (A1 (A4 (AM 0) (A0 3) (A2 0)) (A1 (A0 3) (A3 0)))) (A3 0))))) (AQ 7 nd (by first | exact ab6 rfl | exact ab5 rfl)) (A5 (A9 9 nd (AD h_law_number hr (A1 (AD h_law_draw hr (A1 (AJ 0) (A1 (A4 (AM 0) (A2 0) (A0 3)) (A3 0)))) (A3 0)))) (A5 (A9 10 nd (A8 (A1 (A8 (A1 (AB 0) (A1 (AB 0) (A1 (A0 9) (A3 0))))) (A1 (A8 (AW (AC (AC (AC (AC (AX 0))))))) (A1 (A8 (AW (AC (AC (AC (AC (AX 0))))))) (A3 0)))))) (A5 (A9 11 nd (AD h_law_price hr (A1 (AD h_law_draw hr (A1 (AJ 0) (A1 (A4 (AM 0) (A2 0) (AO (AV 0) m_len dg (A1 (A0 6) (A3 0)))) (A3 0)))) (A3 0)))) (A7 (AU (AS aL aS aT (AY 0) (A0 6) (A1 (A8 (A1 (AD h_law_word hr (A1 (AJ 0) (A1 (A4 (AM 0) (A2 0) (AO (AV 0) m_len dg (A1 (A0 6) (A3 0)))) (A3 0)))) (A1 (A6 (AL 0) (A0 1) (A6 (AA 0) (A0 7) (A2 0))) (A1 (A0 11) (A1 (A8 (A1 (A6 (AL 0) (A0 1) (A6 (AA 0) (A0 7) (A2 0))) (A3 0))) (A1 (A0 10) (A3 0))))))) (A3 0))))))))))) (A5 (A9 12 nd (A4 (AI 0) (AD h_law_draw hr (A1 (AJ 0) (A1 (A2 0) (A3 0)))) (AO (AV 0) m_len dg (A1 (A0 6) (A3 0))))) (A7 (AE (A8 (A1 (B0 (BD 0) m_tuple fz (A1 (A0 1) (A3 0))) (A1 (B0 (BD 0) m_tuple fz (A1 (A4 (@Ii _) (BJ (@Lh _) (A0 6) (BK (A0 12)) (@jr _)) (BJ (@Lh _) (A0 6) (@jr _) (BK (A0 12)))) (A3 0))) (A3 0))))))))))))))),?_⟩;rw[show start ["script","kinds","made","k","word","some","rules","pair","kind","number","deeds","price","at"] [.ref a]=[aA (.ref a),none,none,none,none,none,none,none,none,none,none,none,none] from rfl];clear hu hu0 nd hr;push_cast [and_true];have sz:=aV;obtain ⟨mk,hmk1,hmk3,emk⟩:∃mk:Nat,1≤mk∧mk≤3∧1+drw ns 40 % 3=(mk:Int):=⟨(1+drw ns 40 % 3).toNat,by omega,by omega,by omega⟩;refine dc (k:=40) hA hl (by omega) ⟨by decide,by omega,by omega,λkl hkl=>?_⟩;rw[emk];refine Fe (λi ys=>ys=((abh i).map (wd ns)).map V.str) (by show mk < _;omega) hkl rfl (λi ys H1 G' K' hi hP hl2 hS hG hK=>?_) λys H1 hP hl2 hS hkl2=>?_
 ·have hi:i < mk:=hi;push_cast [and_true];rw[Int.zero_add];refine ye (hS.seq hA) hl (by omega) (hK _ _ `az ?_);rw[hP,List.range_succ,aab,aab];rfl
 obtain ⟨kinds,hkd⟩:∃kinds,kinds=(abh mk).map (wd ns):=⟨_,rfl⟩;rw[show (mk:Int).toNat=mk from rfl,←hkd] at hP;subst hP;have kl1:kinds.length=mk:=by rw[hkd,aa0,abw]
 have kat:∀j,(h:j < mk)→kinds[j]?=aA (wd ns j):=λj h=>by rw[hkd,aa5,aeo h];rfl
 refine ⟨by show (1:Nat)≤sizeLine;decide,λsa1 h_sa1=>?_⟩;have s_sa1:=ab h_sa1 `cE;have e_sa1:upd H1 sa1 `cE sa1=aA `cE:=aa;generalize upd H1 sa1 `cE=H2 at s_sa1 e_sa1 ⊢;refine ⟨by show (3:Nat)≤sizeLine;decide,λd1 h_d1=>?_⟩;have s_d1:=ab h_d1 `ba;have e_d1:upd H2 d1 `ba d1=aA `ba:=aa;generalize upd H2 d1 `ba=H3 at s_d1 e_d1 ⊢;refine ⟨by show (1:Nat)≤sizeLine;decide,λda1 h_da1=>?_⟩;have s_da1:=ab h_da1 `P;have e_da1:upd H3 da1 `P da1=aA `P:=aa;generalize upd H3 da1 `P=H4 at s_da1 e_da1 ⊢;refine ⟨by show (2:Nat)≤sizeLine;decide,λm1 h_m1=>?_⟩;have s_m1:=ab h_m1 `ch;have e_m1:upd H4 m1 `ch m1=aA `ch:=aa;generalize upd H4 m1 `ch=H5 at s_m1 e_m1 ⊢;refine ⟨by show (1:Nat)≤sizeLine;decide,λsa2 h_sa2=>?_⟩;have s_sa2:=ab h_sa2 `ed;have e_sa2:upd H5 sa2 `ed sa2=aA `ed:=aa;generalize upd H5 sa2 `ed=H6 at s_sa2 e_sa2 ⊢;refine ⟨by show (3:Nat)≤sizeLine;decide,λd2 h_d2=>?_⟩;have s_d2:=ab h_d2 `aD;have e_d2:upd H6 d2 `aD d2=aA `aD:=aa;generalize upd H6 d2 `aD=H7 at s_d2 e_d2 ⊢;refine ⟨by show (1:Nat)≤sizeLine;decide,λda2 h_da2=>?_⟩;have s_da2:=ab h_da2 `eE;have e_da2:upd H7 da2 `eE da2=aA `eE:=aa;generalize upd H7 da2 `eE=H8 at s_da2 e_da2 ⊢;refine ⟨by show (2:Nat)≤sizeLine;decide,λm2 h_m2=>?_⟩;have s_m2:=ab h_m2 `cg;have e_m2:upd H8 m2 `cg m2=aA `cg:=aa;generalize upd H8 m2 `cg=H9 at s_m2 e_m2 ⊢;refine ⟨by show (2:Nat)≤sizeLine;decide,λml h_ml=>?_⟩;have s_ml:=ab h_ml `cy;have e_ml:upd H9 ml `cy ml=aA `cy:=aa;generalize upd H9 ml `cy=HA at s_ml e_ml ⊢;refine ⟨by show (4:Nat)≤sizeLine;decide,λwl h_wl=>?_⟩;have s_wl:=ab h_wl `at;have e_wl:upd HA wl `at wl=aA `at:=aa;generalize upd HA wl `at=HB at s_wl e_wl ⊢;have s5A:=s_sa2.trans (s_d2.trans (s_da2.trans (s_m2.trans (s_ml.trans s_wl))));have s2A:=s_d1.trans (s_da1.trans (s_m1.trans s5A));have SA:=hS.trans (s_sa1.trans s2A);have MA:cq HB [m1,m2] [([gd],[[V.str `R,V.str `n,V.str (aB "n1")]]),([fj],[[V.str (aB "load"),V.str `n,V.str (aB "v1")]])]:=(cq.one ⟨sa1,da1,s5A _ _ e_m1,s2A _ _ e_sa1,[d1],(s_m1.trans s5A) _ _ e_da1,bp.one ((s_da1.trans (s_m1.trans s5A)) _ _ e_d1)⟩).app (cq.one ⟨sa2,da2,(s_ml.trans s_wl) _ _ e_m2,(s_d2.trans (s_da2.trans (s_m2.trans (s_ml.trans s_wl)))) _ _ e_sa2,[d2],(s_m2.trans (s_ml.trans s_wl)) _ _ e_da2,bp.one ((s_da2.trans (s_m2.trans (s_ml.trans s_wl))) _ _ e_d2)⟩);have mA:=s_wl _ _ e_ml;have fml:H1 ml=none:=(s_sa1.trans (s_d1.trans (s_da1.trans (s_m1.trans (s_sa2.trans (s_d2.trans (s_da2.trans s_m2))))))).free h_ml;have sA1:=s_sa1.trans s2A;have nwm:wl≠ml:=(ao e_ml h_wl).symm;clear s2A s5A e_sa1 e_d1 e_da1 e_m1 e_sa2 e_d2 e_da2 e_m2 s_sa1 s_d1 s_da1 s_m1 s_sa2 s_d2 s_da2 s_m2;obtain ⟨P2,eP2⟩:∃P2:Nat→L2.St→Hp→Prop,∀j σ H',P2 j σ H'↔∃(as:List Addr) (ms:List Md) (v3 v4 v5:Option V),σ=[aA `p,aA `cH,aA (.ref ml),v3,v4,v5,none,none,none,none,none,none,none]∧ag H1 H'∧H' wl=aA `at∧H' ml=aA `e∧cq H' as ms∧ms.length≤2+j∧(∀x∈ms,Mk kinds x.1 x.2)∧1≤ms.length:=⟨_,λ_ _ _=>abv⟩;refine ⟨wl,[V.str `h,V.str `D,V.str `u,V.str `w],rfl,SqL.of e_wl,?_⟩;refine Cs (xs:=[V.str `h,V.str `D,V.str `u,V.str `w]) P2 ((eP2 _ _ _).mpr ⟨[m1,m2],_,none,none,none,rfl,sA1,e_wl,mA,MA,aa3 _,λx hx=>?_,by show (1:Nat)≤2;decide⟩) (λi σ H' _ h=>by obtain ⟨_,_,_,_,_,_,_,z,_⟩:=(eP2 _ _ _).mp h;exact SqL.of z) ?_ ?_
 ·simp only[aan,aac,or_false] at hx;rcases hx with rfl | rfl
  ·exact Mk.any
  ·exact Mk.var
 ·intro j x σ HC p0 hx hh hp0;obtain ⟨as,ms,v3,v4,v5,rfl,sC,wC,mC,MC,lC,kC,pC⟩:=(eP2 _ _ _).mp hh;have hj:j < 4:=(List.getElem?_eq_some_iff.mp hx).1;obtain ⟨w,rfl,hw⟩:∃w:Str,x=.str w∧(w="neg"∨w∈r9):=by
   rcases (show j=0∨j=1∨j=2∨j=3 by omega) with rfl | rfl | rfl | rfl
   ·cases hx;exact ⟨_,rfl,.inr `b⟩
   ·cases hx;exact ⟨_,rfl,.inr `b⟩
   ·cases hx;exact ⟨_,rfl,.inr `b⟩
   ·cases hx;exact ⟨_,rfl,.inl rfl⟩
  refine ie aa rfl ?_;have s0:=ab hp0 (.tup [V.int (j:Int),V.str w]);generalize upd HC p0 (.tup [V.int (j:Int),V.str w])=H0 at s0 ⊢;have sC0:=sC.trans s0;have SC:=hS.trans sC0;push_cast [and_true];refine dc (k:=41+j) (SC.seq hA) hl (by omega) ⟨by decide,?_⟩;refine df (λ_=>dc (k:=41+j) (SC.seq hA) hl (by omega) ⟨by decide,by decide,?_⟩) λ_=>(eP2 _ _ _).mpr ⟨as,ms,_,_,_,rfl,sC0,s0 _ _ wC,s0 _ _ mC,MC.tk (TK.of s0),by omega,kC,pC⟩;obtain ⟨i1,hi1,ei1⟩:=Az (drw ns (41+j) / 8) (n:=kinds.length) (by omega);have k0:=sC0 _ _ hkl2;have hz:0 < kinds.length:=by omega
  refine ⟨kinds.map V.str,.inl (SqL.of k0),by rw[aa0];omega,ax (v:=.str kinds[i1]) k0 (by rw[aa0,ei1];exact bb (by rw[aa5,aa2 hi1];rfl)) (ax (v:=.str kinds[0]) k0 (bb (j:=0) (by rw[aa5,aa2 hz];rfl)) ?_)⟩;refine ⟨by show (2:Nat)≤sizeLine;decide,λso h_so=>?_⟩;have s_so:=ab h_so `br;have e_so:upd H0 so `br so=aA `br:=aa;generalize upd H0 so `br=H2 at s_so e_so ⊢;have s02:=s0.trans s_so;refine ⟨rfl,df (λcn=>⟨bj (s02 _ _ mC),?_⟩) λcn=>⟨bj (s02 _ _ mC),?_⟩⟩
  ·refine ⟨by show (1:Nat)≤sizeLine;decide,λp1 h_p1=>?_⟩;have s_p1:=ab h_p1 `eC;have e_p1:upd H2 p1 `eC p1=aA `eC:=aa;generalize upd H2 p1 `eC=H3 at s_p1 e_p1 ⊢;refine mi (s_p1 _ _ e_so) λq1 H4 s4 h4=>?_;rw[show jk [V.str kinds[i1],V.str kinds[0]] none (aA 1)=[V.str kinds[i1]] from uk [V.str kinds[i1],V.str kinds[0]] 1 (by show (1:Nat)≤2;decide)] at h4;refine jj (s4 _ _ e_p1) h4 (by show (2:Nat)≤sizeLine;decide) λsa H5 s5 h5=>?_;refine ⟨by show (3:Nat)≤sizeLine;decide,λd1 h_d1=>?_⟩;have s_d1:=ab h_d1 `a9;have e_d1:upd H5 d1 `a9 d1=aA `a9:=aa;generalize upd H5 d1 `a9=H6 at s_d1 e_d1 ⊢;refine ⟨by show (1:Nat)≤sizeLine;decide,λda h_da=>?_⟩;have s_da:=ab h_da `P;have e_da:upd H6 da `P da=aA `P:=aa;generalize upd H6 da `P=H7 at s_da e_da ⊢;refine ⟨by show (2:Nat)≤sizeLine;decide,λt h_t=>?_⟩;have s_t:=ab h_t `k;have e_t:upd H7 t `k t=aA `k:=aa;generalize upd H7 t `k=H8 at s_t e_t ⊢;have s8:=s02.trans (s_p1.trans (s4.trans (s5.trans (s_d1.trans (s_da.trans s_t)))));exact wc fml sC mC MC (by omega) s8 ⟨sa,da,e_t,(s_d1.trans (s_da.trans s_t)) _ _ h5,[d1],s_t _ _ e_da,bp.one `d0⟩ λH' s' m' M' kp=>(eP2 _ _ _).mpr ⟨_,_,_,_,_,rfl,s',kp _ _ nwm (s8 _ _ wC),m',M',by rw[aa1,aa4];omega,Ja kC (Mk.neg (aaj hi1)),by rw[aa1,aa4];omega⟩
  ·have hw3:w∈r9:=hw.resolve_left cn;refine ⟨by show (1:Nat)≤sizeLine;decide,λp1 h_p1=>?_⟩;have s_p1:=ab h_p1 (.tup [V.str w]);have e_p1:upd H2 p1 (.tup [V.str w]) p1=aA (.tup [V.str w]):=aa;generalize upd H2 p1 (.tup [V.str w])=H3 at s_p1 e_p1 ⊢;refine jj e_p1 (s_p1 _ _ e_so) (by show (3:Nat)≤sizeLine;decide) λsa H5 s5 h5=>?_;refine ⟨by show (4:Nat)≤sizeLine;decide,λd1 h_d1=>?_⟩;have s_d1:=ab h_d1 `av;have e_d1:upd H5 d1 `av d1=aA `av:=aa;generalize upd H5 d1 `av=H6 at s_d1 e_d1 ⊢;refine ⟨by show (1:Nat)≤sizeLine;decide,λda h_da=>?_⟩;have s_da:=ab h_da `P;have e_da:upd H6 da `P da=aA `P:=aa;generalize upd H6 da `P=H7 at s_da e_da ⊢;refine ⟨by show (2:Nat)≤sizeLine;decide,λt h_t=>?_⟩;have s_t:=ab h_t `k;have e_t:upd H7 t `k t=aA `k:=aa;generalize upd H7 t `k=H8 at s_t e_t ⊢;have s8:=s02.trans (s_p1.trans (s5.trans (s_d1.trans (s_da.trans s_t))));exact wc fml sC mC MC (by omega) s8 ⟨sa,da,e_t,(s_d1.trans (s_da.trans s_t)) _ _ h5,[d1],s_t _ _ e_da,bp.one `d0⟩ λH' s' m' M' kp=>(eP2 _ _ _).mpr ⟨_,_,_,_,_,rfl,s',kp _ _ nwm (s8 _ _ wC),m',M',by rw[aa1,aa4];omega,Ja kC (Mk.two hw3 (aaj hi1) (aaj hz)),by rw[aa1,aa4];omega⟩
 ·intro σ HC hh;obtain ⟨as,ms,v3,v4,v5,rfl,sC,wC,mC,MC,lC,kC,pC⟩:=(eP2 _ _ _).mp hh;have lC:ms.length≤6:=lC;push_cast [and_true];have SC:=hS.trans sC;refine Vr (SC.seq hA) hl (sC _ _ hkl2) (by omega) λm2l bs ms2 HD sD hm2 eD MD lD kD=>?_;have alc:=MC.1;have bld:=MD.1;refine Em (sD _ _ mC) eD (by rw[aa0,aa0];omega) λml2 hml2=>?_;have sE:=ab hml2 `cR;have eE:upd HD ml2 `cR ml2=aA (.lst ((as++bs).map V.ref)):=by rw[aa,aab]
  have ME:=((MC.tk (TK.of sD)).app MD).tk (TK.of sE);have fml2:HC ml2=none:=sD.free hml2;generalize upd HD ml2 `cR=HE at sE eE ME ⊢;have sCE:=sD.trans sE;have SE:=SC.trans sCE;have kE:=sC.trans sCE;obtain ⟨mn,hmn,emn⟩:=Az (drw ns 45) (n:=4) `a;refine dc (k:=45) (SE.seq hA) hl (by omega) ⟨by decide,by omega,by omega,?_⟩;rw[show drw ns 45 % 4=(mn:Int) from emn];obtain ⟨P3,eP3⟩:∃P3:Nat→L2.St→Hp→Prop,∀j σ H',P3 j σ H'↔∃(as:List Addr) (ms:List Md) (v3:Option V),σ=[aA `p,aA `cH,aA (.ref ml2),v3,v4,v5,none,none,none,none,none,none,none]∧ag HC H'∧H' ml2=aA `e∧cq H' as ms∧ms.length≤10+j∧(∀x∈ms,Mk kinds x.1 x.2)∧1≤ms.length:=⟨_,λ_ _ _=>abv⟩;refine rq (lo:=0) P3 ((eP3 _ _ _).mpr ⟨as++bs,ms++ms2,v3,rfl,sCE,eE,ME,by rw[aa1];omega,λx hx=>(List.mem_append.mp hx).elim (kC x) (kD x),by rw[aa1];omega⟩) ?_ ?_
  ·intro j σ HF hj hh;have hj:j < mn:=hj;obtain ⟨as,ms,v3,rfl,sF,mF,MF,lF,kF,pF⟩:=(eP3 _ _ _).mp hh;have SF:=SC.trans sF;push_cast [and_true];refine ⟨bj mF,by unfold zx;omega,?_⟩;rw[show (46:Int)+2*(0+(j:Int))=((46+2*j:Nat):Int) by omega];refine dc (SF.seq hA) hl (by omega) ⟨by unfold zx;omega,?_⟩;rw[show (47:Int)+2*(0+(j:Int))=((47+2*j:Nat):Int) by omega];exact dc (SF.seq hA) hl (by omega) (Q0 ((sC.trans sF) _ _ hkl2) (by omega) (rb _ _) (yi _ _) (rb _ _) (yi _ _) λt sh dd HG hk sG mG=>wc fml2 sF mF MF (by omega) sG mG λH' s' m' M' kp=>(eP3 _ _ _).mpr ⟨_,_,_,rfl,s',m',M',by rw[aa1,aa4];omega,Ja kF hk,by rw[aa1,aa4];omega⟩)
  ·intro σ HF hh;obtain ⟨as,ms,v3,rfl,sF,mF,MF,lF,kF,pF⟩:=(eP3 _ _ _).mp hh;have SF:=SC.trans sF;have lF:ms.length≤13:=by have:(mn:Int).toNat=mn:=rfl;omega
   have kF0:=(sC.trans sF) _ _ hkl2;have alF:=MF.1;push_cast [and_true];refine ⟨aai _,λrl hrl=>?_⟩;have s_rl:=ab hrl `ai;have e_rl:upd HF rl `ai rl=aA `ai:=aa;generalize upd HF rl `ai=H2 at s_rl e_rl ⊢;refine ⟨ml2,as.map V.ref,rfl,SqL.of (s_rl _ _ mF),?_⟩;obtain ⟨P4,eP4⟩:∃P4:Nat→L2.St→Hp→Prop,∀j σ H',P4 j σ H'↔∃(ra:List Addr) (rs:List Rd) (v3 v7 v8:Option V),σ=[aA `p,aA `cH,aA (.ref ml2),v3,v4,v5,aA `da,v7,v8,none,none,none,none]∧ag HF H'∧H' rl=aA (.lst `bO)∧ck H' ra rs∧rs.length=j∧Bh ns kinds rs:=⟨_,λ_ _ _=>abv⟩;refine Cs (xs:=as.map V.ref) P4 ((eP4 _ _ _).mpr ⟨[],[],v3,none,none,rfl,s_rl,e_rl,ck.nil _,rfl,Bh.nil _ _⟩) (λi σ H' _ h=>by obtain ⟨_,_,_,_,_,_,s,_⟩:=(eP4 _ _ _).mp h;exact SqL.of (s _ _ mF)) ?_ ?_
   ·intro j x σ HG p0 hx hh hp0;obtain ⟨ra,rs,w3,v7,v8,rfl,sG,rG,RG,lG,okG⟩:=(eP4 _ _ _).mp hh;rw[aa5] at hx;obtain ⟨mj,hmj,rfl⟩:=Option.map_eq_some_iff.mp hx;have hjl:j < ms.length:=by rw[←alF];exact (List.getElem?_eq_some_iff.mp hmj).1
    have hms:ms[j]?=aA ms[j]:=aa2 hjl;obtain ⟨mj',hmj',hMj⟩:=MF.2 j _ hms;obtain rfl:mj'=mj:=aaa (hmj'.symm.trans hmj);have hkj:=kF _ (aaj hjl);generalize ms[j]=md at hms hMj hkj;obtain ⟨sa,da,j1,j2,j3⟩:=hMj;refine ie aa rfl ?_;have s0:=ab hp0 (.tup [V.int (j:Int),V.ref mj']);generalize upd HG p0 (.tup [V.int (j:Int),V.ref mj'])=H0 at s0 ⊢;have sF0:=sG.trans s0;have S0:=SF.trans sF0;have k0:=sF0 _ _ kF0;have hz:0 < kinds.length:=by omega
    push_cast [and_true];refine ax (v:=.str kinds[0]) k0 (bb (j:=0) (by rw[aa5,aa2 hz];rfl)) ?_;refine g7 (λσ' H'=>∃kd:Str,kd∈kinds∧σ'=[aA `p,aA `cH,aA (.ref ml2),aA (.int (j:Int)),v4,v5,aA `da,aA (.ref mj'),aA `bY,none,none,none,none]∧H0=H') ?_ ?_
    ·push_cast [and_true];obtain ⟨i1,hi1,ei1⟩:=Az (drw ns (60+j) / 4) (n:=kinds.length) (by omega);refine df (λ_=>?_) λ_=>df (λ_=>?_) λ_=>aaj hz;all_goals exact dc (k:=60+j) (S0.seq hA) hl (by omega) ⟨by decide,by decide,kinds.map V.str,.inl (SqL.of k0),by rw[aa0];omega,ax (v:=.str kinds[i1]) k0 (by rw[aa0,ei1];exact bb (by rw[aa5,aa2 hi1];rfl)) ⟨_,aaj hi1,rfl,rfl⟩⟩
    rintro _ _ ⟨kd,hkd',rfl,rfl⟩;push_cast [and_true];refine ⟨bj (s0 _ _ rG),ye (i:=3+j) (S0.seq hA) hl (by omega) (dc (k:=60+j) (S0.seq hA) hl (by omega) (Hi (rb _ _) λx HI sI x1 x2=>af ((sF0.trans sI) _ _ j1) rfl (af ((sF0.trans sI) _ _ j1) rfl ?_)))⟩;refine ⟨by show (5:Nat)≤sizeLine;decide,λt h_t=>?_⟩;have s_t:=ab h_t `ae;have e_t:upd HI t `ae t=aA `ae:=aa;generalize upd HI t `ae=HJ at s_t e_t ⊢;have sJ:=s0.trans (sI.trans s_t);exact Bq (r:=(⟨wd ns (3+j),kd,x,md.1⟩,md.2)) hrl sG rG RG (by omega) sJ ⟨sa,da,e_t,(sG.trans sJ) _ _ j2,j3.tk (TK.of (sG.trans sJ))⟩ λH' s' m' R' kp=>(eP4 _ _ _).mpr ⟨_,_,_,_,_,rfl,s',m',R',by rw[aa1,aa4,lG],okG.snoc (by rw[lG]) hkd' x1 hkj⟩
   ·intro σ HG hh;obtain ⟨ra,rs,w3,v7,v8,rfl,sG,rG,RG,lG,okG⟩:=(eP4 _ _ _).mp hh;rw[aa0,alF] at lG;have SG:=SF.trans sG;have kG:=sG _ _ kF0;push_cast [and_true];obtain ⟨mw,hmw,emw⟩:∃mw:Nat,mw+1=mk∧(((kinds.map V.str).length:Nat):Int) - 1=(mw:Int):=⟨mk - 1,by omega,by rw[aa0,kl1];omega⟩;refine ⟨kinds.map V.str,.inl (SqL.of kG),by omega,by omega,?_⟩;rw[emw];obtain ⟨P5,eP5⟩:∃P5:Nat→L2.St→Hp→Prop,∀j σ H',P5 j σ H'↔∃(ra:List Addr) (rs:List Rd) (v3 v7 v9 v10 v11:Option V),σ=[aA `p,aA `cH,aA (.ref ml2),v3,v4,v5,aA `da,v7,v8,v9,v10,v11,none]∧ag HF H'∧H' rl=aA (.lst `bO)∧ck H' ra rs∧rs.length≤13+2*j∧1≤rs.length∧Bh ns kinds rs:=⟨_,λ_ _ _=>abv⟩;refine rq (lo:=0) P5 ((eP5 _ _ _).mpr ⟨ra,rs,_,_,none,none,none,rfl,sG,rG,RG,by omega,by omega,okG⟩) ?_ ?_
    ·intro j σ HI hj hh;have hj:j < mw:=hj;obtain ⟨ra,rs,w3,w7,v9,v10,v11,rfl,sI,rI,RI,lI,pI,okI⟩:=(eP5 _ _ _).mp hh;push_cast [and_true];refine ⟨by show (2:Nat)≤sizeLine;decide,λq1 h_q1=>?_⟩;have s_q1:=ab h_q1 `ao;have e_q1:upd HI q1 `ao q1=aA `ao:=aa;generalize upd HI q1 `ao=H3 at s_q1 e_q1 ⊢;refine ⟨by show (2:Nat)≤sizeLine;decide,λq2 h_q2=>?_⟩;have s_q2:=ab h_q2 `an;have e_q2:upd H3 q2 `an q2=aA `an:=aa;generalize upd H3 q2 `an=H4 at s_q2 e_q2 ⊢;refine ⟨by show (2:Nat)≤sizeLine;decide,λql h_ql=>?_⟩;have s_ql:=ab h_ql `bJ;have e_ql:upd H4 ql `bJ ql=aA `bJ:=aa;generalize upd H4 ql `bJ=H5 at s_ql e_ql ⊢;have e1:=(s_q2.trans s_ql) _ _ e_q1;have e2:=s_ql _ _ e_q2;have s5:=s_q1.trans (s_q2.trans s_ql);have nql:ql≠rl:=(ao ((s_q1.trans s_q2) _ _ rI) h_ql).symm;obtain ⟨P6,eP6⟩:∃P6:Nat→L2.St→Hp→Prop,∀i σ H',P6 i σ H'↔∃(ra:List Addr) (rs:List Rd) (v7 v9 v10 v11:Option V),σ=[aA `p,aA `cH,aA (.ref ml2),aA (.int (0+(j:Int))),v4,v5,aA `da,v7,v8,v9,v10,v11,none]∧ag HF H'∧H' ql=aA `bJ∧H' q1=aA `ao∧H' q2=aA `an∧H' rl=aA (.lst `bO)∧ck H' ra rs∧rs.length≤13+2*j+i∧1≤rs.length∧Bh ns kinds rs:=⟨_,λ_ _ _=>abv⟩;refine ⟨⟨_,SqL.of e_ql⟩,i9 (xs:=[V.ref q1,V.ref q2]) P6 ((eP6 _ _ _).mpr ⟨ra,rs,_,_,_,_,rfl,sI.trans s5,e_ql,e1,e2,s5 _ _ rI,RI.tk (TK.of s5),by omega,pI,okI⟩) (λi σ H' _ h=>by obtain ⟨_,_,_,_,_,_,_,_,z,_⟩:=(eP6 _ _ _).mp h;exact SqL.of z) ?_ ?_⟩
     ·intro i x σ HK hx hh;obtain ⟨ra,rs,w7,v9,v10,v11,rfl,sK,qK,f1,f2,rK,RK,lK,pK,okK⟩:=(eP6 _ _ _).mp hh;have hi:i < 2:=(List.getElem?_eq_some_iff.mp hx).1;obtain ⟨u,v,qq,rfl,hu,hv,eqq⟩:∃(u v:Nat) (qq:Addr),x=.ref qq∧u < kinds.length∧v < kinds.length∧HK qq=aA (.tup [V.int (u:Int),V.int (v:Int)]):=by
       rcases (show i=0∨i=1 by omega) with rfl | rfl
       ·cases hx
        exact ⟨j,j+1,q1,rfl,by omega,by omega,by rw[f1,show (0+(j:Int))=((j:Nat):Int) by omega,show (j:Int)+1=((j+1:Nat):Int) by omega]⟩
       ·cases hx
        exact ⟨j+1,j,q2,rfl,by omega,by omega,by rw[f2,show (0+(j:Int))=((j:Nat):Int) by omega,show (j:Int)+1=((j+1:Nat):Int) by omega]⟩
      have SK:=SF.trans sK;have ral:=RK.1;push_cast [and_true];rw[show (58:Int)+(0+(j:Int))=((58+j:Nat):Int) by omega];refine dc (SK.seq hA) hl (by omega) (Og (rb _ _) (yi _ _) λx HL sL hx'=>?_);refine ⟨by show (3:Nat)≤sizeLine;decide,λd1 h_d1=>?_⟩;have s_d1:=ab h_d1 `bG;have e_d1:upd HL d1 `bG d1=aA `bG:=aa;generalize upd HL d1 `bG=H6 at s_d1 e_d1 ⊢;refine ⟨by show (4:Nat)≤sizeLine;decide,λd2 h_d2=>?_⟩;have s_d2:=ab h_d2 `aC;have e_d2:upd H6 d2 `aC d2=aA `aC:=aa;generalize upd H6 d2 `aC=H7 at s_d2 e_d2 ⊢;refine ⟨by show (4:Nat)≤sizeLine;decide,λd3 h_d3=>?_⟩;have s_d3:=ab h_d3 `aY;have e_d3:upd H7 d3 `aY d3=aA `aY:=aa;generalize upd H7 d3 `aY=H8 at s_d3 e_d3 ⊢;refine ⟨by show (3:Nat)≤sizeLine;decide,λda h_da=>?_⟩;have s_da:=ab h_da `M;have e_da:upd H8 da `M da=aA `M:=aa;generalize upd H8 da `M=H9 at s_da e_da ⊢;have sK9:=sL.trans (s_d1.trans (s_d2.trans (s_d3.trans s_da)));refine ⟨ra.map V.ref,.inl (SqL.of (sK9 _ _ rK)),?_⟩;rw[aa0,ral];rw[show (75:Int)+(rs.length:Int)=((75+rs.length:Nat):Int) by omega];refine dc ((SK.trans sK9).seq hA) hl (by omega) (Hi (rb _ _) λy HM sM y1 y2=>?_);have sKM:=sK9.trans sM;refine ⟨bj (sKM _ _ rK),ra.map V.ref,.inl (SqL.of (sKM _ _ rK)),?_⟩;rw[aa0,ral];rw[show (3:Int)+(rs.length:Int)=((3+rs.length:Nat):Int) by omega];refine ye ((SK.trans sKM).seq hA) hl (by omega) ?_;have kM:=(sK.trans sKM) _ _ kF0;refine af (sKM _ _ eqq) rfl (ax (v:=.str kinds[u]) kM (bb (by rw[aa5,aa2 hu];rfl)) (af (sKM _ _ eqq) rfl (ax (v:=.str kinds[v]) kM (bb (by rw[aa5,aa2 hv];rfl)) ?_)));refine ⟨by show (1:Nat)≤sizeLine;decide,λsa h_sa=>?_⟩;have s_sa:=ab h_sa `c8;have e_sa:upd HM sa `c8 sa=aA `c8:=aa;generalize upd HM sa `c8=HN at s_sa e_sa ⊢;refine ⟨by show (5:Nat)≤sizeLine;decide,λt h_t=>?_⟩;have s_t:=ab h_t `O;have e_t:upd HN t `O t=aA `O:=aa;generalize upd HN t `O=HO at s_t e_t ⊢;have sMO:=s_sa.trans s_t;have s9O:=sM.trans sMO;have sKO:=sKM.trans sMO;have n1:q1≠rl:=mx f1 rK (by intro z;cases z);have n2:q2≠rl:=mx f2 rK (by intro z;cases z);exact Bq (r:=(⟨wd ns (3+rs.length),kinds[u],y,[V.str kinds[v]]⟩,[[V.str `R,V.str `z,V.int x],[V.str `h,V.str `n,V.str (aB "h1"),V.str `z],[V.str `D,V.str `n,V.str `n,V.str `z]])) hrl sK rK RK (by omega) sKO ⟨sa,da,e_t,s_t _ _ e_sa,[d1,d2,d3],s9O _ _ e_da,bp.cons ((s_d2.trans (s_d3.trans (s_da.trans s9O))) _ _ e_d1) (bp.cons ((s_d3.trans (s_da.trans s9O)) _ _ e_d2) (bp.one ((s_da.trans s9O) _ _ e_d3)))⟩ λH' s' m' R' kp=>(eP6 _ _ _).mpr ⟨_,_,_,_,_,_,rfl,s',kp _ _ nql (sKO _ _ qK),kp _ _ n1 (sKO _ _ f1),kp _ _ n2 (sKO _ _ f2),m',R',by rw[aa1,aa4];omega,by rw[aa1,aa4];omega,okK.snoc rfl (aaj hu) y1 (Mk.way (aaj hv) hx')⟩
     ·intro σ HK hh;obtain ⟨ra,rs,w7,v9,v10,v11,rfl,sK,qK,f1,f2,rK,RK,lK,pK,okK⟩:=(eP6 _ _ _).mp hh;have lK:rs.length≤13+2*j+2:=lK;exact (eP5 _ _ _).mpr ⟨ra,rs,_,_,_,_,_,rfl,sK,rK,RK,by omega,pK,okK⟩
    ·intro σ HI hh;obtain ⟨ra,rs,w3,w7,v9,v10,v11,rfl,sI,rI,RI,lI,pI,okI⟩:=(eP5 _ _ _).mp hh;have lI:rs.length≤17:=by have:(mw:Int).toNat=mw:=rfl;omega
     push_cast [and_true];have SI:=SF.trans sI;have kI:=sI _ _ kF0;have ral:=RI.1;refine dc (k:=39) (SI.seq hA) hl (by omega) ?_;refine ⟨ra.map V.ref,.inl (SqL.of rI),by rw[aa0];omega,kinds.map V.str,.inl ⟨SqL.of kI,λkt hkt=>?_⟩⟩;obtain ⟨at',hlt,hat⟩:=Az (drw ns 39) (n:=ra.length) (by omega);rw[aa0,hat];have sk:=ab hkt (.tup `i);have c1:jk `bO (aA (at':Int)) none=(ra.drop at').map V.ref:=by
      have:=Am `bO at' 0 (by rw[aa0];omega);rw[show ((at':Int)+((0:Nat):Int))=(at':Int) by omega,Nat.add_zero] at this;rw[this,ac6]
     have c2:jk `bO none (aA (at':Int))=(ra.take at').map V.ref:=by rw[uk _ _ (by rw[aa0];omega),adh]
     refine ⟨ra.map V.ref,SqL.of (sk _ _ rI),λp1 hp1=>?_⟩;rw[c1];have sp1:=ab hp1 (.lst ((ra.drop at').map V.ref));refine ⟨ra.map V.ref,SqL.of (sp1 _ _ (sk _ _ rI)),λp2 hp2=>?_⟩;rw[c2];have sp2:=ab hp2 (.lst ((ra.take at').map V.ref));refine Em (sp2 _ _ aa) aa (by rw[aa0,aa0,aau,ab1];omega) λp3 hp3=>⟨_,.inl ⟨SqL.of aa,λrt hrt=>⟨by show (2:Nat)≤sizeLine;decide,λbt hbt=>?_⟩⟩⟩;have sp3:=ab hp3 (.lst ((ra.drop at').map V.ref++(ra.take at').map V.ref));have srt:=ab hrt (.tup ((ra.drop at').map V.ref++(ra.take at').map V.ref));have sbt:=ab hbt (.tup [V.ref kt,V.ref rt]);have s8:=sk.trans (sp1.trans (sp2.trans (sp3.trans (srt.trans sbt))));subst hkd;refine q bt _ (rs.drop at'++rs.take at') _ (SI.trans s8) ⟨kt,rt,ra.drop at'++ra.take at',aa,(sp1.trans (sp2.trans (sp3.trans (srt.trans sbt)))) _ _ aa,?_,((RI.drop at').app (RI.take at')).tk (TK.of s8)⟩ (bd_of hmk1 hmk3 okI pI lI at');rw[aab];exact sbt _ _ aa
noncomputable abbrev si:Stmt:=top 44
theorem Kv:av ["script","at","limit","words","due","draw","name"] ["script","at","limit"] (ae si):=⟨rfl,rfl,rfl,by decide+kernel,rfl,by decide+kernel,by decide+kernel⟩
theorem Py (G:Gs w K mg) (h_law_draw:Has P w K mg base k "_law_draw" ["script","k"] (jw K)) (h_law_number:Has P w K mg base k "_law_number" ["draw"] vi) (h_law_word:Has P w K mg base k "_law_word" ["script","i"] (vj K)) (D:Def K mg "_law_term" si ["script","at","limit"]):Has P w K mg base (k+1) "_law_term" ["script","at","limit"] (x8 K):=by
 refine D.has Kv (λvs H Q E h=>?_) (λf cdv A outer s H vs Q E hr h=>?_)
 ·obtain ⟨_,_,_,_,rfl,_,_,_,_,_,_⟩:=h;rfl
 have nd:=Kv.nd;have hu:=b8 hr;have hu0:=aaf hu;obtain ⟨a,ns,p,m,rfl,hA,hl,hp,hm1,hm2,q⟩:=h;have m_len:=G.m_len;have m_tuple:=G.m_tuple;refine ⟨_,(A5 (A9 3 nd `bh) (A5 (A9 4 nd (A2 0)) (A5 (BV (AH (@ko _) (A0 4) (A2 0) (AF 0)) (A5 (A9 5 nd (AD h_law_draw hr (A1 (A0 0) (A1 (A4 (AM 0) (A0 1) (AO (AV 0) m_len dg `aI)) (A3 0))))) (A5 (A9 4 nd (A4 (BC 0) (A0 4) (A2 0))) (A7 (AG (BO (@O0 _ _ _ _ _ _ _ (AH (@Jz _) (A4 (AM 0) (AO (AV 0) m_len dg `aI) (A0 4)) (A0 2) (AF 0)) (@Js _ _ _ _ `dT))) (A5 (A9 6 nd (AD h_law_word hr (A1 (A0 0) (A1 (A6 (AL 0) (AR (AW (B9 (B9 (B9 (B9 (AX 0))))))) `b0) (A3 0))))) (A7 (AU (AS aL aS aT (AY 0) (A0 3) (A1 (A6 (AL 0) (AR (A1 (AD h_law_number hr (A1 (A4 (AT 0) (A0 5) (A2 0)) (A3 0))) (A1 `b0 `a1))) `b0) (A3 0)))))) (A7 (AG `dT (A5 (AU (AS aL aS aT (AY 0) (A0 3) `a0)) (A7 (A9 4 nd (A4 (AM 0) (A0 4) (A2 0))))) (A5 (AU (AS aL aS aT (AY 0) (A0 3) (A1 (A6 (AL 0) (AR (AW `N)) (A4 (BC 0) (A4 (AI 0) (A0 5) (A2 0)) (A2 0))) (A3 0)))) (A7 (A9 4 nd (A4 (AM 0) (A0 4) (A2 0)))))))))))) (A7 (AE (B0 (BD 0) m_tuple fz `aI)))))),?_⟩;rw[show start ["script","at","limit","words","due","draw","name"] [.ref a,.int (p:Int),.int (m:Int)]=[aA `p,aA `Z,aA (.int (m:Int)),none,none,none,none] from rfl];clear hu hu0 nd hr;push_cast [and_true];have sz:=aV;refine ⟨aai _,λl hl0=>?_⟩;have hA0:=hA;have hll:=hl0;obtain ⟨P1,eP1⟩:∃P1:L2.St→Hp→Prop,∀σ H',P1 σ H'↔∃(ws:List V) (due:Nat) (v1 v2:Option V),σ=[aA `p,aA `Z,aA (.int (m:Int)),aA `B,aA (.int (due:Int)),v1,v2]∧ag H H'∧H' l=aA (.lst ws)∧(∀v∈ws,twW v∧WdF ns v)∧pend 1 (ws.map arV)=aA due∧ws.length+due≤m+2:=⟨_,λ_ _=>abv⟩;refine nr P1 (λσ H'=>m+3 - Aj H' l) ?_ ?_ ?_
 ·exact (eP1 _ _).mpr ⟨[],1,none,none,rfl,ab hll _,aa,(λ_ h=>nomatch h),rfl,by show 0+1≤m+2;omega⟩
 ·intro σ H' hh;obtain ⟨ws,due,v1,v2,rfl,s1,hl',hw,hpd,hr⟩:=(eP1 _ _).mp hh;push_cast [and_true];refine df (λhdue=>⟨ws,.inl (SqL.of hl'),?_⟩) λhdue=>?_
  ·rw[show ((p:Int)+(ws.length:Int))=((p+ws.length:Nat):Int) by omega];refine dc (s1.seq hA) hl (by omega) ⟨ws,.inl (SqL.of hl'),?_⟩;have c0:=rb ns (p+ws.length);have c1:=yi ns (p+ws.length);generalize drw ns (p+ws.length)=c at c0 c1;have app:∀(v:V) (H2:Hp) (dd:Int),twW v→WdF ns v→dd=(due:Int) - 1+(arV v:Int)→ws.length+due+arV v≤m+2→ag H' H2→
     ∀w1 w2,ou `B [v] H2 λ_ H3=>P1 [aA `p,aA `Z,aA (.int (m:Int)),aA `B,aA (.int dd),w1,w2] H3∧m+3 - Aj H3 l < m+3 - Aj H' l:=by
    intro v H2 dd hv hv2 hdd hroom s2 w1 w2;refine ⟨l,ws,v,rfl,rfl,s2 _ _ hl',by omega,(eP1 _ _).mpr ⟨ws++[v],due - 1+arV v,w1,w2,by rw[show dd=((due - 1+arV v:Nat):Int) by omega],(s1.trans s2).upd hll _,aa,λx hx=>?_,?_,?_⟩,?_⟩
    ·rcases List.mem_append.mp hx with h | h
     ·exact hw x h
     ·rw[List.mem_singleton.mp h];exact ⟨hv,hv2⟩
    ·rw[aab];exact L6 _ _ _ _ hpd (by omega)
    ·rw[aa1,aa4];omega
    ·rw[ke aa,ke hl',aa1,aa4];omega
   refine iteOr `a rfl ?_ λr1 r0=>⟨by decide,rfl,df (λr1=>⟨bj hl',?_⟩) λr2=>⟨bj hl',by show (3:Nat)≤sizeLine;decide,λp2 hp2=>⟨by decide,?_⟩⟩⟩
   ·refine ⟨by show (4:Nat)≤sizeLine;decide,λp1 hp1=>⟨by decide,by decide,?_⟩⟩;obtain ⟨y,hy,hym⟩:=vg [V.int 21,V.int 22,V.int 0,V.int 4] (c / 15 % 4) (ab8 _ `a) (by show c / 15 % 4 < 4;omega);obtain ⟨i,rfl,hi⟩:∃i:Nat,y=V.int (i:Int)∧i∈[21,22,0,4]:=by
     simp only[aan,aac,or_false] at hym;rcases hym with rfl | rfl | rfl | rfl
     ·exact ⟨21,rfl,by decide⟩
     ·exact ⟨22,rfl,by decide⟩
     ·exact ⟨0,rfl,by decide⟩
     ·exact ⟨4,rfl,by decide⟩
    have hi':i≤1000:=by
     simp only[aan,aac,or_false] at hi;omega
    have s2:=ab hp1 (.lst [V.int 21,V.int 22,V.int 0,V.int 4]);refine ax aa hy (ye ((s1.trans s2).seq hA) hl hi' ⟨bj (s2 _ _ hl'),by decide,by decide,Og (by omega) (by omega) λx H3 s3 hx=>⟨by decide,by decide,by show (3:Nat)≤sizeLine;decide,λp2 hp2=>⟨by decide,by decide,?_⟩⟩⟩);obtain ⟨f3,hf3,hm3⟩:=vg [V.int x,V.int (c / 15 % 3),V.str `ds] (c / 5 % 3) (ab8 _ `a) (by show c / 5 % 3 < 3;omega);obtain ⟨t3,a3,w3⟩:twW f3∧arV f3=0∧WdF ns f3:=by
     simp only[aan,aac,or_false] at hm3;rcases hm3 with rfl | rfl | rfl
     ·exact ⟨twW_int _,rfl,.inl ⟨_,rfl,hx⟩⟩
     ·exact ⟨twW_int _,rfl,.inl ⟨_,rfl,aao (show (c / 15 % 3).natAbs < 3 by omega) `a⟩⟩
     ·exact ⟨twW_name (Fv ns i).1,(Fv ns i).1.1,.inr (.inl ⟨i,hi,rfl⟩)⟩
    exact ax aa hf3 (app f3 _ ((due:Int) - 1) t3 w3 (by rw[a3];omega) (by rw[a3];omega) (s2.trans (s3.trans (ab hp2 _))) _ _)
   ·have an:arV (.str `w)=1:=yn;exact app (.str `w) H' _ (twW_op `b) (.inr (.inr (by rw[an];decide))) (by rw[an];omega) (by rw[an];omega) `az _ _
   ·obtain ⟨y,hy,hym⟩:=vg [V.str `h,V.str `D,V.str `u] (c % 5 - 2) (by omega) (by show c % 5 - 2 < 3;omega);obtain ⟨z,rfl,a2⟩:∃z,y=V.str z∧arS z=2:=by
     simp only[aan,aac,or_false] at hym;rcases hym with rfl | rfl | rfl
     ·exact ⟨_,rfl,by decide+kernel⟩
     ·exact ⟨_,rfl,by decide+kernel⟩
     ·exact ⟨_,rfl,by decide+kernel⟩
    have a2':arV `J=2:=a2;exact ax aa hy (app `J _ _ (twW_op (by omega)) (.inr (.inr (by rw[a2'];decide))) (by rw[a2'];omega) (by rw[a2'];omega) (ab hp2 _) _ _)
  ·have d0:due=0:=by omega
   subst d0;exact ⟨ws,.inl ⟨SqL.of hl',λt ht=>q t _ ws (s1.trans (ab ht _)) aa ⟨λv hv=>(hw v hv).1,hpd,by omega⟩ (by omega) λv hv=>(hw v hv).2⟩⟩
 ·intro σ H' Q1 Q2 hq h;simp only[Gq,tOp,rI0,pj,tC,qz,i6,tB] at h ⊢;obtain ⟨v,hv,i,j,e1,e2,k,e3,h⟩:=h;exact ⟨v,hv,i,j,e1,e2,k,e3,hq _ _ h⟩
noncomputable abbrev zo:Stmt:=top 45
theorem R1:av ["words","place","due"] ["words","place"] (ae zo):=⟨rfl,rfl,rfl,by decide+kernel,rfl,by decide+kernel,by decide+kernel⟩
theorem Vj (G:Gs w K mg) (D:Def K mg "_law_end" zo ["words","place"]):Has P w K mg base (k+1) "_law_end" ["words","place"] Dn:=by
 refine D.has R1 (λvs H Q E h=>?_) (λf cdv A outer s H vs Q E hr h=>?_)
 ·obtain ⟨_,_,_,rfl,_,_,_,_⟩:=h;rfl
 have nd:=R1.nd;have hu:=b8 hr;have hu0:=aaf hu;obtain ⟨t,ws,p,rfl,hW,tw,hp,q⟩:=h;have m_int:=G.m_int;refine ⟨_,(A5 (A9 2 nd (A2 0)) (A5 (BV (AH (@ko _) (A0 2) (A2 0) (AF 0)) (A5 (A9 2 nd (A4 (AM 0) (A4 (AM 0) (A4 (BC 0) (A0 2) (A2 0)) (A4 (@ju _) (A2 0) (B0 (@As _) m_int Gz (A1 (@C5 _ _ _ _ _ _ _ _ (@ja _) (A6 (AA 0) (A0 0) (A0 1)) (A8 (AW `N)) `by) (A3 0))))) (B0 (@As _) m_int Gz (A1 (BW (AN 0) (A6 (AA 0) (A0 0) (A0 1)) (AB 0) (AF 0)) (A3 0))))) (A7 (A9 1 nd (A4 (AM 0) (A0 1) (A2 0)))))) (A7 (AE (A0 1))))),?_⟩;rw[show start ["words","place","due"] [.ref t,.int (p:Int)]=[aA `I,aA `Z,none] from rfl];clear hu hu0 nd hr;push_cast [and_true];have sz:=aV;obtain ⟨n,he⟩:=tw.eat hp;have hn:=rh _ _ _ he;rw[aa0,aau] at hn;refine nr (λσ H'=>∃(d j:Nat),σ=[aA `I,aA (.int ((p+j:Nat):Int)),aA (.int (d:Int))]∧ag H H'∧j≤n∧eat d ((ws.drop (p+j)).map arV)=aA (n - j))
  (λσ _=>p+n - intAt σ 1) ⟨1,0,rfl,ag.refl _,aai _,he⟩ ?_ ?_
 ·rintro σ H' ⟨d,j,rfl,sH,hj,hd⟩;push_cast [and_true];refine df (λc=>?_) λc=>?_
  ·obtain ⟨d',rfl⟩:∃d',d=d'+1:=⟨d - 1,by omega⟩;have hpos:=xr _ _ _ hd;have hlt:p+j < ws.length:=by omega
   have ed:ws.drop (p+j)=ws[p+j]::ws.drop (p+j+1):=aaw hlt;have hat:atI ws ((p:Int)+(j:Int))=aA ws[p+j]:=by rw[show (p:Int)+(j:Int)=((p+j:Nat):Int) by omega];exact bb (aa2 hlt)
   obtain ⟨hxw,hxa,hxv⟩:=tw.w _ (aaj hlt);rw[ed,aas,ff] at hd;obtain ⟨m,hm,em⟩:=Option.map_eq_some_iff.mp hd;generalize ws[p+j]=x at hat hxw hxa hxv hm;refine af (sH _ _ hW) hat ?_;push_cast [and_true];refine ⟨by show (3:Nat)≤sizeLine;decide,λp1 hp1=>⟨p1,_,rfl,.inr `e1,hxw.flat,rfl,?_⟩⟩;have s1:=sH.trans (ab hp1 `aQ);refine ⟨.inl ⟨by decide,by decide⟩,af (s1 _ _ hW) hat ⟨hxw.sc _,⟨d'+arV x,j+1,by omega,ar_sum hxw d',s1,by omega,?_⟩,?_⟩⟩
   ·rw[show n - (j+1)=m by omega];exact hm
   ·show p+n - ((p:Int)+(j:Int)+1).toNat < p+n - ((p:Int)+(j:Int)).toNat
    omega
  ·have d0:d=0:=by omega
   subst d0;rw[jd] at hd;have:n - j=0:=(aaa hd).symm;have e:p+j=endAt ws p:=by
    unfold endAt;rw[he];show p+j=p+n
    omega
   rw[e];exact q H' sH
 ·intro σ H' Q1 Q2 hq h;simp only[Gq,tOp,rI0,pj,tC,qz,i6,tB] at h ⊢;obtain ⟨v,hv,i,j,e1,e2,k,e3,h⟩:=h;exact ⟨v,hv,i,j,e1,e2,k,e3,hq _ _ h⟩
noncomputable abbrev ze:Stmt:=top 46
theorem Ql:av ["kinds","shape","words","place","holes","numbers","names","word","here"] ["kinds","shape","words","place"] (ae ze):=⟨rfl,rfl,rfl,by decide+kernel,rfl,by decide+kernel,by decide+kernel⟩
theorem Tz (G:Gs w K mg) (h_law_end:Has P w K mg base k "_law_end" ["words","place"] Dn) (D:Def K mg "_law_fit" ze ["kinds","shape","words","place"]):Has P w K mg base (k+1) "_law_fit" ["kinds","shape","words","place"] Di:=by
 refine D.has Ql (λvs H Q E h=>?_) (λf cdv A outer s H vs Q E hr h=>?_)
 ·obtain ⟨_,_,_,_,_,_,_,rfl,_,_,_,_,_,_,_,_,_,_⟩:=h;rfl
 have nd:=Ql.nd;have hu:=b8 hr;have hu0:=aaf hu;obtain ⟨kt,st,wt,kinds,sh,ws,p,rfl,hK,hS,hW,hk,hs,hTm,hsl,tw,hp,q⟩:=h;have m_int:=G.m_int;have m_isinstance:=G.m_isinstance;have m_tuple:=G.m_tuple;refine ⟨_,(A5 (A9 4 nd `bh) (A5 (A9 5 nd `bh) (A5 (A9 6 nd `bh) (A5 (AZ (BB (A0 1)) (AQ 7 nd (by first | exact ab6 rfl | exact ab5 rfl)) (A5 (A9 8 nd (A6 (AA 0) (A0 2) (A0 3))) (A5 (AG (BP (@ja _) (A0 7) (A0 0)) (A5 (AU (AS aL aS aT (AY 0) (A0 4) (A1 (A0 3) (A3 0)))) (A5 (A9 3 nd (AD h_law_end hr (A1 (A0 2) (A1 (A0 3) (A3 0))))) (A7 (@E8 _ _)))) (AK 0)) (BE (AG (BO (BX (AH (AN 0) (A0 7) (AB 0) (AF 0)) (@xx _ _ _ _ (BQ (AO (@ig _) m_isinstance gm (A1 (A0 8) (A1 (BY m_int Gz) (A3 0)))))))) (A7 (AU (AS aL aS aT (AY 0) (A0 5) (A1 (A0 8) (A3 0))))) (A7 (AG (BO (BX (AH (AN 0) (A0 7) (AB 0) (AF 0)) (BX (@Ph _ _ _ _ (BQ (AO (@ig _) m_isinstance gm (A1 (A0 8) (A1 (BY m_int Gz) (A3 0)))))) (@xx _ _ _ _ (BP (@uz _) (A0 8) (A8 (AW (AC (AC (AC (AC (AX 0)))))))))))) (A7 (AU (AS aL aS aT (AY 0) (A0 6) (A1 (A0 8) (A3 0))))) (A7 (AG (BO (@O0 _ _ _ _ _ _ _ (BP (@ja _) (A0 7) (A8 (A1 (AB 0) (A1 (AB 0) (A3 0))))) (@Js _ _ _ _ (AH (@N5 _) (A0 8) (A0 7) (AF 0))))) (A7 (AE (@Hz _ _ _))) (AK 0)))))) (A7 (A9 3 nd (A4 (AM 0) (A0 3) (A2 0)))))))) (A7 (AE (A8 (A1 (B0 (BD 0) m_tuple fz (A1 (A0 4) (A3 0))) (A1 (B0 (BD 0) m_tuple fz (A1 (A0 5) (A3 0))) (A1 (B0 (BD 0) m_tuple fz (A1 (A0 6) (A3 0))) (A3 0))))))))))),?_⟩;rw[show start ["kinds","shape","words","place","holes","numbers","names","word","here"] [.ref kt,.ref st,.ref wt,.int (p:Int)]=[aA (.ref kt),aA (.ref st),aA (.ref wt),aA (.int (p:Int)),none,none,none,none,none] from rfl];clear hu hu0 nd hr;push_cast [and_true];have sz:=aV;have hw:=λv hv=>(tw.w v hv).1;obtain ⟨n,he⟩:=tw.eat hp;refine ⟨aai _,λl1 h1=>⟨aai _,λl2 h2=>⟨aai _,λl3 h3=>?_⟩⟩⟩;have n21:l2≠l1:=(ao aa h2).symm;have n31:l3≠l1:=(ao (ab h2 _ _ _ aa) h3).symm;have n32:l3≠l2:=(ao aa h3).symm;have S1:=ab h1 `ai;have f2:=S1.free h2;have S2:=S1.trans (ab h2 `ai);have f3:=S2.free h3;have S3:=S2.trans (ab h3 `ai);have U3:qh (upd (upd (upd H l1 `ai) l2 `ai) l3 `ai) l1 l2 l3 ⟨[],[],[]⟩:=⟨by rw[ah n31.symm,ah n21.symm,aa];rfl,by rw[ah n32.symm,aa],by rw[aa]⟩;generalize upd (upd (upd H l1 `ai) l2 `ai) l3 `ai=H4 at S3 U3 ⊢;obtain ⟨P1,eP1⟩:∃P1:Nat→L2.St→Hp→Prop,∀i σ H',P1 i σ H'↔∃(q':Nat) (u:Und) (v6 v7:Option V),σ=[aA `eH,aA `cG,aA `bd,aA (.int (q':Int)),aA (.ref l1),aA (.ref l2),aA (.ref l3),v6,v7]∧ag H H'∧qh H' l1 l2 l3 u∧bu kinds ws (sh.drop i) q' u=bu kinds ws sh p ⟨[],[],[]⟩∧(u.hs.length≤i∧u.ns.length≤i∧u.vs.length≤i)∧xi u∧∃d m,pend d ((sh.drop i).map arV)=aA 0∧eat d ((ws.drop q').map arV)=aA m:=⟨_,λ_ _ _=>abv⟩;refine ⟨⟨sh,SqT.of (S3 _ _ hS)⟩,ic (xs:=sh) P1 ((eP1 _ _ _).mpr ⟨p,⟨[],[],[]⟩,none,none,rfl,S3,U3,rfl,⟨aai _,aai _,aai _⟩,⟨(λ_ h=>nomatch h),(λ_ h=>nomatch h)⟩,1,n,hTm,he⟩) (λi σ H' _ h=>by obtain ⟨_,_,_,_,_,s,_⟩:=(eP1 _ _ _).mp h;exact SqT.of (s _ _ hS)) ?_ ?_⟩
 ·intro i v σ H5 hvi hh;refine ob4 `d2 λq' u v6 v7 hh=>?_;have s5:=hh.2.1;have U5:=hh.2.2.1;have e5:=hh.2.2.2.1;have hul:=hh.2.2.2.2.1;have huw:=hh.2.2.2.2.2.1;have hdm:=hh.2.2.2.2.2.2;obtain rfl:=hh.1;clear hh;obtain ⟨d,m,hp5,he5⟩:=hdm;have fin:∀(q2:Nat) (z:Int) (u2:Und) (w6 w7:Option V) (H':Hp),z=(q2:Int)→ag H H'→qh H' l1 l2 l3 u2→bu kinds ws (sh.drop (i+1)) q2 u2=bu kinds ws sh p ⟨[],[],[]⟩→(u2.hs.length≤i+1∧u2.ns.length≤i+1∧u2.vs.length≤i+1)→xi u2→(∃d m,pend d `et=aA 0∧eat d ((ws.drop q2).map arV)=aA m)→P1 (i+1) [aA `eH,aA `cG,aA `bd,aA (.int z),aA (.ref l1),aA (.ref l2),aA (.ref l3),w6,w7] H':=λq2 z u2 w6 w7 H' ez a1 a2 a3 a4 a5 a6=>(eP1 _ _ _).mpr ⟨q2,u2,w6,w7,by rw[ez],a1,a2,a3,a4,a5,a6⟩;have hil:i < sh.length:=(List.getElem?_eq_some_iff.mp hvi).1;have ed:sh.drop i=v::sh.drop (i+1):=by
   rw[aaw hil];congr 1
   rw[aa2 hil] at hvi;exact aaa hvi
  rw[ed] at e5 hp5;obtain ⟨d',rfl⟩:∃d',d=d'+1:=by
   cases d with
   | zero=>cases hp5
   | succ d'=>exact ⟨d',rfl⟩
  have hq:q' < ws.length:=by
   have a1:=xr _ _ _ he5;have a2:=rh _ _ _ he5;rw[aa0,aau] at a2;omega
  have hx:ws[q']?=aA ws[q']:=aa2 hq;obtain ⟨hxw,hxa,hxv⟩:=tw.w _ (aaj hq);have hat:atI ws (q':Int)=aA ws[q']:=bb hx;have hvw:=hs v (aak hvi);have hgd:ws.getD q' .non=ws[q']:=by rw[aa7,hx];rfl
  rw[cv,hgd] at e5;generalize ws[q']=x at hx hxw hxa hxv hat hgd e5;have hul':=u.ua `q q' x hul;have huw':=huw.put hxw `q q';obtain ⟨b1,b2,b3,b4,b5,b6⟩:=lets;have fl:(kinds.map V.str).all kh=true:=List.all_eq_true.mpr λx hx=>by obtain ⟨z,_,rfl⟩:=List.mem_map.mp hx;rfl
  push_cast [and_true];refine af (s5 _ _ hW) hat ?_;push_cast [rIn];refine ⟨_,.inr (SqT.of (s5 _ _ hK)),hvw.flat,fl,df (λcH=>?_) λcH=>?_⟩
  ·have h:ay kinds v=lH:=by
    rcases dj (kinds:=kinds) hvw with ⟨rfl,h⟩ | ⟨rfl,h⟩ | ⟨⟨z,hz,rfl⟩,h⟩ | ⟨h,hno⟩
    ·exact absurd cH (by rw[show inV gd `i=false from hk.out `W];decide)
    ·exact absurd cH (by rw[show inV fj `i=false from hk.out (.inr rfl)];decide)
    ·exact h
    ·exact absurd cH (by rw[hno];decide)
   have hli:lies `q v x=true:=by unfold lies;rw[if_pos h]
   obtain ⟨d2,m2,hp6,he6⟩:=fm hk hvw hx hxw hp5 he5 hli;rw[if_pos hli,if_pos h,h] at e5;rw[if_pos h] at he6;rw[h] at hul' huw';exact cb U5.1 (by rw[aa0];omega) (mkEndF ((s5.upd h1 _) _ _ hW) tw hq λH6 s6=>fin (endAt ws q') _ _ _ _ _ rfl ((s5.upd h1 _).trans s6) ((U5.put1 n21 n31 q' x).same s6) e5 hul' huw' ⟨d2,m2,hp6,he6⟩)
  ·obtain ⟨M,eM⟩:∃M:L2.St→Hp→Prop,∀σ' H',M σ' H'↔∃u2,σ'=[aA `eH,aA `cG,aA `bd,aA (.int (q':Int)),aA (.ref l1),aA (.ref l2),aA (.ref l3),aA v,aA x]∧ag H H'∧qh H' l1 l2 l3 u2∧bu kinds ws (sh.drop (i+1)) (q'+1) u2=bu kinds ws sh p ⟨[],[],[]⟩∧(u2.hs.length≤i+1∧u2.ns.length≤i+1∧u2.vs.length≤i+1)∧xi u2∧(∃d m,pend d `et=aA 0∧eat d ((ws.drop (q'+1)).map arV)=aA m):=⟨_,λ_ _=>abv⟩;refine g7 M ?_ ?_
   ·push_cast [rIn];have nav:¬gd=V.str `a6:=by decide+kernel
    have nva:¬fj=V.str (aB "any"):=by decide+kernel
    refine ⟨hvw.sc _,?_⟩;rcases dj (kinds:=kinds) hvw with ⟨rfl,h⟩ | ⟨rfl,h⟩ | ⟨⟨z,hz,rfl⟩,h⟩ | ⟨h,hno⟩
    ·rw[if_pos (show gd=V.str (aB "any") from rfl)];obtain ⟨k',rfl⟩:=hxw;cases k' with
     | inl i0=>
      have hli:lies (ay kinds gd) gd (kV (bA i0))=true:=by unfold lies;rw[h,if_neg b1,if_pos rfl];rfl
      obtain ⟨d2,m2,hp6,he6⟩:=fm hk hvw hx ⟨_,rfl⟩ hp5 he5 hli;rw[if_pos hli,h,if_neg b1] at e5;rw[h,if_neg b1] at he6;rw[h] at hul' huw';exact ⟨_,.int i0,true,rfl,iteT (cb U5.2.1 (by omega) ((eM _ _).mpr ⟨_,rfl,s5.upd f2 _,U5.put2 n21 n32 q' _,e5,hul',huw',d2,m2,hp6,he6⟩))⟩
     | inr y=>
      have hli:¬lies (ay kinds gd) gd `eT=true:=by unfold lies;rw[h,if_neg b1,if_pos rfl];exact aaq
      rw[if_neg hli] at e5;refine ⟨_,.str y,false,rfl,Hm ⟨hvw.sc _,?_⟩⟩;rw[if_neg nav];refine ⟨by show (2:Nat)≤sizeLine;decide,λpl hpl=>⟨_,.inr `e1,rfl,rfl,?_⟩⟩;have z:=q _ (s5.trans (ab hpl `bC));rw[←e5] at z;rw[if_pos `b];exact z
    ·rw[if_neg nva];refine ⟨hvw.sc _,?_⟩;rw[if_pos (show fj=V.str `a6 from rfl)];have hxw':=hxw;obtain ⟨k',rfl⟩:=hxw;cases k' with
     | inl i0=>
      have hli:¬lies (ay kinds fj) fj (kV (bA i0))=true:=by unfold lies;rw[h,if_neg b2,if_neg b4,if_pos rfl];exact aaq
      rw[if_neg hli] at e5;refine ⟨_,.int i0,true,rfl,Hm ⟨by show (2:Nat)≤sizeLine;decide,λpl hpl=>⟨_,.inr `e1,rfl,rfl,?_⟩⟩⟩;have z:=q _ (s5.trans (ab hpl `bC));rw[←e5] at z;rw[if_pos `b];exact z
     | inr y=>
      refine ⟨_,.str y,false,rfl,iteT ⟨by show (4:Nat)≤sizeLine;decide,λpl hpl=>⟨_,.inr `e1,rfl,rfl,?_⟩⟩⟩;have four:=Sw hxw';have s6:=s5.trans (ab hpl `eN);have U6:=U5.same (ab hpl `eN);by_cases c:0 < arV `eT
      ·have hli:¬lies (ay kinds fj) fj `eT=true:=by
        unfold lies;rw[h,if_neg b2,if_neg b4,if_pos rfl,decide_eq_false (by omega),aeh];decide
       rw[if_neg hli] at e5;rw[if_neg (by rw[show inV `eT [V.str `h,V.str `D,V.str `u,V.str `w]=true from four.mpr c];decide)];refine ⟨by show (2:Nat)≤sizeLine;decide,λpl' hpl'=>⟨_,.inr `e1,rfl,rfl,?_⟩⟩;have z:=q _ (s6.trans (ab hpl' `bC));rw[←e5] at z;rw[if_pos `b];exact z
      ·have hli:lies (ay kinds fj) fj `eT=true:=by
        unfold lies;rw[h,if_neg b2,if_neg b4,if_pos rfl,decide_eq_true (by omega),Bool.and_true];rfl
       obtain ⟨d2,m2,hp6,he6⟩:=fm hk hvw hx ⟨_,rfl⟩ hp5 he5 hli;rw[if_pos hli,h,if_neg b2] at e5;rw[h,if_neg b2] at he6;rw[h] at hul' huw';have c':inV `eT [V.str `h,V.str `D,V.str `u,V.str `w]=false:=Bool.eq_false_iff.mpr λe=>c (four.mp e);rw[if_pos (by rw[c'];decide)];exact cb U6.2.2 (by omega) ((eM _ _).mpr ⟨_,rfl,s6.upd f3 _,U6.put3 n31 n32 q' _,e5,hul',huw',d2,m2,hp6,he6⟩)
    ·exact absurd (letH h) cH
    ·obtain ⟨na,nv⟩:=letO h;rw[if_neg (show ¬v=V.str (aB "any") from na)];refine ⟨hvw.sc _,?_⟩;rw[if_neg (show ¬v=V.str `a6 from nv)];refine ⟨by show (2:Nat)≤sizeLine;decide,λpl hpl=>⟨_,.inr `e1,hvw.flat,rfl,?_⟩⟩;have s6:=ab hpl `bC;rw[if_neg (two_out hvw na nv)];refine ⟨hxw.sc2 hvw,?_⟩;by_cases c:v=x
     ·have hli:lies `q v x=true:=by unfold lies;rw[h,if_neg b3,if_neg b5,if_neg b6];exact decide_eq_true c
      obtain ⟨d2,m2,hp6,he6⟩:=fm hk hvw hx hxw hp5 he5 hli;rw[if_pos hli,h,if_neg b3,u.put0] at e5;rw[h,if_neg b3] at he6;rw[h,u.put0] at hul' huw';refine ifN (λn=>absurd c.symm n) λ_=>?_;exact (eM _ _).mpr ⟨_,rfl,s5.trans s6,U5.same s6,e5,hul',huw',d2,m2,hp6,he6⟩
     ·have hli:¬lies `q v x=true:=by unfold lies;rw[h,if_neg b3,if_neg b5,if_neg b6];exact λe=>c (of_decide_eq_true e)
      rw[if_neg hli] at e5;have z:=q _ (s5.trans s6);rw[←e5] at z;exact ifN (λ_=>z) λe=>absurd e.symm c
   ·intro σ' H' hM;obtain ⟨u2,rfl,a1,a2,a3,a4,a5,a6⟩:=(eM _ _).mp hM;push_cast [and_true];exact fin (q'+1) _ _ _ _ _ rfl a1 a2 a3 a4 a5 a6
 ·intro σ H5 hh;refine ob4 `d2 λq' u v6 v7 hh=>?_;have s5:=hh.2.1;have U5:=hh.2.2.1;have e5:=hh.2.2.2.1;have hul:=hh.2.2.2.2.1;have huw:=hh.2.2.2.2.2.1;have hdm:=hh.2.2.2.2.2.2;obtain rfl:=hh.1;clear hh;rw[adj] at e5;have z:=q H5 s5;rw[←e5] at z;push_cast [and_true];refine ⟨_,.inl ⟨SqL.of U5.1,λt1 ht1=>?_⟩⟩;have U6:=U5.same (ab ht1 (.tup `eh));refine ⟨_,.inl ⟨SqL.of U6.2.1,λt2 ht2=>?_⟩⟩;have U7:=U6.same (ab ht2 (.tup u.ns));refine ⟨_,.inl ⟨SqL.of U7.2.2,λt3 ht3=>⟨by show (3:Nat)≤sizeLine;decide,λt ht=>?_⟩⟩⟩;exact z t _ `cZ ⟨t1,t2,t3,aa,ab ht _ _ _ (ab ht3 _ _ _ (ab ht2 _ _ _ aa)),ab ht _ _ _ (ab ht3 _ _ _ aa),ab ht _ _ _ aa⟩ ⟨⟨huw.1,by omega⟩,⟨huw.2,by omega⟩,by omega⟩
noncomputable abbrev lg:Stmt:=top 47
theorem G5:av ["book","rule"] ["book","rule"] (ae lg):=⟨rfl,rfl,rfl,by decide+kernel,rfl,by decide+kernel,by decide+kernel⟩
theorem L8 (G:Gs w K mg) (D:Def K mg "_law_kinds" lg ["book","rule"]):Has P w K mg base (k+1) "_law_kinds" ["book","rule"] ux:=by
 refine D.has G5 (λvs H Q E h=>?_) (λf cdv A outer s H vs Q E hr h=>?_)
 ·obtain ⟨_,_,_,_,_,_,rfl,_,_,_,_,_,_⟩:=h;rfl
 have nd:=G5.nd;have hu:=b8 hr;have hu0:=aaf hu;obtain ⟨b,ra,kt,rt,kinds,r,rfl,hb,hkt,hR,hw,hl,q⟩:=h;refine ⟨_,(A7 (AE (BG (BA ["word"] ["book"] [0] `Y `l) (BB `es) (λ_ _ _=>(B8 0 (show abj (["word","book"]:List Str) by decide+kernel))) (λ_ _ _=>(@pif1 _ _ _ (BP (@yg _ K rfl) (A0 0) (A6 (@Ej _ K rfl) (AJ 1) (A2 0))))) (λ_ _ _=>(A0 0))))),?_⟩;rw[show start ["book","rule"] [.ref b,.ref ra]=[aA `aJ,aA (.ref ra)] from rfl];clear hu hu0 nd hr;push_cast [and_true];have sz:=aV;obtain ⟨st,dt,ds,hR1,hS,_⟩:=hR;refine af hR1 rfl ⟨_,rfl,⟨r.shape,SqT.of hS⟩,λD hD=>?_⟩;have fl:(kinds.map V.str).all kh=true:=List.all_eq_true.mpr λx hx=>by obtain ⟨z,_,rfl⟩:=List.mem_map.mp hx;rfl
 refine lz (xs:=r.shape) (λi ys=>ys=(r.shape.take i).filter (isH kinds)) (SqT.of hS) (by omega) hD rfl (λi x ys H3 G' K' hx hP hl2 hS' hG hK'=>?_) λys H3 hP hl2 hS' hD2=>?_
 ·have hxw:=hw x (aak hx);have et:r.shape.take (i+1)=r.shape.take i++[x]:=by rw[aav,hx];rfl
  push_cast [rIn];refine af (hS' _ _ hb) rfl ?_;refine ⟨_,rfl,_,.inr (SqT.of (hS' _ _ hkt)),hxw.flat,fl,df (λe=>?_) λe=>?_⟩
  ·rw[Er hxw] at e;refine hK' _ _ `az ?_;rw[et,acb,←hP,ab9,if_pos e];rfl
  ·rw[Er hxw] at e;refine hG _ `az ?_;rw[et,acb,←hP,ab9,if_neg e];exact (ab3 _).symm
 ·rw[ad2,←kg] at hP;subst hP;exact q D H3 hS' hD hD2
noncomputable abbrev kq:Stmt:=top 48
theorem Fb:av ["book","words","place","kind","ranks","some","rule","found","spots"] ["book","words","place","kind","ranks"] (ae kq):=⟨rfl,rfl,rfl,by decide+kernel,rfl,by decide+kernel,by decide+kernel⟩
theorem Ml (G:Gs w K mg) (h_law_fit:Has P w K mg base k "_law_fit" ["kinds","shape","words","place"] Di) (h_law_kinds:Has P w K mg base k "_law_kinds" ["book","rule"] ux) (D:Def K mg "_law_fitted" kq ["book","words","place","kind","ranks"]):Has P w K mg base (k+1) "_law_fitted" ["book","words","place","kind","ranks"] oq:=by
 refine D.has Fb (λvs H Q E h=>?_) (λf cdv A outer s H vs Q E hr h=>?_)
 ·obtain ⟨_,_,_,_,_,_,_,_,_,_,rfl,_,_,_,_,_,_,_⟩:=h;rfl
 have nd:=Fb.nd;have hu:=b8 hr;have hu0:=aaf hu;obtain ⟨b,wt,d,p,kd,kinds,rs,ws,g,n,rfl,hB,hW,bk,tw,hp,hT,q⟩:=h;have m_all:=G.m_all;have m_list:=G.m_list;have m_zip:=G.m_zip;refine ⟨_,(A5 (A9 5 nd `bh) (A5 (AZ (BB `F) (AQ 6 nd (by first | exact ab6 rfl | exact ab5 rfl)) (A7 (AG (AH (AN 0) (A6 (AA 0) (A0 6) (A2 0)) (A0 3) (AF 0)) (A5 (A9 7 nd (AD h_law_fit hr (A1 (A6 (AA 0) (A0 0) (A2 0)) (A1 (A6 (AA 0) (A0 6) (A2 0)) (A1 (A0 1) (A1 (A0 2) (A3 0))))))) (A7 (AG (BR (@Lm _ _ _ _ _ (A0 7)) (by first | exact fu _ (by decide) (by decide) | rfl)) (A5 (A9 8 nd (@Ao _ _ _ _ _ _ _ _ rfl rfl m_list rfl m_zip (A1 (A6 (AA 0) (A0 7) (A2 0)) (A1 (AD h_law_kinds hr (A1 (A0 0) (A1 (A0 6) (A3 0)))) (A3 0))) rfl rfl rfl)) (A7 (AG (BQ (AO (@qo _ rfl) m_all b_all (A1 (BG (BA ["spot"] ["ranks"] [4] (aah rfl trivial) (aah (aah rfl (aah rfl rfl)) trivial)) (BF (A0 8)) (λ_ _ _=>(B8 0 (show abj (["spot","ranks"]:List Str) by decide+kernel))) (λ_ _ _=>(@xj _)) (λ_ _ _=>(@pe_cmp _ _ _ _ _ _ (@Qf _ _ _ _ _ hu (A0 0) (AJ 1)) (by first | exact fu _ `a `a | rfl)))) (A3 0)))) (A7 (AU (AS aL aS aT (AY 0) (A0 5) (A1 (A8 (A1 (A0 6) (A1 (A0 8) (A3 0)))) (A3 0))))) (AK 0)))) (AK 0)))) (AK 0)))) (A7 (AE (A0 5))))),?_⟩;rw[show start ["book","words","place","kind","ranks","some","rule","found","spots"] [.ref b,.ref wt,.int (p:Int),.str kd,.ref d]=[aA `aJ,aA `bd,aA `Z,aA `bY,aA `X,none,none,none,none] from rfl];clear hu hu0 nd hr;push_cast [and_true];have sz:=aV;have rl:rs.length≤100:=by have:=bk.len;rw[aa0] at this;exact this
 have hB0:=hB;obtain ⟨kt,rt,ra,hb,hkt,hrt,hRA⟩:=hB;refine ⟨aai _,λfl hfl=>?_⟩;have s0:=ab hfl `ai;refine af (s0 _ _ hb) rfl ⟨rt,rfl,⟨_,SqT.of (s0 _ _ hrt)⟩,?_⟩;obtain ⟨P2,eP2⟩:∃P2:Nat→L2.St→Hp→Prop,∀i σ H',P2 i σ H'↔∃(as:List Addr) (v6 v7 v8:Option V),σ=[aA `aJ,aA `bd,aA `Z,aA `bY,aA `X,aA (.ref fl),v6,v7,v8]∧ag H H'∧H' fl=aA `e∧ee H' (λx=>H x≠none∨x=fl) as ((rs.take i).filterMap `cB):=⟨_,λ_ _ _=>abv⟩;refine ic (xs:=ra.map V.ref) P2 ((eP2 _ _ _).mpr ⟨[],none,none,none,rfl,s0,aa,ee.nil _ _⟩) (λi σ H' _ h=>by obtain ⟨_,_,_,_,_,s,_⟩:=(eP2 _ _ _).mp h;exact SqT.of (s _ _ hrt)) ?_ ?_
 ·intro i y σ H5 hy hh;refine ob4 ((eP2 _ _ _).mp hh) λas v6 v7 v8 hh=>?_;have s5:=hh.2.1;have f5:=hh.2.2.1;have F5:=hh.2.2.2;obtain rfl:=hh.1;clear hh;rw[aa5] at hy;obtain ⟨ai,hai,rfl⟩:=Option.map_eq_some_iff.mp hy;have hil:i < rs.length:=by rw[←hRA.1];exact (List.getElem?_eq_some_iff.mp hai).1
  have hri:rs[i]?=aA rs[i]:=aa2 hil;obtain ⟨a',ha',hRD⟩:=hRA.2 i _ hri;have hRD0:=hRD;obtain ⟨sa,da,g1,g2,g3⟩:=hRD;obtain rfl:a'=ai:=aaa (ha'.symm.trans hai);generalize rs[i]=r at hri g1 g2 g3 hRD0;have hrm:=aak hri;obtain ⟨w1,w2,w3⟩:=bk.sh r.1 (aby hrm);have et':(rs.take (i+1)).filterMap `cB=(rs.take i).filterMap `cB++(fg kinds ws p kd g r).toList:=by
   rw[aav,hri,List.filterMap_append];congr 1
  have skip:fg kinds ws p kd g r=none→∀(H6:Hp) (w7 w8:Option V),ag H5 H6→P2 (i+1) [aA `aJ,aA `bd,aA `Z,aA `bY,aA `X,aA (.ref fl),aA (.ref a'),w7,w8] H6:=λe H6 w7 w8 s6=>(eP2 _ _ _).mpr ⟨as,_,_,_,rfl,s5.trans s6,s6 _ _ f5,by rw[et',e,show (none:Option Pc.Fd).toList=[] from rfl,ab3];exact F5.same s6⟩;push_cast [and_true];refine af `eQ rfl ⟨rfl,df (λek=>?_) λek=>?_⟩
  ·have ek:r.1.kind=kd:=by first | exact ek | exact V.str.inj ek
   refine af (s5 _ _ hb) rfl (af `eQ rfl (mkFitF (s5 _ _ hkt) (s5 _ _ g2) (s5 _ _ hW) bk.kd w1 w2 w3 tw hp λH6 s6=>?_));have S6:=s5.trans s6;cases hu:bu kinds ws r.1.shape p ⟨[],[],[]⟩ with
   | none=>
    refine Bz ?_;push_cast [Gy];rw[if_neg `c];exact skip (by unfold fg;rw[if_pos ek,hu]) _ _ _ s6
   | some u=>
    intro t H7 s7 hu7 ok7;have S7:=S6.trans s7;obtain ⟨t1,t2,t3,u1,u2,_⟩:=id hu7;push_cast [Gy,tLZ];rw[if_pos `c];have s57:=s6.trans s7;have f7:=s57 _ _ f5;have hn:=(uu bk.kd r.1.shape p _ u w1 hu).1;have hn':u.hs.length=(ak kinds r.1.shape).length:=by simpa using hn
    refine af u1 rfl (Pg (S7 _ _ hb) (S7 _ _ hkt) (jo.rule (hRD0.tk (TK.of S7))) w1 w3 λl H8 s8 hl8 h8=>?_);refine ⟨t1,rfl,l,rfl,u.hs.map plV,SqT.of (s8 _ _ u2),(ak kinds r.1.shape).map V.str,SqL.of h8,by rw[aa0,aa0];exact hn',λl2 bs H9 s9 hl9 hal hL hA=>?_⟩;have hlen:(u.hs.zip `A).length≤1000:=by
     have:=ok7.h;rw[abm];omega
    have s59:=s57.trans (s8.trans s9);have S9:=s5.trans s59;have hbs:bs.length=(u.hs.zip `A).length:=by
     rw[hal,aa0,abm];omega
    have hks:∀(j:Nat) (k:Ky),(u.hs.zip `A)[j]?=aA k→∃a,bs[j]?=aA a∧H9 a=aA (kyT k):=λj k hj=>by
     obtain ⟨k1,k2⟩:=List.getElem?_zip_eq_some.mp (show (u.hs.zip `A)[j]?=aA (k.1,k.2) from hj);exact hA j _ _ (by rw[aa5,k1];rfl) (by rw[aa5,k2];rfl)
    generalize hz:u.hs.zip `A=hs at hlen hbs hks;push_cast [and_true];refine ⟨⟨_,SqL.of hL⟩,λD hD=>yb (xs:=bs.map V.ref) (λj ys=>ys=(hs.take j).map λk=>V.bl (g k).isSome) (SqL.of hL) (by rw[aa0];omega) hD rfl (λj x ys H10 G' K' hx hP hl2 hS' hG hK'=>?_) λys H10 hP hl2 hS' hD2=>?_⟩
    ·rw[aa5] at hx;obtain ⟨a2,ha2,rfl⟩:=Option.map_eq_some_iff.mp hx;have hj:j < hs.length:=by rw[←hbs];exact (List.getElem?_eq_some_iff.mp ha2).1
     have hk:=aa2 hj;obtain ⟨a3,ha3,e3⟩:=hks j _ hk;obtain rfl:a3=a2:=aaa (ha3.symm.trans ha2);push_cast [and_true];refine ⟨_,(hT.same (S9.trans hS')).get (hS' _ _ e3),hK' _ _ `az ?_⟩;rw[hP,aav,hk,aab,acv];rfl
    ·refine ⟨hs.map λk=>(g k).isSome,SqL.of (by rw[hD2,hP,aa0,hbs,ab0 (aa3 _),abd];rfl),?_⟩;rw[all_map];refine df (λca=>?_) λca=>skip (by unfold fg;rw[if_pos ek,hu];show (if _ then _ else _)=_;rw[hz,if_neg ca]) _ _ _ (s59.trans hS');have ef:fg kinds ws p kd g r=aA (r,hs):=by unfold fg;rw[if_pos ek,hu];show (if _ then _ else _)=_;rw[hz,if_pos ca]
     refine ⟨bj ((s59.trans hS') _ _ f5),by show (2:Nat)≤sizeLine;decide,λpr hpr=>?_⟩;have sA:=ab hpr `cx;have eA:upd H10 pr `cx pr=aA `cx:=aa;generalize upd H10 pr `cx=HA at sA eA ⊢;have s9A:=hS'.trans sA;have s5A:=s59.trans s9A;have fA:=s5A _ _ f5;have fal:as.length≤100:=by
      rw[F5.1];have h2:((rs.take i).filterMap `cB).length≤(rs.take i).length:=ada _ _;rw[ab1] at h2;omega
     refine (cb (K:=K) fA (by rw[aa0];omega) ((eP2 _ _ _).mpr ⟨as++[pr],_,_,_,rfl,(s5.trans s5A).upd hfl _,by rw[aa,aab];rfl,?_⟩)).2;rw[et',ef];refine ee.kx (ee.snoc (F5.same s5A) ⟨a',l2,?_,eA,hRD0.tk (TK.of (s5.trans s5A)),bs,s9A _ _ hL,hbs,λj k hj=>?_⟩) ((Kx.upd fA).weak λx hx=>.inr hx)
     ·have f9:H7 l2=none:=s8.free hl9;rintro (z | z)
      ·exact z ((s5.trans s57).free f9)
      ·exact (ao f7 f9) z.symm
     ·obtain ⟨a2,b1,b2⟩:=hks j k hj;exact ⟨a2,b1,s9A _ _ b2⟩
  ·have ek:¬r.1.kind=kd:=λe=>ek (by rw[e]);exact skip (by unfold fg;rw[if_neg ek]) _ _ _ `az
 ·intro σ H5 hh;refine ob4 ((eP2 _ _ _).mp hh) λas v6 v7 v8 hh=>?_;have s5:=hh.2.1;have f5:=hh.2.2.1;have F5:=hh.2.2.2;obtain rfl:=hh.1;clear hh;push_cast [and_true];rw[aa0,ab0 (by rw[hRA.1];exact aa3 _)] at F5;exact q fl as H5 s5 hfl f5 (F5.weak λx hx=>.inl hx)
noncomputable abbrev mv:Stmt:=top 49
theorem G1:av ["book","words","ranks","place","turn","kind"] ["book","words"] (ae mv):=⟨rfl,rfl,rfl,by decide+kernel,rfl,by decide+kernel,by decide+kernel⟩
theorem Mp (G:Gs w K mg) (h_law_fitted:Has P w K mg base k "_law_fitted" ["book","words","place","kind","ranks"] oq) (D:Def K mg "_law_ranks" mv ["book","words"]):Has P w K mg base (k+1) "_law_ranks" ["book","words"] ur:=by
 refine D.has G1 (λvs H Q E h=>?_) (λf cdv A outer s H vs Q E hr h=>?_)
 ·obtain ⟨_,_,_,_,_,rfl,_,_,_,_,_,_⟩:=h;rfl
 have nd:=G1.nd;have hu:=b8 hr;have hu0:=aaf hu;obtain ⟨b,wt,kinds,rs,ws,rfl,hB,hW,bk,k3,tw,q⟩:=h;have m_len:=G.m_len;have m_range:=G.m_range;refine ⟨_,(A5 (A9 2 nd (@Of _ _)) (A5 (AZ (@Cq _ _ _ _ _ _ _ _ rfl m_range (A1 (A4 (BC 0) (AO (AV 0) m_len dg `ec) (A2 0)) `dB) rfl rfl) (AQ 3 nd (by first | exact ab6 rfl | exact ab5 rfl)) (A7 (AZ (BU m_range (A1 (AO (AV 0) m_len dg (A1 (A6 (AA 0) (A0 0) (A2 0)) (A3 0))) (A3 0))) (AQ 4 nd (by first | exact ab6 rfl | exact ab5 rfl)) (A7 (AZ (BB (A6 (AA 0) (A0 0) (A2 0))) (AQ 5 nd (by first | exact ab6 rfl | exact ab5 rfl)) (A7 (AG (BO (BX (BR (@wg _ _ _ _ _ hu (A8 (A1 (A0 3) (A1 (A0 5) (A3 0)))) (A0 2)) (by first | exact fu _ (by decide) (by decide) | rfl)) (@xx _ _ _ _ (AH (@ko _) (AO (AV 0) m_len dg (A1 (AD h_law_fitted hr (A1 (A0 0) (A1 (A0 1) (A1 (A0 3) (A1 (A0 5) (A1 (A0 2) (A3 0))))))) (A3 0))) (A2 0) (AF 0))))) (A7 (BL hu (A0 2) (A8 (A1 (A0 3) (A1 (A0 5) (A3 0)))) (AO (@M9 _) m_len dg (A1 (A0 2) (A3 0))))) (AK 0)))))))) (A7 (AE (A0 2))))),?_⟩;rw[show start ["book","words","ranks","place","turn","kind"] [.ref b,.ref wt]=[aA (.ref b),aA (.ref wt),none,none,none,none] from rfl];clear hu hu0 nd hr;push_cast [and_true];have sz:=aV;have wl:=tw.len;push_cast [Se,iDn];intro d hd;have hB0:=hB;obtain ⟨kt,rt,ra,hb,hkt,hrt,hRA⟩:=hB;have S1:=ab hd (.dT []);have d1:TbK (upd H d (.dT [])) d (λ_=>none) []:=TbK.nil;generalize upd H d (.dT [])=H1 at S1 d1 ⊢;refine ⟨ws,.inr (SqT.of (S1 _ _ hW)),ws.length,rfl,by omega,?_⟩;obtain ⟨P0,eP0⟩:∃P0:Option V→Option V→Nat→L2.St→Hp→Prop,∀w3 w4 m σ H',P0 w3 w4 m σ H'↔∃(g:Ky→Option Int) (ks:List Ky) (v5:Option V),σ=[aA `aJ,aA `bd,aA `X,w3,w4,v5]∧ag H H'∧TbK H' d g ks∧Rki kinds rs ws g ks.length∧ks.length≤m:=⟨_,λ_ _ _ _ _=>abv⟩;refine J2 (n:=ws.length) (λi σ H'=>∃w3 w4,P0 w3 w4 (9*(ws.length - i)) σ H') ⟨none,none,(eP0 _ _ _ _ _).mpr ⟨_,[],none,rfl,S1,d1,⟨⟨(λk v h=>nomatch h),(λk v h=>nomatch h)⟩,(λk v h=>nomatch h)⟩,aai _⟩⟩ ?_ ?_
 ·rintro i σ H5 hi ⟨w3,w4,hh⟩;refine ob3 `bx λg ks v5 hh=>?_;have s5:=hh.2.1;have T5:=hh.2.2.1;have R5:=hh.2.2.2.1;have l5:=hh.2.2.2.2;obtain rfl:=hh.1;clear hh;push_cast [and_true];refine af (s5 _ _ hb) rfl ⟨_,.inr (SqT.of (s5 _ _ hkt)),by rw[aa0];omega,by rw[aa0];omega,?_⟩;rw[aa0,show ((kinds.length:Nat):Int).toNat=kinds.length by omega];refine rq (lo:=0) (λt σ H'=>∃w4,P0 (aA `cJ) w4 (9*(ws.length - (i+1))+3*t) σ H') ⟨w4,(eP0 _ _ _ _ _).mpr ⟨g,ks,v5,rfl,s5,T5,R5,by omega⟩⟩ ?_ ?_
  ·rintro t σ H6 ht ⟨w4,hh⟩;refine ob3 `bx λg ks v5 hh=>?_;have s6:=hh.2.1;have T6:=hh.2.2.1;have R6:=hh.2.2.2.1;have l6:=hh.2.2.2.2;obtain rfl:=hh.1;clear hh;push_cast [and_true];refine af (s6 _ _ hb) rfl ⟨kt,rfl,⟨_,SqT.of (s6 _ _ hkt)⟩,?_⟩;refine ic (xs:=kinds.map V.str) (λj σ H'=>P0 (aA `cJ) (aA (.int (0+(t:Int)))) (9*(ws.length - (i+1))+3*t+j) σ H') ((eP0 _ _ _ _ _).mpr ⟨g,ks,v5,rfl,s6,T6,R6,by omega⟩) (λj σ H' _ h=>by obtain ⟨_,_,_,_,s,_⟩:=(eP0 _ _ _ _ _).mp h;exact SqT.of (s _ _ hkt)) ?_ ?_
   ·intro j y σ H7 hy hh;refine ob3 `bx λg ks v5 hh=>?_;have s7:=hh.2.1;have T7:=hh.2.2.1;have R7:=hh.2.2.2.1;have l7:=hh.2.2.2.2;obtain rfl:=hh.1;clear hh;rw[aa5] at hy;obtain ⟨kd,hkd,rfl⟩:=Option.map_eq_some_iff.mp hy;have hj:=(List.getElem?_eq_some_iff.mp hkd).1;push_cast [and_true];refine ⟨by show (2:Nat)≤sizeLine;decide,λp1 hp1=>⟨_,(T7.same (ab hp1 _)).tb.get (k:=(i,kd)) aa,?_⟩⟩;have sA:=ab hp1 `dn;generalize upd H7 p1 `dn=H8 at sA ⊢;have keep:∀H',ag H7 H'→P0 (aA `cJ) (aA (.int (0+(t:Int)))) (9*(ws.length - (i+1))+3*t+(j+1)) [aA `aJ,aA `bd,aA `X,aA `cJ,aA (.int (0+(t:Int))),aA `bY] H':=λH' s'=>(eP0 _ _ _ _ _).mpr ⟨g,ks,_,rfl,s7.trans s',T7.same s',R7,by omega⟩;cases e:g (i,kd) with
    | some v=>exact Hm (keep _ sA)
    | none=>
     refine iteT (E5 (hB0.tk (TK.of (s7.trans sA))) ((s7.trans sA) _ _ hW) bk tw hi ((T7.same sA).tb) λl as H9 s9 hl9 h9 F9=>⟨_,.inl (SqL.of h9),df (λc=>?_) λc=>keep _ (sA.trans s9)⟩);rw[aa0,F9.1] at c;have s79:=sA.trans s9;obtain ⟨kvs,hkv,ekv⟩:=(T7.same s79).len;refine ⟨kvs,hkv,by show (2:Nat)≤sizeLine;decide,λp2 hp2=>?_⟩;have sB:=ab hp2 `dn;obtain ⟨o,D1,D2⟩:=((T7.same s79).same sB).new (k:=(i,kd)) (v:=(kvs.length:Int)) aa (by omega) e;refine ⟨_,D1,(eP0 _ _ _ _ _).mpr ⟨_,_,_,rfl,((s7.trans s79).trans sB).upd hd _,D2,?_,by rw[aa1,aa4];omega⟩⟩;rw[ekv,aa1];exact R7.put e hi (aak hkd) (show 0 < (qy kinds rs ws i kd g).length by omega)
   ·intro σ H7 hh;rw[aa0] at hh;refine ob3 `bx λg ks v5 hh=>?_;have s7:=hh.2.1;have T7:=hh.2.2.1;have R7:=hh.2.2.2.1;have l7:=hh.2.2.2.2;obtain rfl:=hh.1;clear hh;exact ⟨_,(eP0 _ _ _ _ _).mpr ⟨g,ks,_,rfl,s7,T7,R7,by omega⟩⟩
  ·rintro σ H6 ⟨w4,hh⟩;refine ob3 `bx λg ks v5 hh=>?_;have s6:=hh.2.1;have T6:=hh.2.2.1;have R6:=hh.2.2.2.1;have l6:=hh.2.2.2.2;obtain rfl:=hh.1;clear hh;exact ⟨_,_,(eP0 _ _ _ _ _).mpr ⟨g,ks,_,rfl,s6,T6,R6,by omega⟩⟩
 ·rintro σ H5 ⟨w3,w4,hh⟩;refine ob3 `bx λg ks v5 hh=>?_;have s5:=hh.2.1;have T5:=hh.2.2.1;have R5:=hh.2.2.2.1;have l5:=hh.2.2.2.2;obtain rfl:=hh.1;clear hh;push_cast [and_true];exact q d H5 g ks s5 hd T5 R5.1
noncomputable abbrev kj:Stmt:=top 50
theorem Fy:av ["script","at","book","words","ranks","kind","cover","wanted","spot","some","rule","holes"] ["script","at","book","words","ranks","kind"] (ae kj):=⟨rfl,rfl,rfl,by decide+kernel,rfl,by decide+kernel,by decide+kernel⟩
theorem Mx (G:Gs w K mg) (h_law_draw:Has P w K mg base k "_law_draw" ["script","k"] (jw K)) (h_law_fitted:Has P w K mg base k "_law_fitted" ["book","words","place","kind","ranks"] oq) (D:Def K mg "_law_cover" kj ["script","at","book","words","ranks","kind"]):Has P w K mg base (k+1) "_law_cover" ["script","at","book","words","ranks","kind"] (ub K):=by
 refine D.has Fy (λvs H Q E h=>?_) (λf cdv A outer s H vs Q E hr h=>?_)
 ·obtain ⟨_,_,_,_,_,_,_,_,_,_,_,_,rfl,_,_,_,_,_,_,_,_,_,_,_,_⟩:=h;rfl
 have nd:=Fy.nd;have hu:=b8 hr;have hu0:=aaf hu;obtain ⟨a,b,wt,d,ns,n0,kd,kinds,rs,ws,g,ks,rfl,hA,hl,hn0,hB,hW,bk,k3,tw,hT,hR,hg,q⟩:=h;have m_all:=G.m_all;have m_len:=G.m_len;have m_tuple:=G.m_tuple;refine ⟨_,(A5 (A9 6 nd `bh) (A5 (A9 7 nd (AR (A1 (A8 (A1 (A2 0) `cf)) (A3 0)))) (A5 (BV (AH (@ko _) (AO (AV 0) m_len dg (A1 (A0 7) (A3 0))) (A2 0) (AF 0)) (A5 (BZ 8 nd (AS aL cN cO (@Pb _) (A0 7) `ce)) (A5 (A9 9 nd (AD h_law_fitted hr (A1 (A0 2) (A1 (A0 3) (A1 (A6 (AA 0) (AJ 8) (A2 0)) (A1 (A6 (AA 0) (AJ 8) (A2 0)) (A1 (AJ 4) (A3 0)))))))) (BE (AG (AH (@Jz _) `cU (A2 0) (AF 0)) (A7 (BM 9 nd (BA ["one"] ["ranks","spot"] [4,8] (aah rfl `Y) `dd) (BF (A0 9)) (λ_ _ _=>(B8 0 (show abj (["one","ranks","spot"]:List Str) by decide+kernel))) (λ_ _ _=>(@pif1 _ _ _ (BQ (AO (@yl _ K rfl rfl) m_all b_all (A1 (BG (BA ["hole"] ["ranks","spot"] [1,2] (aah rfl `Y) `dd) (@Qn _ K rfl _ _ _ (A6 (@Ej _ K rfl) (A0 0) (A2 0))) (λ_ _ _=>(B8 0 (show abj (["hole","ranks","spot"]:List Str) by decide+kernel))) (λ_ _ _=>(@xj _)) (λ_ _ _=>(BW (@Dg _) (B5 hu (AJ 1) (A0 0)) (B5 hu (AJ 1) (AJ 2)) (AF 0)))) (A3 0)))))) (λ_ _ _=>(A0 0)))) (AK 0)) (A5 (BS (A6 (AL 0) (A0 9) (A4 (AI 0) (AD h_law_draw hr (A1 (A0 0) (A1 (A4 (AM 0) (A0 1) `cU) (A3 0)))) (AO (AV 0) m_len dg (A1 (A0 9) (A3 0))))) (BN 2 (B6 (AQ 10 nd (by first | exact ab6 rfl | exact ab5 rfl)) (B6 (AQ 11 nd (by first | exact ab6 rfl | exact ab5 rfl)) (@jq _))))) (A5 (AU (AS aL aS aT (AY 0) (A0 6) (A1 (A6 (AA 0) (A0 10) (A2 0)) (A3 0)))) (A7 (A9 7 nd (A4 (@Ii _) (A0 11) (A0 7)))))))))) (A7 (AE (B0 (BD 0) m_tuple fz `a1)))))),?_⟩;rw[show start ["script","at","book","words","ranks","kind","cover","wanted","spot","some","rule","holes"] [.ref a,.int (n0:Int),.ref b,.ref wt,.ref d,.str kd]=[aA `p,aA (.int (n0:Int)),aA `aJ,aA `bd,aA `X,aA `bY,none,none,none,none,none,none] from rfl];clear hu hu0 nd hr;push_cast [and_true];have sz:=aV;have wl':=tw.len;have h0:0 < ws.length:=by
  obtain ⟨v,hv⟩:=Option.isSome_iff_exists.mp hg;exact (hR.at' _ v hv).1
 refine ⟨aai _,λcl hcl=>?_⟩;have s1:=ab hcl `ai;have e1:upd H cl `ai cl=aA `ai:=aa;generalize upd H cl `ai=H1 at s1 e1 ⊢;refine ⟨by show (2:Nat)≤sizeLine;decide,λt0 h_t0=>?_⟩;have s_t0:=ab h_t0 `cF;have e_t0:upd H1 t0 `cF t0=aA `cF:=aa;generalize upd H1 t0 `cF=H2 at s_t0 e_t0 ⊢;refine ⟨by show (1:Nat)≤sizeLine;decide,λwl h_wl=>?_⟩;have s_wl:=ab h_wl `eJ;have e_wl:upd H2 wl `eJ wl=aA `eJ:=aa;generalize upd H2 wl `eJ=H3 at s_wl e_wl ⊢;obtain ⟨P1,eP1⟩:∃P1:L2.St→Hp→Prop,∀σ H',P1 σ H'↔∃(cs:List Rd) (st:List Ky) (wl:Addr) (v8 v9 v10 v11:Option V),σ=[aA `p,aA (.int (n0:Int)),aA `aJ,aA `bd,aA `X,aA `bY,aA (.ref cl),aA (.ref wl),v8,v9,v10,v11]∧ag H H'∧H wl=none∧wl≠cl∧H' cl=aA (.lst (cs.map λr=>V.str r.1.name))∧Jw H' wl st∧CvI kinds rs ws g kd cs st:=⟨_,λ_ _=>abv⟩;have S2:=s1.trans s_t0;have S3:=S2.trans s_wl;refine nr P1 (λσ H'=>4*ws.length+81 - Aj H' cl) ?_ ?_ ?_
 ·refine (eP1 _ _).mpr ⟨[],[(0,kd)],wl,none,none,none,none,rfl,S3,S2.free h_wl,(ao (s_t0 _ _ e1) h_wl).symm,(s_t0.trans s_wl) _ _ e1,⟨[t0],e_wl,rfl,λj k hj=>?_⟩,⟨λcs' h=>h,λk hk=>?_,?_⟩⟩
  ·cases j with
   | zero=>cases hj;exact ⟨t0,rfl,s_wl _ _ e_t0⟩
   | succ j=>cases hj
  ·rw[List.mem_singleton.mp hk];exact hg
  ·have:=K0 (g:=g) k3 tw (0,kd) h0;rw[i7];have q0:qg kinds ws g []=0:=rfl;show 0+_+4*(20 - 0)≤_
   omega
 ·intro σ H4 hh;refine ob7 ((eP1 _ _).mp hh) λcs st wl2 v8 v9 v10 v11 hh=>?_;have s4:=hh.2.1;have hw4:=hh.2.2.1;have n4:=hh.2.2.2.1;have c4:=hh.2.2.2.2.1;have W4:=hh.2.2.2.2.2.1;have I4:=hh.2.2.2.2.2.2;obtain rfl:=hh.1;clear hh;have few:=I4.few;push_cast [and_true];cases st with
  | nil=>
   obtain ⟨as,g1,g2,g3⟩:=W4;cases as with
   | cons=>cases g2
   | nil=>
    refine ⟨_,.inl (SqL.of g1),?_⟩;rw[if_neg `a];refine ⟨_,.inl ⟨SqL.of c4,λt ht=>?_⟩⟩;exact q t _ cs (s4.trans (ab ht _)) aa (by have:=I4.go [] .nil;rw[ab3] at this;exact this) (by omega)
  | cons k st=>
   obtain ⟨a0,as,w1,w2,w3,w4⟩:=W4.head rfl;obtain ⟨v,hv⟩:=Option.isSome_iff_exists.mp (I4.rk k aa6);obtain ⟨kp,kk⟩:=hR.at' k v hv;refine ⟨_,.inl (SqL.of w1),?_⟩;rw[if_pos (by rw[aa8];omega)];refine ⟨bj w1,Sn w1 ?_⟩;have s5:=s4.upd hw4 `e;have w5:upd H4 wl2 `e wl2=aA `e:=aa;have tk5:TK H4 (upd H4 wl2 `e):=TK.put w1 (by intro _ z;cases z);have c5:upd H4 wl2 `e cl=aA (.lst (cs.map λr=>V.str r.1.name)):=by rw[ah n4.symm];exact c4
   generalize upd H4 wl2 `e=H5 at s5 w5 tk5 c5 ⊢;have a5:=tk5 _ _ w2;refine af a5 rfl (af a5 rfl (E5 (hB.tk (TK.of s5)) (s5 _ _ hW) bk tw kp (hT.same s5).tb λfl fas H6 s6 hfl f6 F6=>?_));obtain ⟨M,eM⟩:∃M:L2.St→Hp→Prop,∀σ' H',M σ' H'↔∃(fl:Addr) (fas:List Addr) (fs:List Fd),σ'=[aA `p,aA (.int (n0:Int)),aA `aJ,aA `bd,aA `X,aA `bY,aA (.ref cl),aA (.ref wl2),aA (.ref a0),aA (.ref fl),v10,v11]∧ag H5 H'∧H' fl=aA (.lst (fas.map V.ref))∧ee H' (λx=>H5 x≠none) fas fs∧0 < fs.length∧(∀f∈fs,f∈qy kinds rs ws k.1 k.2 g)∧(20≤cs.length→∀f∈fs,Bf g v f=true):=⟨_,λ_ _=>abv⟩;refine g7 M ?_ ?_
   ·push_cast [and_true];refine ⟨_,.inl (SqL.of (s6 _ _ c5)),?_⟩;rw[aa0];obtain ⟨fL,hfL,lowL⟩:=hR.low k v hv;refine df (λc=>?_) λc=>(eM _ _).mpr ⟨fl,fas,_,rfl,s6,f6,F6,aeg hfL,(λf h=>h),λc'=>absurd c' (by omega)⟩;have S6:=s5.trans s6;have hfd:∀f∈qy kinds rs ws k.1 k.2 g,∀h∈f.2,(g h).isSome=true:=λf hf=>by
     obtain ⟨_,_,u,_,_,z⟩:=qb hf;exact z
    have len1:(qy kinds rs ws k.1 k.2 g).length≤100:=by
     have h2:(qy kinds rs ws k.1 k.2 g).length≤rs.length:=ada _ _;have h3:=bk.len;rw[aa0] at h3;omega
    have hol:∀f∈qy kinds rs ws k.1 k.2 g,f.2.length≤10000:=λf hf=>by
     obtain ⟨y1,y2,u,y3,y4,y5⟩:=qb hf;have z1:=Kl (g:=g) bk tw (aby y1) kp y3;rw[←y4] at z1;have z2:=zi kinds ws g f.2;have z3:=K0 (g:=g) k3 tw k kp;omega
    generalize hfdE:qy kinds rs ws k.1 k.2 g=fd at F6 hfL hfd len1 hol;refine ⟨⟨_,SqL.of f6⟩,λl hl6=>?_⟩;refine yb (xs:=fas.map V.ref) (λi ys=>∃as',ys=as'.map V.ref∧ee H6 (λx=>H5 x≠none) as' ((fd.take i).filter (Bf g v))) (SqL.of f6) (by rw[aa0,F6.1];omega) hl6 ⟨[],rfl,ee.nil _ _⟩ (λi x ys H8 G' K' hx hP hl2 hS' hG hK'=>?_) λys H8 hP hl2 hS' hD2=>?_
    ·rw[aa5] at hx;obtain ⟨fa,hfa,rfl⟩:=Option.map_eq_some_iff.mp hx;obtain ⟨f,hf,hFA⟩:=F6.get hfa;have hfm:=aak hf;have et:(fd.take (i+1)).filter (Bf g v)=(fd.take i).filter (Bf g v)++if Bf g v f=true then [f] else []:=by
      rw[aav,hf,acb];congr 1
      show [f].filter _=_
      rw[ab9];rfl
     obtain ⟨as',rfl,F'⟩:=hP;obtain ⟨ra,hll,g2,g3,g4,bs,b1,b2,b3⟩:=id hFA;push_cast [and_true];refine af (hS' _ _ g3) rfl ⟨hll,rfl,⟨_,SqL.of (hS' _ _ b1)⟩,λD' hD'=>?_⟩;refine yb (xs:=bs.map V.ref) (λj ys=>ys=(f.2.take j).map λh=>V.bl (ltB g v h)) (SqL.of (hS' _ _ b1)) (by rw[aa0,b2];have:=hol f hfm;omega) hD' rfl (λj x ys H9 G2 K2 hx hP2 hl3 hS2 hG2 hK2=>?_) λys H9 hP2 hl3 hS2 hD3=>?_
     ·rw[aa5] at hx;obtain ⟨ba,hba,rfl⟩:=Option.map_eq_some_iff.mp hx;have hj:j < f.2.length:=by rw[←b2];exact (List.getElem?_eq_some_iff.mp hba).1
      have hk:=aa2 hj;obtain ⟨ba',hba',e3⟩:=b3 j _ hk;obtain rfl:ba'=ba:=aaa (hba'.symm.trans hba);obtain ⟨w,hw⟩:=Option.isSome_iff_exists.mp (hfd f hfm _ (aaj hj));push_cast [and_true];have T9:=(hT.same ((S6.trans hS').trans hS2)).tb;refine ⟨_,T9.val ((hS'.trans hS2) _ _ e3) hw,_,T9.val (((s6.trans hS').trans hS2) _ _ a5) hv,?_⟩;refine hK2 _ _ `az ?_;rw[hP2,aav,hk,aab];have:ltB g v f.2[j]=decide (w < v):=by unfold ltB;rw[hw]
      show _=_++[V.bl (ltB g v f.2[j])]
      rw[this]
     ·refine ⟨f.2.map (ltB g v),SqL.of (by rw[hD3,hP2,aa0,b2,ab0 (aa3 _),abd];rfl),?_⟩;rw[all_map];refine df (λcc=>?_) λcc=>?_
      ·exact hK' _ _ hS2 ⟨as'++[fa],by rw[aab];rfl,by rw[et,if_pos (show Bf g v f=true from cc)];exact F'.snoc hFA⟩
      ·exact hG _ hS2 ⟨as',rfl,by rw[et,if_neg (show ¬Bf g v f=true from cc),ab3];exact F'⟩
    ·obtain ⟨as',rfl,F'⟩:=hP;rw[aa0,F6.1,ab0 (aa3 _)] at F';exact (eM _ _).mpr ⟨l,as',_,rfl,s6.trans hS',hD2,F'.same hS',aeg (List.mem_filter.mpr ⟨hfL,Gx.mpr lowL⟩),(λf h=>by rw[hfdE];exact (List.mem_filter.mp h).1),λ_ f h=>(List.mem_filter.mp h).2⟩
   ·intro σ' H7 hM;obtain ⟨fl,fas,fs,rfl,s7,f7,F7,fp,fi,flo⟩:=(eM _ _).mp hM;push_cast [and_true];have S7:=s5.trans s7;have c7:=s7 _ _ c5;have al:=F7.1;refine ⟨_,.inl (SqL.of c7),?_⟩;rw[aa0,show (n0:Int)+(cs.length:Int)=((n0+cs.length:Nat):Int) by omega];refine dc (S7.seq hA) hl (by omega) ⟨_,.inl (SqL.of f7),?_⟩;rw[aa0,al];obtain ⟨i1,hi1,ei1⟩:=Az (drw ns (n0+cs.length)) fp;obtain ⟨fa,hfa,ra,hll,g2,g3,g4,bs,b1,b2,b3⟩:=F7.2 i1 _ (aa2 hi1);have hfm:=aaj hi1;generalize fs[i1]=f at g4 b2 b3 hfm;have I8:=I4.step bk k3 tw hv kp (fi f hfm) (λc=>flo c f hfm);have few8:=I8.few;have len8:=zi kinds ws g (f.2++st);rw[aa1] at len8;refine ⟨by omega,ax (v:=.ref fa) f7 (by rw[ei1];exact bb (by rw[aa5,hfa];rfl)) (ie g3 rfl ?_)⟩;push_cast [and_true];obtain ⟨sa,da,r1,r2,r3⟩:=g4;refine ⟨bj c7,af r1 rfl (cb (K:=K) c7 (by rw[aa0];omega) ?_).2⟩;have nhl:hll≠cl:=λe=>g2 (show H5 hll≠none by rw[e,c5];intro z;cases z);have S8:=S7.upd hcl `dC;have tk8:TK H7 (upd H7 cl `dC):=TK.put c7 (by intro _ z;cases z);refine Em (xs:=bs.map V.ref) (ys:=as.map V.ref) (by rw[ah nhl];exact b1) (by rw[ah n4];exact s7 _ _ w5) (by rw[aa0,aa0];omega) λp3 hp3=>?_;have sp:=ab hp3 (.lst (bs.map V.ref++as.map V.ref));have c9:=sp _ _ (aa (H:=H7) (a:=cl) (o:=.lst ((cs.map λr=>V.str r.1.name)++[V.str f.1.1.name])));refine ⟨(eP1 _ _).mpr ⟨cs++[f.1],f.2++st,p3,_,_,_,_,rfl,S8.trans sp,S8.free hp3,(ao aa hp3).symm,by rw[c9,aab];rfl,⟨bs++as,by rw[aa,aab],by rw[aa1,aa1];omega,Qj b2 (λj x hx=>?_) λj x hx=>?_⟩,I8⟩,?_⟩
    ·obtain ⟨y,y1,y2⟩:=b3 j x hx;exact ⟨y,y1,sp _ _ (tk8 _ _ y2)⟩
    ·obtain ⟨y,y1,y2⟩:=w4 j x hx;exact ⟨y,y1,sp _ _ (tk8 _ _ (s7 _ _ (tk5 _ _ y2)))⟩
    ·rw[ke c9,ke c4,aa1,aa0,aa4];omega
 ·intro σ H' Q1 Q2 hq h;exact Ho hq h
noncomputable abbrev sj:Stmt:=top 52
theorem Km:av ["script","limit","book","words","ranks","some","kind"] ["script","limit"] (ae sj):=⟨rfl,rfl,rfl,by decide+kernel,rfl,by decide+kernel,by decide+kernel⟩
theorem Rb (G:Gs w K mg) (h_law_book:Has P w K mg base k "_law_book" ["script"] (ya K)) (h_law_cover:Has P w K mg base k "_law_cover" ["script","at","book","words","ranks","kind"] (ub K)) (h_law_draw:Has P w K mg base k "_law_draw" ["script","k"] (jw K)) (h_law_ranks:Has P w K mg base k "_law_ranks" ["book","words"] ur) (h_law_term:Has P w K mg base k "_law_term" ["script","at","limit"] (x8 K)) (D:Def K mg "_law_case" sj ["script","limit"]):Has P w K mg base (k+1) "_law_case" ["script","limit"] (xo K):=by
 refine D.has Km (λvs H Q E h=>?_) (λf cdv A outer s H vs Q E hr h=>?_)
 ·obtain ⟨_,_,_,rfl,_,_,_,_,_⟩:=h;rfl
 have nd:=Km.nd;have hu:=b8 hr;have hu0:=aaf hu;obtain ⟨a,ns,m,rfl,hA,hl,hm1,hm2,q⟩:=h;have m_len:=G.m_len;refine ⟨_,(A5 (A9 2 nd (AD h_law_book hr `a2)) (A5 (A9 3 nd (AD h_law_term hr (A1 (A0 0) (A1 (A2 0) (A1 (A4 (AM 0) (A2 0) (A4 (AI 0) `v (A0 1))) (A3 0)))))) (A5 (BZ 4 nd (AD h_law_ranks hr (A1 (A0 2) `aI))) (A5 (BM 5 nd (BA ["kind"] ["ranks"] [4] `Y `l) (BB `er) (λ_ _ _=>(B8 0 (show abj (["kind","ranks"]:List Str) by decide+kernel))) (λ_ _ _=>(@pif1 _ _ _ (BR (@Qf _ _ _ _ _ hu (A8 (A1 (A2 0) `a2)) (AJ 1)) (by first | exact fu _ (by decide) (by decide) | rfl)))) (λ_ _ _=>(A0 0))) (A5 (AG (AH (AN 0) (AO (AV 0) m_len dg `cf) (A2 0) (AF 0)) (A7 (AE (A8 (A1 (A0 2) (A1 (A0 3) (A1 (@Hz _ _ _) (A1 (A8 (A3 0)) (A3 0)))))))) (AK 0)) (A5 (A9 6 nd (A6 (AL 0) (A0 5) (A4 (AI 0) `v (AO (AV 0) m_len dg `cf)))) (A7 (AE (A8 (A1 (A0 2) (A1 (A0 3) (A1 (A0 6) (A1 (AD h_law_cover hr (A1 (A0 0) (A1 (A2 0) (A1 (A0 2) (A1 (A0 3) (A1 (AJ 4) `a1)))))) (A3 0)))))))))))))),?_⟩;rw[show start ["script","limit","book","words","ranks","some","kind"] [.ref a,.int (m:Int)]=[aA `p,aA (.int (m:Int)),none,none,none,none,none] from rfl];clear hu hu0 nd hr;push_cast [and_true];have sz:=aV;refine Vv hA hl λbt kinds rs H1 s1 hB bd=>dc (k:=90) (s1.seq hA) hl (by omega) ⟨by omega,?_⟩;obtain ⟨m1,hm3,em1⟩:=Az (drw ns 90) (n:=m) (by omega);rw[em1,show (2:Int)+(m1:Int)=((2+m1:Nat):Int) by omega];refine Tt (p:=200) (s1.seq hA) hl (by omega) (by omega) (by omega) λwt H2 ws s2 hW tw wlen hwd=>?_;refine Ra (hB.tk (TK.of s2)) hW bd.bk bd.k3 tw λd H3 g ks s3 hd T3 R3=>?_;have S2:=s1.trans s2;have S3:=S2.trans s3;have B3:=hB.tk (TK.of (s2.trans s3));have W3:=s3 _ _ hW;have k3:=bd.k3;obtain ⟨kt,rt,ra,hb,hkt,hrt,hRA⟩:=id B3;refine af hb rfl ⟨kt,rfl,⟨_,SqT.of hkt⟩,λl hl3=>?_⟩;refine lz (xs:=kinds.map V.str) (λi ys=>∃zs:List Str,ys=zs.map V.str∧∀z∈zs,z∈kinds∧(g (0,z)).isSome=true) (SqT.of hkt) (by rw[aa0];omega) hl3 ⟨[],rfl,λ_ h=>nomatch h⟩ (λi x ys H4 G' K' hx hP hl2 hS' hG hK'=>?_) λys H4 hP hl2 hS' hD2=>?_
 ·rw[aa5] at hx;obtain ⟨z,hz,rfl⟩:=Option.map_eq_some_iff.mp hx;obtain ⟨zs,rfl,hzs⟩:=hP;push_cast [and_true];refine ⟨by show (2:Nat)≤sizeLine;decide,λp1 hp1=>⟨_,(T3.same (hS'.trans (ab hp1 _))).tb.get (k:=(0,z)) aa,?_⟩⟩;rw[acv];refine df (λc=>?_) λc=>hG _ (ab hp1 _) ⟨zs,rfl,hzs⟩;exact hK' _ _ (ab hp1 _) ⟨zs++[z],by rw[aab];rfl,λy hy=>by
   rcases List.mem_append.mp hy with h | h
   ·exact hzs y h
   ·rw[List.mem_singleton.mp h];exact ⟨aak hz,c⟩⟩
 ·obtain ⟨zs,rfl,hzs⟩:=hP;have S4:=S3.trans hS';have B4:=B3.tk (TK.of hS');have W4:=hS' _ _ W3;refine ⟨_,.inl (SqL.of hD2),rfl,df (λc=>?_) λc=>?_⟩
  ·refine ⟨aai _,λct hct=>⟨by show (4:Nat)≤sizeLine;decide,λt ht=>?_⟩⟩;have sA:=(ab hct (.tup [])).trans (ab ht (.tup [V.ref bt,V.ref wt,V.non,V.ref ct]));exact q t bt wt .non ct kinds rs ws _ (S4.trans sA) ⟨aa,B4.tk (TK.of sA),bd,sA _ _ W4,tw,by omega,hwd,.inl rfl⟩
  ·rw[aa0] at c;refine dc (k:=91) (S4.seq hA) hl (by omega) ⟨_,.inl (SqL.of hD2),?_⟩;rw[aa0];obtain ⟨i1,hi1,ei1⟩:=Az (drw ns 91) (n:=zs.length) (by omega);obtain ⟨hk1,hk2⟩:=hzs _ (aaj hi1);refine ⟨by omega,ax (v:=.str zs[i1]) hD2 (by rw[ei1];exact bb (by rw[aa5,aa2 hi1];rfl)) ?_⟩;generalize zs[i1]=kd at hk1 hk2;refine Oo (n0:=300) (S4.seq hA) hl (by omega) B4 W4 bd.bk k3 tw (T3.same hS') R3 hk2 λct H5 cs s5 hc hcv hcl=>⟨by show (4:Nat)≤sizeLine;decide,λt ht=>?_⟩;have sA:=ab ht (.tup [V.ref bt,V.ref wt,V.str kd,V.ref ct]);exact q t bt wt `bY ct kinds rs ws _ ((S4.trans s5).trans sA) ⟨aa,B4.tk (TK.of (s5.trans sA)),bd,(s5.trans sA) _ _ W4,tw,by omega,hwd,.inr ⟨kd,cs,rfl,hk1,hcv,sA _ _ hc,hcl⟩⟩
noncomputable abbrev Iz:Stmt:=top 7
theorem scHow:av ["word"] ["word"] (ae Iz):=⟨rfl,rfl,rfl,by decide+kernel,rfl,by decide+kernel,by decide+kernel⟩
theorem hasHow (G:Gs w K mg) (D:Def K mg "how_many_below" Iz ["word"]):Has P w K mg base (k+1) "how_many_below" ["word"] An:=by
 refine D.has scHow (λvs H Q E h=>?_) (λf cdv A outer s H vs Q E hr h=>?_)
 ·obtain ⟨_,rfl,_,_⟩:=h;rfl
 have nd:=scHow.nd;have hu:=b8 hr;have hu0:=aaf hu;obtain ⟨v,rfl,hw,q⟩:=h;obtain ⟨a_PARTS_BELOW,m_PARTS_BELOW,s_PARTS_BELOW⟩:=G.m_PARTS_BELOW;refine ⟨_,(A7 (AE (@Pl _ _ _ _ _ _ _ _ _ _ (@Kt _ _ _ _ m_PARTS_BELOW rfl `b) s_PARTS_BELOW (A0 0) (A2 0) (@M2.mk _ _ _ _ _ _ _ rfl rfl rfl rfl)))),?_⟩;rw[show start ["word"] [v]=[aA (v)] from rfl];clear hu hu0 nd hr;push_cast [Rq];obtain ⟨k,rfl⟩:=hw;refine ⟨k,rfl,?_⟩;show Q ((bf parts k).getD (V.int 0)) H
 rw[Nc];exact q
noncomputable abbrev ky:Stmt:=top 8
theorem E7:av ["words","place","lacking","at"] ["words","place"] (ae ky):=⟨rfl,rfl,rfl,by decide+kernel,rfl,by decide+kernel,by decide+kernel⟩
theorem Mc (G:Gs w K mg) (h_how_many_below:Has P w K mg base k "how_many_below" ["word"] An) (D:Def K mg "place_behind" ky ["words","place"]):Has P w K mg base (k+1) "place_behind" ["words","place"] (yv K):=by
 refine D.has E7 (λvs H Q E h=>?_) (λf cdv A outer s H vs Q E hr h=>?_)
 ·obtain ⟨_,_,_,_,rfl,_,_,_,_,_⟩:=h;rfl
 have nd:=E7.nd;have hu:=b8 hr;have hu0:=aaf hu;obtain ⟨t,ws,p,n,rfl,hT,hw,hl,he,q⟩:=h;refine ⟨_,(A5 (A9 2 nd (A2 0)) (A5 (A9 3 nd (A0 1)) (A5 (BV (AH (@ko _) (A0 2) (A2 0) (AF 0)) (A5 (A9 2 nd (A4 (AM 0) (A4 (BC 0) (A0 2) (A2 0)) (AD h_how_many_below hr (A1 (A6 (AA 0) (A0 0) (A0 3)) (A3 0))))) (A7 (A9 3 nd (A4 (AM 0) (A0 3) (A2 0)))))) (A7 (AE (A0 3)))))),?_⟩;rw[show start ["words","place","lacking","at"] [.ref t,.int (p:Int)]=[aA `I,aA `Z,none,none] from rfl];clear hu hu0 nd hr;push_cast [An];have hn:=rh _ _ _ he;rw[aa0,aau] at hn;refine nr (λσ H'=>∃(d j:Nat),σ=[aA `I,aA `Z,aA (.int (d:Int)),aA (.int ((p+j:Nat):Int))]∧H'=H∧j≤n∧eat d ((ws.drop (p+j)).map arV)=aA (n - j))
  (λσ _=>p+n - intAt σ 3) ⟨1,0,rfl,rfl,aai _,he⟩ ?_ ?_
 ·rintro σ H' ⟨d,j,rfl,rfl,hj,hd⟩;push_cast [An];refine df (λc=>?_) λc=>?_
  ·obtain ⟨d',rfl⟩:∃d',d=d'+1:=⟨d - 1,by omega⟩;have hpos:=xr _ _ _ hd;have hlt:p+j < ws.length:=by omega
   have ed:ws.drop (p+j)=ws[p+j]::ws.drop (p+j+1):=aaw hlt;rw[ed,aas,ff] at hd;obtain ⟨m,hm,em⟩:=Option.map_eq_some_iff.mp hd;refine ⟨t,ws,((p+j:Nat):Int),ws[p+j],rfl,rfl,hT,bb (aa2 hlt),hw _ (aaj hlt),⟨d'+arV ws[p+j],by omega,j+1,by omega,rfl,by omega,?_⟩,?_⟩
   ·rw[show n - (j+1)=m by omega];exact hm
   ·show p+n - (((p+j:Nat):Int)+1).toNat < p+n - (((p+j:Nat):Int)).toNat
    omega
  ·have d0:d=0:=by omega
   subst d0;rw[jd] at hd;have:n - j=0:=(aaa hd).symm;have e:((p+j:Nat):Int)=(p:Int)+(n:Int):=by omega
   rw[e];exact q H' `az
 ·intro σ H' Q1 Q2 hq h;simp only[Gq,tOp,rI0,pj,tC,qz,i6,tB] at h ⊢;obtain ⟨v,hv,i,j,e1,e2,k,e3,h⟩:=h;exact ⟨v,hv,i,j,e1,e2,k,e3,hq _ _ h⟩
noncomputable abbrev y8:Stmt:=top 12
theorem Qh:av ["word","kinds"] ["word","kinds"] (ae y8):=⟨rfl,rfl,rfl,by decide+kernel,rfl,by decide+kernel,by decide+kernel⟩
theorem V4 (G:Gs w K mg) (D:Def K mg "leaf_letter" y8 ["word","kinds"]):Has P w K mg base (k+1) "leaf_letter" ["word","kinds"] (ku K):=by
 refine D.has Qh (λvs H Q E h=>?_) (λf cdv A outer s H vs Q E hr h=>?_)
 ·obtain ⟨_,_,_,rfl,_,_,_⟩:=h;rfl
 have nd:=Qh.nd;have hu:=b8 hr;have hu0:=aaf hu;obtain ⟨v,kt,kinds,rfl,hv,hK,q⟩:=h;refine ⟨_,(A5 (AG `T (A7 (AE (AB 0))) (AK 0)) (A5 (AG `T (A7 (AE (AB 0))) (AK 0)) (A7 (AE (C2 (BP (@ja _) (A0 0) (A0 1)) (AB 0) (AB 0)))))),?_⟩;rw[show start ["word","kinds"] [v,.ref kt]=[aA (v),aA `eH] from rfl];clear hu hu0 nd hr;push_cast [rIn];have fl:(kinds.map V.str).all kh=true:=List.all_eq_true.mpr λx hx=>by obtain ⟨z,_,rfl⟩:=List.mem_map.mp hx;rfl
 unfold ay gd fj lN lV lH lO at q;refine ⟨hv.sc _,df (λe=>?_) λn1=>⟨hv.sc _,df (λe=>?_) λn2=>⟨_,.inr hK,hv.flat,fl,df (λe=>?_) λe=>?_⟩⟩⟩
 ·rw[if_pos e] at q;exact q
 ·rw[if_neg n1,if_pos e] at q;exact q
 ·rw[if_neg n1,if_neg n2,if_pos e] at q;exact q
 ·rw[if_neg n1,if_neg n2,if_neg e] at q;exact q
noncomputable abbrev yw:Stmt:=top 15
theorem Sb:av ["letter","shape_word","word"] ["letter","shape_word","word"] (ae yw):=⟨rfl,rfl,rfl,by decide+kernel,rfl,by decide+kernel,by decide+kernel⟩
theorem Uo (G:Gs w K mg) (h_how_many_below:Has P w K mg base k "how_many_below" ["word"] An) (D:Def K mg "lies_upon" yw ["letter","shape_word","word"]):Has P w K mg base (k+1) "lies_upon" ["letter","shape_word","word"] Dp:=by
 refine D.has Sb (λvs H Q E h=>?_) (λf cdv A outer s H vs Q E hr h=>?_)
 ·obtain ⟨_,_,_,rfl,_,_,_⟩:=h;rfl
 have nd:=Sb.nd;have hu:=b8 hr;have hu0:=aaf hu;obtain ⟨l,v,x,rfl,hv,hx,q⟩:=h;have m_isinstance:=G.m_isinstance;have m_str:=G.m_str;refine ⟨_,(A5 (AG `T (A7 (AE (@Lc _ _ _ _))) (AK 0)) (A5 (AG `T (A7 (AE (@pe_not _ _ _ _ `cV))) (AK 0)) (A5 (AG `T (A7 (AE (@pe_and _ _ _ _ _ _ _ `cV (@pe_one _ _ _ _ _ (BW (AN 0) (AD h_how_many_below hr `c7) (A2 0) (AF 0)))))) (AK 0)) (A7 (AE (BW (AN 0) (A0 1) (A0 2) (AF 0))))))),?_⟩;rw[show start ["letter","shape_word","word"] [.str l,v,x]=[aA (.str l),aA (v),aA (x)] from rfl];clear hu hu0 nd hr;push_cast [An];unfold lies lH lN lV at q;refine ⟨rfl,df (λe=>?_) λn1=>⟨rfl,df (λe=>?_) λn2=>⟨rfl,df (λe=>?_) λn3=>⟨hv.sc2 hx,?_⟩⟩⟩⟩
 ·rw[if_pos e] at q;exact q
 ·rw[if_neg n1,if_pos e] at q;obtain ⟨k',rfl⟩:=hx;cases k' with
  | inl i=>exact ⟨_,.int i,false,rfl,q⟩
  | inr z=>exact ⟨_,.str z,true,rfl,q⟩
 ·rw[if_neg n1,if_neg n2,if_pos e] at q;have hx':=hx;obtain ⟨k',rfl⟩:=hx;cases k' with
  | inl i=>exact ⟨_,.int i,false,rfl,Hm q⟩
  | inr z=>
   refine ⟨_,.str z,true,rfl,iteT ⟨hx',rfl,?_⟩⟩;rw[show decide (((arV (kV (aM z)):Nat):Int)=0)=decide (arV (kV (aM z))=0) from decide_eq_decide.mpr (by omega)];exact q
 ·rw[if_neg n1,if_neg n2,if_neg n3] at q;exact q
noncomputable abbrev zr:Stmt:=top 16
theorem O9:av ["shape","kinds","words","place","under","at","shape_word","letter"] ["shape","kinds","words","place"] (ae zr):=⟨rfl,rfl,rfl,by decide+kernel,rfl,by decide+kernel,by decide+kernel⟩
theorem U1 (G:Gs w K mg) (h_leaf_letter:Has P w K mg base k "leaf_letter" ["word","kinds"] (ku K)) (h_lies_upon:Has P w K mg base k "lies_upon" ["letter","shape_word","word"] Dp) (h_place_behind:Has P w K mg base k "place_behind" ["words","place"] (yv K)) (D:Def K mg "laid" zr ["shape","kinds","words","place"]):Has P w K mg base (k+1) "laid" ["shape","kinds","words","place"] (Ef K):=by
 refine D.has O9 (λvs H Q E h=>?_) (λf cdv A outer s H vs Q E hr h=>?_)
 ·obtain ⟨_,_,_,_,_,_,_,_,rfl,_,_,_,_,_,_,_,_,_,_,_⟩:=h;rfl
 have nd:=O9.nd;have hu:=b8 hr;have hu0:=aaf hu;obtain ⟨st,kt,wt,sh,kinds,ws,p,n,rfl,hS,hK,hW,hk,hs,hw,hTm,he,hl1,hl2,q⟩:=h;have m_tuple:=G.m_tuple;refine ⟨_,(A5 (A9 4 nd (C3 (BH (AB 0) `bh (BH (AB 0) `bh (BH (AB 0) `bh (@El _ _)))) (λe=>nomatch e))) (A5 (A9 5 nd (A0 3)) (A5 (AZ (BB (A0 0)) (AQ 6 nd (by first | exact ab6 rfl | exact ab5 rfl)) (A5 (A9 7 nd (AD h_leaf_letter hr (A1 (A0 6) (A1 (A0 1) (A3 0))))) (A5 (AG (@Ph _ _ _ _ (BQ (AD h_lies_upon hr (A1 (A0 7) (A1 (A0 6) (A1 (A6 (AA 0) (A0 2) (A0 5)) (A3 0))))))) (A7 (AE (@Hz _ _ _))) (AK 0)) (BE (AG (AH (@N5 _) (A0 7) (AB 0) (AF 0)) (A7 (AU (AS aL aS aT (AY 0) (B5 hu (A0 4) (A0 7)) (A1 (C2 (AH (AN 0) (A0 7) (AB 0) (AF 0)) (A0 5) (A6 (AA 0) (A0 2) (A0 5))) (A3 0))))) (AK 0)) (A7 (A9 5 nd (C2 (AH (AN 0) (A0 7) (AB 0) (AF 0)) (AD h_place_behind hr (A1 (A0 2) (A1 (A0 5) (A3 0)))) (A4 (AM 0) (A0 5) (A2 0))))))))) (A7 (AE (A8 (A1 (B0 (BD 0) m_tuple fz (A1 (B5 hu (A0 4) (AB 0)) (A3 0))) (A1 (B0 (BD 0) m_tuple fz (A1 (B5 hu (A0 4) (AB 0)) (A3 0))) (A1 (B0 (BD 0) m_tuple fz (A1 (B5 hu (A0 4) (AB 0)) (A3 0))) (A3 0)))))))))),?_⟩;rw[show start ["shape","kinds","words","place","under","at","shape_word","letter"] [.ref st,.ref kt,.ref wt,.int (p:Int)]=[aA (.ref st),aA (.ref kt),aA (.ref wt),aA (.int (p:Int)),none,none,none,none] from rfl];clear hu hu0 nd hr;push_cast [J9,vh];have sz:=aV;refine λu0 h0=>⟨aai _,λl1 h1=>⟨aai _,λl2 h2=>⟨aai _,λl3 h3=>⟨ab h3 _ _ _ (ab h2 _ _ _ (ab h1 _ _ _ aa)),[(aM lH,.ref l1),(aM lN,.ref l2),(aM lV,.ref l3)],rfl,by show (3:Nat)≤15;decide,?_⟩⟩⟩⟩;rw[show g6 [] [(aM lH,V.ref l1),(aM lN,V.ref l2),(aM lV,V.ref l3)]=[(aM lH,V.ref l1),(aM lN,V.ref l2),(aM lV,V.ref l3)] from rfl];have n10:l1≠u0:=(ao aa h1).symm;have n20:l2≠u0:=(ao (ab h1 _ _ _ aa) h2).symm;have n30:l3≠u0:=(ao (ab h2 _ _ _ (ab h1 _ _ _ aa)) h3).symm;have n21:l2≠l1:=(ao aa h2).symm;have n31:l3≠l1:=(ao (ab h2 _ _ _ aa) h3).symm;have n32:l3≠l2:=(ao aa h3).symm;have S1:=ab h0 `bU;have f1:=S1.free h1;have S2:=S1.trans (ab h1 `ai);have f2:=S2.free h2;have S3:=S2.trans (ab h2 `ai);have f3:=S3.free h3;have S4:=(S3.trans (ab h3 `ai)).upd h0 `bo;have U4:UAt (upd `dI u0 `bo) u0 l1 l2 l3 ⟨[],[],[]⟩:=
  ⟨aa,by rw[ah n10,ah n31.symm,ah n21.symm,aa];rfl,by rw[ah n20,ah n32.symm,aa],by rw[ah n30,aa]⟩
 generalize upd `dI u0 `bo=H4 at S4 U4 ⊢;obtain ⟨P1,eP1⟩:∃P1:Nat→L2.St→Hp→Prop,∀i σ H',P1 i σ H'↔∃(q':Nat) (u:Und) (v6 v7:Option V),σ=[aA `cG,aA `eH,aA `bd,aA `Z,aA (.ref u0),aA (.int (q':Int)),v6,v7]∧ag H H'∧UAt H' u0 l1 l2 l3 u∧bu kinds ws (sh.drop i) q' u=bu kinds ws sh p ⟨[],[],[]⟩∧(u.hs.length≤i∧u.ns.length≤i∧u.vs.length≤i)∧xi u∧∃d m,pend d ((sh.drop i).map arV)=aA 0∧eat d ((ws.drop q').map arV)=aA m:=⟨_,λ_ _ _=>abv⟩;refine ⟨⟨sh,S4.tup hS⟩,ic (xs:=sh) P1 ((eP1 _ _ _).mpr ⟨p,⟨[],[],[]⟩,none,none,rfl,S4,U4,rfl,⟨aai _,aai _,aai _⟩,⟨(λ_ h=>nomatch h),(λ_ h=>nomatch h)⟩,1,n,hTm,he⟩) (λi σ H' _ h=>by obtain ⟨_,_,_,_,_,s,_⟩:=(eP1 _ _ _).mp h;exact s.tup hS) ?_ ?_⟩
 ·intro i v σ H5 hvi hh;refine ob4 `d2 λq' u v6 v7 hh=>?_;have s5:=hh.2.1;have U5:=hh.2.2.1;have e5:=hh.2.2.2.1;have hul:=hh.2.2.2.2.1;have huw:=hh.2.2.2.2.2.1;have hdm:=hh.2.2.2.2.2.2;obtain rfl:=hh.1;clear hh;obtain ⟨d,m,hp5,he5⟩:=hdm;have fin:∀(q2:Nat) (z:Int) (u2:Und) (w6 w7:Option V) (H':Hp),z=(q2:Int)→ag H H'→UAt H' u0 l1 l2 l3 u2→bu kinds ws (sh.drop (i+1)) q2 u2=bu kinds ws sh p ⟨[],[],[]⟩→(u2.hs.length≤i+1∧u2.ns.length≤i+1∧u2.vs.length≤i+1)→xi u2→(∃d m,pend d `et=aA 0∧eat d ((ws.drop q2).map arV)=aA m)→P1 (i+1) [aA `cG,aA `eH,aA `bd,aA `Z,aA (.ref u0),aA (.int z),w6,w7] H':=λq2 z u2 w6 w7 H' ez a1 a2 a3 a4 a5 a6=>(eP1 _ _ _).mpr ⟨q2,u2,w6,w7,by rw[ez],a1,a2,a3,a4,a5,a6⟩;have hil:i < sh.length:=(List.getElem?_eq_some_iff.mp hvi).1;have ed:sh.drop i=v::sh.drop (i+1):=by
   rw[aaw hil];congr 1
   rw[aa2 hil] at hvi;exact aaa hvi
  rw[ed] at e5 hp5;obtain ⟨d',rfl⟩:∃d',d=d'+1:=by
   cases d with
   | zero=>cases hp5
   | succ d'=>exact ⟨d',rfl⟩
  have hq:q' < ws.length:=by
   have a1:=xr _ _ _ he5;have a2:=rh _ _ _ he5;rw[aa0,aau] at a2;omega
  have hx:ws[q']?=aA ws[q']:=aa2 hq;have hxw:=hw _ (aaj hq);have hat:atI ws (q':Int)=aA ws[q']:=bb hx;have hvw:=hs v (aak hvi);have hgd:ws.getD q' .non=ws[q']:=by rw[aa7,hx];rfl
  rw[cv,hgd] at e5;generalize ws[q']=x at hx hxw hat hgd e5;push_cast [and_true];refine T1 hvw (s5.tup hK) ?_;push_cast [and_true];refine ⟨wt,ws,(q':Int),x,rfl,rfl,s5.tup hW,hat,mkLies hvw hxw ?_⟩;push_cast [and_true];cases hli:lies `q v x with
  | false=>
   rw[hli,if_neg `a] at e5;rw[if_pos (show (!false)=true from rfl)];have z:=q H5 s5;rw[←e5] at z;exact z
  | true=>
   rw[hli,if_pos rfl] at e5;rw[if_neg (show ¬(!true)=true by decide)];obtain ⟨d2,m2,hp6,he6⟩:=fm hk hvw hx hxw hp5 he5 hli;have hul':=u.ua `q q' x hul;have huw':=huw.put hxw `q q';obtain ⟨b1,b2,b3,b4,b5,b6⟩:=lets;refine g7 (λσ' H6=>σ'=[aA `cG,aA `eH,aA `bd,aA `Z,aA (.ref u0),aA (.int (q':Int)),aA v,aA (.str `q)]∧ag H H6∧UAt H6 u0 l1 l2 l3 (u.put `q q' x)) ?_ ?_
   ·push_cast [and_true];refine ⟨rfl,?_⟩;rcases dj (kinds:=kinds) hvw with ⟨_,h⟩ | ⟨_,h⟩ | ⟨_,h⟩ | ⟨h,_⟩
    ·rw[h,if_pos `b];refine ⟨_,U5.get2,bj U5.2.2.1,rfl,?_⟩;rw[if_neg (show ¬lN=aB "h" from b1)];exact ⟨wt,ws,_,x,rfl,rfl,s5.tup hW,hat,(cb (K:=K) U5.2.2.1 (by omega) ⟨s5.upd f2 _,U5.put2 n20 n21 n32 q' x⟩).2⟩
    ·rw[h,if_pos `b];refine ⟨_,U5.get3,bj U5.2.2.2,rfl,?_⟩;rw[if_neg (show ¬lV=aB "h" from b2)];exact ⟨wt,ws,_,x,rfl,rfl,s5.tup hW,hat,(cb (K:=K) U5.2.2.2 (by omega) ⟨s5.upd f3 _,U5.put3 n30 n31 n32 q' x⟩).2⟩
    ·rw[h,if_pos `b];refine ⟨_,U5.get1,bj U5.2.1,rfl,?_⟩;rw[if_pos (show lH=aB "h" from rfl)];exact (cb (K:=K) U5.2.1 (by rw[aa0];omega) ⟨s5.upd f1 _,U5.put1 n10 n21 n31 q' x⟩).2
    ·rw[h,if_neg `b,u.put0];exact ⟨s5,U5⟩
   ·rintro _ H6 ⟨rfl,s6,U6⟩;push_cast [and_true];refine ⟨rfl,df (λhH=>?_) λhH=>?_⟩
    ·have hH:ay kinds v=lH:=hH;rw[if_pos hH] at e5 he6;obtain ⟨n1,hn1⟩:=Ec he5;have en:endAt ws q'=q'+n1:=by unfold endAt;rw[hn1];rfl
     rw[en] at e5 he6;exact ⟨wt,ws,q',n1,rfl,s6.tup hW,hw,by omega,hn1,λH7 s7=>fin (q'+n1) _ _ _ _ _ (by omega) (s6.trans s7) (U6.same s7) e5 hul' huw' ⟨d2,m2,hp6,he6⟩⟩
    ·have hH:¬ay kinds v=lH:=hH;rw[if_neg hH] at e5 he6;exact fin (q'+1) _ _ _ _ _ (by omega) s6 U6 e5 hul' huw' ⟨d2,m2,hp6,he6⟩
 ·intro σ H5 hh;refine ob4 `d2 λq' u v6 v7 hh=>?_;have s5:=hh.2.1;have U5:=hh.2.2.1;have e5:=hh.2.2.2.1;have hul:=hh.2.2.2.2.1;have huw:=hh.2.2.2.2.2.1;have hdm:=hh.2.2.2.2.2.2;obtain rfl:=hh.1;clear hh;obtain ⟨d,m,hp5,he5⟩:=hdm;rw[adj] at e5;have z:=q H5 s5;rw[←e5] at z;push_cast [and_true];refine ⟨_,U5.get1,_,.inl ⟨SqL.of U5.2.1,λt1 ht1=>?_⟩⟩;have U6:=U5.same (ab ht1 (.tup `eh));refine ⟨_,U6.get2,_,.inl ⟨SqL.of U6.2.2.1,λt2 ht2=>?_⟩⟩;have U7:=U6.same (ab ht2 (.tup u.ns));refine ⟨_,U7.get3,_,.inl ⟨SqL.of U7.2.2.2,λt3 ht3=>⟨by show (3:Nat)≤sizeLine;decide,λt ht=>?_⟩⟩⟩;exact z t _ `cZ ⟨t1,t2,t3,aa,ab ht _ _ _ (ab ht3 _ _ _ (ab ht2 _ _ _ aa)),ab ht _ _ _ (ab ht3 _ _ _ aa),ab ht _ _ _ aa⟩ ⟨⟨huw.1,by omega⟩,⟨huw.2,by omega⟩,by omega⟩
noncomputable abbrev mh:Stmt:=top 17
theorem Fi:av ["shape","kinds","under","hole_kinds"] ["shape","kinds","under"] (ae mh):=⟨rfl,rfl,rfl,by decide+kernel,rfl,by decide+kernel,by decide+kernel⟩
theorem M0 (G:Gs w K mg) (h_leaf_letter:Has P w K mg base k "leaf_letter" ["word","kinds"] (ku K)) (D:Def K mg "holes_under" mh ["shape","kinds","under"]):Has P w K mg base (k+1) "holes_under" ["shape","kinds","under"] (t8 K):=by
 refine D.has Fi (λvs H Q E h=>?_) (λf cdv A outer s H vs Q E hr h=>?_)
 ·obtain ⟨_,_,_,_,_,_,rfl,_,_,_,_,_,_,_,_⟩:=h;rfl
 have nd:=Fi.nd;have hu:=b8 hr;have hu0:=aaf hu;obtain ⟨st,kt,ut,sh,kinds,u,rfl,hS,hK,hU,hk,hw,hl,hn,q⟩:=h;have m_list:=G.m_list;have m_zip:=G.m_zip;refine ⟨_,(A5 (BM 3 nd (BA ["word"] ["kinds"] [1] `Y `l) (BB (A0 0)) (λ_ _ _=>(B8 0 (show abj (["word","kinds"]:List Str) by decide+kernel))) (λ_ _ _=>(@pif1 _ _ _ (AH (AN 0) (AD h_leaf_letter hr (A1 (A0 0) `eb)) (AB 0) (AF 0)))) (λ_ _ _=>(A0 0))) (A7 (AE (@Ao _ _ _ _ _ _ _ _ rfl rfl m_list rfl m_zip (A1 `er `aI) rfl rfl rfl)))),?_⟩;rw[show start ["shape","kinds","under","hole_kinds"] [.ref st,.ref kt,.ref ut]=[aA `cG,aA `eH,aA (.ref ut),none] from rfl];clear hu hu0 nd hr;push_cast [ku];have sz:=aV;refine ⟨⟨sh,hS⟩,λl hl'=>?_⟩;refine lz (xs:=sh) (λi ys=>ys=(sh.take i).filter (isH kinds)) hS (by omega) hl' rfl (λi x ys H3 G' K' hx hP hl2 hS' hG hK'=>?_) λys H3 hP hl2 hS' hD2=>?_
 ·have hxw:=hw x (aak hx);have et:sh.take (i+1)=sh.take i++[x]:=by rw[aav,hx];rfl
  push_cast [ku];refine ⟨hxw,kinds,hS'.tup hK,rfl,df (λe=>?_) λe=>?_⟩
  ·refine hK' _ _ `az ?_;rw[et,acb,←hP,ab9,if_pos ((tu hk hxw).mp e)];rfl
  ·refine hG _ `az ?_;rw[et,acb,←hP,ab9,if_neg λz=>e ((tu hk hxw).mpr z)];exact (ab3 _).symm
 ·rw[ad2,←kg] at hP;subst hP;obtain ⟨t1,t2,t3,h1,h2,_⟩:=hU;push_cast [tLZ];refine af (hS' _ _ h1) rfl ⟨t1,rfl,u.hs.map plV,SqT.of (hS' _ _ h2),(ak kinds sh).map V.str,SqL.of hD2,by rw[aa0,aa0,hn],λl2 as H2 s2 hl2 hal hL hA=>q l2 H2 (hS'.trans s2) (hS'.free hl2) ⟨as,hL,?_,λj k hj=>?_⟩⟩
  ·rw[hal,aa0,abm,hn,Nat.min_self]
  ·obtain ⟨g1,g2⟩:=List.getElem?_zip_eq_some.mp (show (u.hs.zip (ak kinds sh))[j]?=aA (k.1,k.2) from hj);exact hA j _ _ (by rw[aa5,g1];rfl) (by rw[aa5,g2];rfl)
noncomputable abbrev zg:Stmt:=top 20
theorem Ox:av ["book","step","rule"] ["book","step"] (ae zg):=⟨rfl,rfl,rfl,by decide+kernel,rfl,by decide+kernel,by decide+kernel⟩
theorem Tu (G:Gs w K mg) (h_holes_under:Has P w K mg base k "holes_under" ["shape","kinds","under"] (t8 K)) (D:Def K mg "last_hole_first" zg ["book","step"]):Has P w K mg base (k+1) "last_hole_first" ["book","step"] De:=by
 refine D.has Ox (λvs H Q E h=>?_) (λf cdv A outer s H vs Q E hr h=>?_)
 ·obtain ⟨_,_,_,_,_,_,rfl,_,_,_,_,_,_⟩:=h;rfl
 have nd:=Ox.nd;have hu:=b8 hr;have hu0:=aaf hu;obtain ⟨b,t,kinds,rs,r,u,rfl,hB,bk,hr0,hS,hn,q⟩:=h;have m_list:=G.m_list;have m_reversed:=G.m_reversed;refine ⟨_,(A5 (A9 2 nd `es) (A7 (AE (@Ab _ _ _ _ _ _ _ rfl rfl m_list rfl m_reversed (A1 (AD h_holes_under hr (A1 `er (A1 `F (A1 `es (A3 0))))) (A3 0)) rfl rfl)))),?_⟩;rw[show start ["book","step","rule"] [.ref b,.ref t]=[aA `aJ,aA `I,none] from rfl];clear hu hu0 nd hr;push_cast [and_true];have sz:=aV;obtain ⟨kt,rt,ra,hb,hkt,hrt,hRA⟩:=id hB;obtain ⟨ro,ut,t1,hR,hU⟩:=hS;obtain ⟨sa,da,ds,g1,g2,g3⟩:=id hR;obtain ⟨w1,w2,w3⟩:=bk.sh r hr0;refine af t1 rfl ?_;push_cast [tLR];refine af g1 rfl (af hb rfl (af t1 rfl (Sh (SqT.of g2) (SqT.of hkt) hU bk.kd w1 (by omega) hn λl H1 s1 hl h1=>?_)));obtain ⟨as,e1,e2,e3⟩:=h1;refine ⟨l,rfl,_,SqL.of e1,λp hp=>?_⟩;have s2:=ab hp (.lst (as.map V.ref).reverse);refine q p _ (s1.trans s2) (s1.free hp) ⟨as.reverse,by rw[aa,af0],by rw[aat,aat,e2],λj k hj=>?_⟩;have hjl:=(List.getElem?_eq_some_iff.mp hj).1;rw[aat] at hjl;rw[ach hjl] at hj;obtain ⟨a,a1,a2⟩:=e3 _ k hj;refine ⟨a,?_,s2 _ _ a2⟩;rw[ach (by rw[e2];exact hjl),e2];exact a1
noncomputable abbrev sm:Stmt:=top 19
theorem Kw:av ["book","name","words","place","kind","rule","under"] ["book","name","words","place","kind"] (ae sm):=⟨rfl,rfl,rfl,by decide+kernel,rfl,by decide+kernel,by decide+kernel⟩
theorem O3 (G:Gs w K mg) (h_laid:Has P w K mg base k "laid" ["shape","kinds","words","place"] (Ef K)) (D:Def K mg "laid_rule" sm ["book","name","words","place","kind"]):Has P w K mg base (k+1) "laid_rule" ["book","name","words","place","kind"] su:=by
 refine D.has Kw (λvs H Q E h=>?_) (λf cdv A outer s H vs Q E hr h=>?_)
 ·obtain ⟨_,_,_,_,_,_,_,_,rfl,_,_,_,_,_,_,_,_,_⟩:=h;rfl
 have nd:=Kw.nd;have hu:=b8 hr;have hu0:=aaf hu;obtain ⟨b,wt,kinds,rd,ws,p,nm,kd,rfl,hBD,hW,bk,tw,hp,hnm,hkd,q,e⟩:=h;refine ⟨_,(A5 (AZ (BB `F) (AQ 5 nd (by first | exact ab6 rfl | exact ab5 rfl)) (A7 (AG (BO (BX (AH (AN 0) `x (A0 1) (AF 0)) (@xx _ _ _ _ (AH (AN 0) `x (A0 4) (AF 0))))) (A5 (A9 6 nd (AD h_laid hr (A1 `x (A1 `F (A1 (A0 2) `aI))))) (A7 (AG (BR (@Lm _ _ _ _ _ (A0 6)) (by first | exact fu _ `a `a | rfl)) (A7 (AE (A8 (A1 (A0 5) `a1)))) (AK 0)))) (AK 0)))) `ep),?_⟩;rw[show start ["book","name","words","place","kind","rule","under"] [.ref b,.str nm,.ref wt,.int (p:Int),.str kd]=[aA `aJ,aA (.str nm),aA `bd,aA `Z,aA `bY,none,none] from rfl];clear hu hu0 nd hr;push_cast [and_true];have sz:=aV;obtain ⟨rs,hrs⟩:∃rs,rs=rd.map (·.1):=⟨_,rfl⟩;rw[←hrs] at bk q e;have rl:=bk.len;have twl:=tw.len;obtain ⟨kt,rt,ra,hb,hkt,hrt,hRD⟩:=id hBD;have hRA:qe H ra rs:=by rw[hrs];exact hRD.rules
 refine af hb rfl ⟨rt,rfl,⟨_,SqT.of hrt⟩,?_⟩;obtain ⟨P1,eP1⟩:∃P1:Nat→L2.St→Hp→Prop,∀j σ H',P1 j σ H'↔∃(v5 v6:Option V),σ=[aA `aJ,aA (.str nm),aA `bd,aA `Z,aA `bY,v5,v6]∧ag H H'∧∀(i:Nat) (x:Rl),i < j→rs[i]?=aA x→x.name=nm→x.kind=kd→bu kinds ws x.shape p ⟨[],[],[]⟩=none:=⟨_,λ_ _ _=>abv⟩;refine ic (xs:=ra.map V.ref) P1 ((eP1 _ _ _).mpr ⟨none,none,rfl,ag.refl _,λi x h=>absurd h (af2 _)⟩) (λj σ H' _ h=>by obtain ⟨_,_,_,s,_⟩:=(eP1 _ _ _).mp h;exact SqT.of (s _ _ hrt)) ?_ ?_
 ·intro j y σ H5 hy hh;obtain ⟨v5,v6,rfl,s5,hno⟩:=(eP1 _ _ _).mp hh;rw[aa5] at hy;obtain ⟨aj,haj,rfl⟩:=Option.map_eq_some_iff.mp hy;have hjl:j < rs.length:=by rw[←hRA.1];exact (List.getElem?_eq_some_iff.mp haj).1
  have hrj:rs[j]?=aA rs[j]:=aa2 hjl;obtain ⟨a',ha',hR⟩:=hRA.2 j _ hrj;obtain rfl:a'=aj:=aaa (ha'.symm.trans haj);generalize rs[j]=x at hrj hR;have more:(x.name=nm→x.kind=kd→bu kinds ws x.shape p ⟨[],[],[]⟩=none)→∀(i:Nat) (y:Rl),i < j+1→rs[i]?=aA y→y.name=nm→y.kind=kd→bu kinds ws y.shape p ⟨[],[],[]⟩=none:=λhx i y hi hyi=>by
   rcases ad0 i j with z | z
   ·exact hno i y z hyi
   ·obtain rfl:i=j:=by omega
    obtain rfl:x=y:=aaa (hrj.symm.trans hyi);exact hx
  obtain ⟨sa,da,ds,g1,g2,g3⟩:=id hR;push_cast [and_true];refine af `eQ rfl ⟨rfl,?_⟩;by_cases c:x.name=nm
  ·refine ifY (by rw[c]) (af `eQ rfl ⟨rfl,?_⟩);by_cases c2:x.kind=kd
   ·obtain ⟨n,hn⟩:=tw.eat hp;obtain ⟨w1,w2,w3⟩:=bk.sh x (aak hrj);refine ifY (by rw[c2]) (af `eQ rfl (af (s5 _ _ hb) rfl (mkLaid (n:=n) (SqT.of (s5 _ _ g2)) (SqT.of (s5 _ _ hkt)) (SqT.of (s5 _ _ hW)) bk.kd w1 (λv hv=>(tw.w v hv).1) w2 hn (by omega) twl λH6 s6=>?_)));cases hu:bu kinds ws x.shape p ⟨[],[],[]⟩ with
    | none=>
     refine Bz ?_;push_cast [Gy];rw[if_neg `c];exact (eP1 _ _ _).mpr ⟨_,_,rfl,s5.trans s6,more λ_ _=>hu⟩
    | some u=>
     intro t H7 s7 hu7 ok7;push_cast [Gy];rw[if_pos `c];refine ⟨by show (2:Nat)≤sizeLine;decide,λpr hpr=>?_⟩;have S7:=(s5.trans s6).trans s7;have s8:=ab hpr (.tup [V.ref a',V.ref t]);refine q (x,u) ?_ pr _ (S7.trans s8) (N3 hRD hrs hrj ha' aa (TK.of (S7.trans s8)) (hu7.same s8));rw[←c,←c2,Gn bk hrj,hu];rfl
   ·exact ifN (by simpa using c2) ((eP1 _ _ _).mpr ⟨_,_,rfl,s5,more λ_ z=>absurd z c2⟩)
  ·exact ifN (by simpa using c) ((eP1 _ _ _).mpr ⟨_,_,rfl,s5,more λz=>absurd z c⟩)
 ·intro σ H5 hh;obtain ⟨v5,v6,rfl,s5,hno⟩:=(eP1 _ _ _).mp hh;push_cast [Dl];refine e (Lr λi x hi=>hno i x ?_ hi);rw[aa0,hRA.1];exact (List.getElem?_eq_some_iff.mp hi).1
noncomputable abbrev ly:Stmt:=top 21
theorem Gj:av ["book","words","place","kind","cover","steps","waiting","name","hole","step"] ["book","words","place","kind","cover"] (ae ly):=⟨rfl,rfl,rfl,by decide+kernel,rfl,by decide+kernel,by decide+kernel⟩
theorem Nu (G:Gs w K mg) (h_laid_rule:Has P w K mg base k "laid_rule" ["book","name","words","place","kind"] su) (h_last_hole_first:Has P w K mg base k "last_hole_first" ["book","step"] De) (D:Def K mg "laid_cover" ly ["book","words","place","kind","cover"]):Has P w K mg base (k+1) "laid_cover" ["book","words","place","kind","cover"] ow:=by
 refine D.has Gj (λvs H Q E h=>?_) (λf cdv A outer s H vs Q E hr h=>?_)
 ·obtain ⟨_,_,_,_,_,_,_,_,_,rfl,_,_,_,_,_,_,_,_,_,_,_,_⟩:=h;rfl
 have nd:=Gj.nd;have hu:=b8 hr;have hu0:=aaf hu;obtain ⟨b,wt,ct,kinds,rd,ws,p,kd,ns,rfl,hBD,hW,hC,bk,tw,hp,hkd,hkz,hnz,hnl,q,e⟩:=h;have m_len:=G.m_len;refine ⟨_,(A5 (A9 5 nd `bh) (A5 (A9 6 nd (AR (A1 (A8 (A1 (A0 2) `aI)) (A3 0)))) (A5 (AZ (BB (A0 4)) (AQ 7 nd (by first | exact ab6 rfl | exact ab5 rfl)) (A5 (AG (AH (AN 0) `cU (A2 0) (AF 0)) `ep (AK 0)) (A5 (A9 8 nd (BT aL cN cO (@vp _) (A0 6))) (A5 (A9 9 nd (AD h_laid_rule hr (A1 (A0 0) (A1 (A0 7) (A1 (A0 1) (A1 (A6 (AA 0) (A0 8) (A2 0)) (A1 (A6 (AA 0) (A0 8) (A2 0)) (A3 0)))))))) (A5 (AU (AS aL aS aT (AY 0) (A0 5) (A1 (A0 9) (A3 0)))) (A7 (AU (AS aL fX fY (@vq _) (A0 6) (A1 (AD h_last_hole_first hr (A1 (A0 0) (A1 (A0 9) (A3 0)))) (A3 0)))))))))) (A5 (AG (AH (@ko _) `cU (A2 0) (AF 0)) `ep (AK 0)) (A7 (AE (A0 5))))))),?_⟩;rw[show start ["book","words","place","kind","cover","steps","waiting","name","hole","step"] [.ref b,.ref wt,.int (p:Int),.str kd,.ref ct]=[aA `aJ,aA `bd,aA `Z,aA `bY,aA (.ref ct),none,none,none,none,none] from rfl];clear hu hu0 nd hr;push_cast [and_true];have sz:=aV;obtain ⟨rs,hrs⟩:∃rs,rs=rd.map (·.1):=⟨_,rfl⟩;have hB:qt H b kinds rs:=by rw[hrs];exact hBD.book
 rw[←hrs] at bk q e;refine ⟨aai _,λsl hsl=>⟨by show (2:Nat)≤sizeLine;decide,λp2 hp2=>⟨by show (1:Nat)≤sizeLine;decide,λwl hwl=>?_⟩⟩⟩;have s3:=ab hsl `ai;have s4:=ab hp2 `dm;have s5:=ab hwl `eK;have S5:=s3.trans (s4.trans s5);have fwl:=(s3.trans s4).free hwl;have nsw:sl≠wl:=ao (s4 _ _ (aa (H:=H) (a:=sl) (o:=.lst []))) hwl;have c5:=(s4.trans s5) _ _ (aa (H:=H) (a:=sl) (o:=.lst []));have p5:=s5 _ _ (aa (H:=upd H sl `ai) (a:=p2) (o:=.tup [V.int (p:Int),V.str kd]));have w5:upd (upd (upd H sl `ai) p2 `dm) wl `eK wl=aA `eK:=aa;generalize upd (upd (upd H sl `ai) p2 `dm) wl `eK=H5 at s5 S5 c5 p5 w5 ⊢;obtain ⟨P1,eP1⟩:∃P1:Nat→L2.St→Hp→Prop,∀j σ H',P1 j σ H'↔∃(as bs:List Addr) (ds:List (Rl×Und)) (st:List Ky) (v7 v8 v9:Option V),σ=[aA `aJ,aA `bd,aA `Z,aA `bY,aA (.ref ct),aA `bZ,aA (.ref wl),v7,v8,v9]∧ag H H'∧H' sl=aA `e∧dm rd H' as ds∧H' wl=aA `bN∧KsL H' bs st.reverse∧KyOk ws st∧st.length≤1+100*j∧ds.length≤j∧cu kinds rs ws ns [(p,kd)]=(cu kinds rs ws (ns.drop j) st).map (ds++·):=⟨_,λ_ _ _=>abv⟩;refine ⟨⟨_,SqT.of (S5 _ _ hC)⟩,ic (xs:=ns.map V.str) P1 ((eP1 _ _ _).mpr ⟨[],[p2],[],[(p,kd)],none,none,none,rfl,S5,c5,dm.nil rd _,w5,KsL.one p5,λk hk=>by rw[List.mem_singleton.mp hk];exact ⟨hp,hkd⟩,by show (1:Nat)≤_;omega,aa3 _,by rw[acn];simp⟩) (λj σ H' _ h=>by obtain ⟨_,_,_,_,_,_,_,_,s,_⟩:=(eP1 _ _ _).mp h;exact SqT.of (s _ _ hC)) ?_ ?_⟩
 ·intro j y σ H6 hy hh;obtain ⟨as,bs,ds,st,v7,v8,v9,rfl,s6,c6,D6,w6,K6,k6,sl6,dl6,cw⟩:=(eP1 _ _ _).mp hh;rw[aa5] at hy;obtain ⟨nm,hnm,rfl⟩:=Option.map_eq_some_iff.mp hy;have hjl:j < ns.length:=(List.getElem?_eq_some_iff.mp hnm).1;have ed:ns.drop j=nm::ns.drop (j+1):=by
   rw[aaw hjl];congr 1
   exact (List.getElem?_eq_some_iff.mp hnm).2
  rw[ed] at cw;have nmt:=hnz nm (aak hnm);push_cast [Dl];have bl:=K6.1;rw[aat] at bl;refine ⟨_,.inl (SqL.of w6),rfl,?_⟩;rw[aa0,bl];cases st with
  | nil=>
   refine ifY rfl (e ?_);rw[cw];rfl
  | cons k st=>
   obtain ⟨bs',a,rfl,K6',hk⟩:=K6.pop;refine ifN (by rw[aa8];omega) ?_;rw[aab] at w6;refine wm (xs:=bs'.map V.ref) (y:=.ref a) w6 ?_;have sA:=s6.upd fwl `be;have tkA:TK H6 (upd H6 wl `be):=TK.put w6 (λ_ z=>nomatch z);have wA:upd H6 wl `be wl=aA `be:=aa;have cA:upd H6 wl `be sl=aA `e:=by rw[ah nsw];exact c6
   have hkA:=tkA _ _ hk;have DA:=D6.tk tkA;have KA:=K6'.tk tkA;generalize upd H6 wl `be=HA at sA tkA wA cA hkA DA KA ⊢;have kk:=k6 k aa6;refine af hkA rfl (af hkA rfl (P7 (hBD.tk (TK.of sA)) (sA _ _ hW) (hrs ▸ bk) tw kk.1 nmt kk.2 (λd hd t HB sB hst=>?_) λhd=>?_))
   ·rw[←hrs] at hd;obtain ⟨kO,ul,hl⟩:=k6.step bk tw hkz hd;have cB:=sB _ _ cA;have wB:=sB _ _ wA;have al:=D6.1;have sC:=(sA.trans sB).upd hsl `U;have tkC:TK HB (upd HB sl `U):=TK.put cB (λ_ z=>nomatch z);have wC:upd HB sl `U wl=aA `be:=by rw[ah nsw.symm];exact wB
    have cC:upd HB sl `U sl=aA `U:=aa;have stC:=hst.tk tkC;have DC:=((DA.tk (TK.of sB)).tk tkC).snoc stC;have KC:=(KA.tk (TK.of sB)).tk tkC;refine cb cB (by rw[aa0];omega) ?_;generalize upd HB sl `U=HC at sC tkC wC cC stC DC KC ⊢;refine ⟨bj wC,mkLast (hB.same sC) bk (o7 (r:=d.1) (u:=d.2) hd).1 stC.step hl λl2 HD sD hl2 hKs=>?_⟩;obtain ⟨cs,e1,KL⟩:=hKs.l;have csl:=KL.1;have bl':=KA.1;rw[aat] at csl bl';have ul':(d.2.hs.zip (ak kinds d.1.shape)).length≤100:=ul;rw[aa8] at sl6;have wD:=sD _ _ wC;refine ⟨wl,l2,bs'.map V.ref,cs.map V.ref,rfl,rfl,wD,e1,by rw[aa0,aa0];omega,(eP1 _ _ _).mpr ⟨as++[t],bs'++cs,ds++[d],Be kinds d++st,_,_,_,rfl,(sC.trans sD).upd fwl _,?_,(DC.tk (TK.of sD)).tk (TK.put wD (λ_ z=>nomatch z)),by rw[aa,aab],?_,kO,by rw[aa1];omega,by rw[aa1,aa4];omega,?_⟩⟩
    ·rw[ah nsw,aab];exact sD _ _ cC
    ·rw[ad5];exact ((KC.tk (TK.of sD)).app KL).tk (TK.put wD (λ_ z=>nomatch z))
    ·rw[cw,gz hd,Option.map_map];congr 1
     funext x
     simp
   ·rw[←hrs] at hd;refine e ?_;rw[cw,ia hd];rfl
 ·intro σ H6 hh;obtain ⟨as,bs,ds,st,v7,v8,v9,rfl,s6,c6,D6,w6,K6,k6,sl6,dl6,cw⟩:=(eP1 _ _ _).mp hh;push_cast [Dl];have bl:=K6.1;rw[aat] at bl;refine ⟨_,.inl (SqL.of w6),?_⟩;rw[aa0,bl];rw[aa0,adj] at cw;cases st with
  | nil=>exact ifN `a (q ds (by rw[cw];simp[cu]) sl as H6 s6 c6 D6)
  | cons k st=>exact ifY (by rw[aa8];omega) (e (by rw[cw];rfl))
noncomputable abbrev mr:Stmt:=top 23
theorem Et:av ["rule"] ["rule"] (ae mr):=⟨rfl,rfl,rfl,by decide+kernel,rfl,by decide+kernel,by decide+kernel⟩
theorem Mw (G:Gs w K mg) (D:Def K mg "boxes_named" mr ["rule"]):Has P w K mg base (k+1) "boxes_named" ["rule"] nc:=by
 refine D.has Et (λvs H Q E h=>?_) (λf cdv A outer s H vs Q E hr h=>?_)
 ·obtain ⟨_,_,rfl,_,_,_,_⟩:=h;rfl
 have nd:=Et.nd;have hu:=b8 hr;have hu0:=aaf hu;obtain ⟨ra,r,rfl,hR,hw,hn,q⟩:=h;obtain ⟨a_BOXES,m_BOXES,s_BOXES⟩:=G.m_BOXES;have m_any:=G.m_any;refine ⟨_,(A7 (AE (@pe_lcK _ _ _ _ _ _ _ _ _ _ _ _ _ _ _ (@jc.mk _ _ "box" ["rule"] [0] _ rfl rfl (λ_ _=>rfl) (λ_=>rfl) rfl `Y rfl rfl `l) rfl (BB (@Kt _ _ _ _ m_BOXES rfl `b)) (λ_ _ _=>(@Ek _ _ 0 _ (show abj (["box","rule"]:List Str) by decide+kernel) rfl (ab5 rfl) `W)) (λ_ _ _=>(@pif1 _ _ _ (BQ (AO (@yr _ K rfl rfl) m_any b_any (A1 (BG (BA ["deed"] ["box"] [0] `Y `l) (@Ll _ K rfl _ _ _ (A6 (@Ej _ K rfl) (AJ 1) (A2 0))) (λ_ _ _=>(B8 0 (show abj (["deed","box"]:List Str) by decide+kernel))) (λ_ _ _=>(@xj _)) (λ_ _ _=>(@C5 _ _ _ _ _ _ _ _ (@yg _ K rfl) (AJ 1) (A0 0) `by))) (A3 0)))))) (λ_ _ _=>(AJ 0)) (by intro _;rfl)))),?_⟩;rw[show start ["rule"] [.ref ra]=[aA (.ref ra)] from rfl];clear hu hu0 nd hr;push_cast [and_true];have sz:=aV;obtain ⟨sa,da,hR1,hS,as,hda,hTL⟩:=hR;have hal:=hTL.1;have sB:∀H',SqT K H' a_BOXES (gx.map V.str):=s_BOXES;refine ⟨⟨_,sB H⟩,λD hD=>?_⟩;refine lz (xs:=gx.map V.str) (λi ys=>ys=((gx.take i).filter λb=>sy b r.2).map V.str) (sB H) (by show (4:Nat) < sizeLine;decide) hD rfl (λi x ys H3 G' K' hx hP hl2 hS' hG hK'=>?_) λys H3 hP hl2 hS' hD2=>?_
 ·rw[aa5] at hx;obtain ⟨bx,hbx,rfl⟩:=Option.map_eq_some_iff.mp hx;have et:(gx.take (i+1)).filter (λb=>sy b r.2)=(gx.take i).filter (λb=>sy b r.2)++if sy bx r.2=true then [bx] else []:=by
   rw[aav,hbx,acb];congr 1
   show [bx].filter _=_
   rw[ab9];rfl
  push_cast [and_true];refine af (hS' _ _ hR1) rfl ⟨da,rfl,⟨_,SqT.of (hS' _ _ hda)⟩,λD2 hD2=>?_⟩;refine lz (xs:=as.map V.ref) (λj ys=>ys=(r.2.take j).map λx=>V.bl (inV (.str bx) x)) (SqT.of (hS' _ _ hda)) (by rw[aa0,hal];omega) hD2 rfl (λj x ys H4 G2 K2 hx hP2 hl3 hS2 hG2 hK2=>?_) λys H4 hP2 hl3 hS2 hD3=>?_
  ·rw[aa5] at hx;obtain ⟨aj,haj,rfl⟩:=Option.map_eq_some_iff.mp hx;have hj:j < r.2.length:=by rw[←hal];exact (List.getElem?_eq_some_iff.mp haj).1
   have hk:=aa2 hj;obtain ⟨aj',haj',e3⟩:=hTL.2 j _ hk;obtain rfl:aj'=aj:=aaa (haj'.symm.trans haj);push_cast [rIn];refine ⟨_,.inr (SqT.of ((hS'.trans hS2) _ _ e3)),rfl,List.all_eq_true.mpr λv hv=>(hw _ (aaj hj) v hv).flat,hK2 _ _ `az ?_⟩;rw[hP2,aav,hk,aab];rfl
  ·refine ⟨r.2.map λx=>inV (.str bx) x,SqL.of (by rw[hD3,hP2,aa0,hal,ab0 (aa3 _),abd];rfl),?_⟩;rw[any_map];refine df (λcc=>?_) λcc=>?_
   ·exact hK' _ _ hS2 (by rw[et,if_pos (show sy bx r.2=true from cc),aab,←hP];rfl)
   ·exact hG _ hS2 (by rw[et,if_neg (show ¬sy bx r.2=true from cc),ab3];exact hP)
 ·subst hP;exact q D H3 hS' hD hD2
noncomputable abbrev lj:Stmt:=top 24
theorem Fo:av ["steps","holes","waiting","number","hole"] ["steps"] (ae lj):=⟨rfl,rfl,rfl,by decide+kernel,rfl,by decide+kernel,by decide+kernel⟩
theorem L0 (G:Gs w K mg) (D:Def K mg "steps_below" lj ["steps"]):Has P w K mg base (k+1) "steps_below" ["steps"] um:=by
 refine D.has Fo (λvs H Q E h=>?_) (λf cdv A outer s H vs Q E hr h=>?_)
 ·obtain ⟨_,_,_,_,rfl,_,_,_,_,_⟩:=h;rfl
 have nd:=Fo.nd;have hu:=b8 hr;have hu0:=aaf hu;obtain ⟨sl,as,rd,ds,rfl,hL,hSt,hi,hl,q⟩:=h;have m_len:=G.m_len;have m_range:=G.m_range;refine ⟨_,(A5 (BM 1 nd (BA ["step"] [] [] trivial trivial) (BF (A0 0)) (λ_ _ _=>(B8 0 (show abj (["step"]:List Str) by decide+kernel))) (λ_ _ _=>(@xj _)) (λ_ _ _=>(AR (A3 0)))) (A5 (A9 2 nd `bh) (A5 (AZ (@Cq _ _ _ _ _ _ _ _ rfl m_range (A1 (A4 (BC 0) `cT (A2 0)) `dB) rfl rfl) (AQ 3 nd (by first | exact ab6 rfl | exact ab5 rfl)) (A5 (AZ (BB (A6 (AA 0) (A6 (AA 0) (A6 (AL 0) (A0 0) (A0 3)) (A2 0)) (A2 0))) (AQ 4 nd (by first | exact ab6 rfl | exact ab5 rfl)) (A7 (AU (AS aL aS aT (AY 0) (A6 (AL 0) (A0 1) (A0 3)) (A1 (BT aL cN cO (@vp _) (A0 2)) (A3 0)))))) (A7 (AU (AS aL aS aT (AY 0) (A0 2) (A1 (A0 3) (A3 0))))))) (A7 (AE (A0 1)))))),?_⟩;rw[show start ["steps","holes","waiting","number","hole"] [.ref sl]=[aA (.ref sl),none,none,none,none] from rfl];clear hu hu0 nd hr;push_cast [and_true];have sz:=aV;have hal:=hSt.1;push_cast [iDn];refine ⟨⟨_,SqL.of hL⟩,λD hD=>Sg (xs:=as.map V.ref) (λi ys H'=>∃rs:List Addr,ys=rs.map V.ref∧rs.length=i∧rs.Nodup∧(∀r∈rs,r≠D∧H r=none)∧dq H' rs (λ_=>[])) ?_ (SqL.of hL) (by rw[aa0];omega) hD ⟨[],rfl,rfl,acx,(λ_ h=>nomatch h),λq hq=>absurd hq (af2 _)⟩ (λi x ys H1 G' K' hx hP hl2 hS hDl hG hK=>?_) λys H2 hP hl2 hS hD2=>?_⟩
 ·rintro i ys H1 H2 keep ⟨rs,e1,e2,e3,e4,e5⟩;exact ⟨rs,e1,e2,e3,e4,λq hq=>keep _ _ (e4 _ (getD_mem hq)).1 (e5 q hq)⟩
 ·push_cast [and_true];obtain ⟨rs,rfl,e2,e3,e4,e5⟩:=hP;refine ⟨aai _,λr hr=>hK _ _ (ab hr _) ⟨rs++[r],by rw[aab];rfl,by rw[aa1,e2];rfl,?_,λx hx=>?_,e5.snoc hr⟩⟩
  ·rw[List.nodup_append];refine ⟨e3,by simp,λa ha b hb=>?_⟩;rw[List.mem_singleton.mp hb];rintro rfl;exact e5.out hr ha
  ·rcases List.mem_append.mp hx with h | h
   ·exact e4 x h
   ·rw[List.mem_singleton.mp h];exact ⟨(ao hDl hr).symm,hS.free hr⟩
 ·obtain ⟨rs,rfl,e2,e3,e4,e5⟩:=hP;rw[aa0,hal] at e2;refine ⟨aai _,λpp hpp=>?_⟩;have ppD:pp≠D:=(ao hD2 hpp).symm;have ppr:pp∉rs:=e5.out hpp;have ppn:H pp=none:=hS.free hpp;have s4:ag H (upd H2 pp `ai):=hS.upd ppn _;have d4:=ab hpp `ai _ _ hD2;have p4:upd H2 pp `ai pp=aA `ai:=aa;have l4:=e5.same (ab hpp `ai);generalize upd H2 pp `ai=H4 at s4 d4 p4 l4 ⊢;have har:(er ds).length=ds.length:=aa0 _;refine ⟨_,.inl (SqL.of (s4 _ _ hL)),ds.length,by rw[aa0,hal],by omega,?_⟩;refine J2 (n:=ds.length) (λi σ H'=>∃(v1 v2:Option V),σ=[aA `bZ,aA (.ref D),aA (.ref pp),v1,v2]∧ag H H'∧H' D=aA `aT∧H' pp=aA (.lst ((starts i ((er ds).drop i)).reverse.map plV))∧dq H' rs (λq=>if i≤q then az (er ds) q else [])) ?_ ?_ ?_
  ·refine ⟨none,none,rfl,s4,d4,?_,l4.congr λq hq=>if_neg (by omega)⟩;rw[abr (by omega)];exact p4
  ·rintro p σ H5 hpl ⟨v1,v2,rfl,s5,d5,p5,l5⟩;have hx:ds[p]?=aA ds[p]:=aa2 hpl;obtain ⟨ap,hap,hst⟩:=hSt.2 p _ hx;generalize ds[p]=dd at hx hst;obtain ⟨x,ra,ut,_,_,hst3,hst4,t1,t2,t3,u1,u2,u3,u4⟩:=hst;push_cast [and_true];obtain ⟨m',hm'⟩:=Fx hi (p:=p) (by omega);have Sle:=Dh _ _ hm';rw[aau] at Sle;have Sl:=yx _ _ (p+1) hm';have ea:(er ds).getD p 0=dd.2.hs.length:=by unfold er;rw[aa7,aa5,hx];rfl
   have hbel:az (er ds) p=(starts (p+1) ((er ds).drop (p+1))).take dd.2.hs.length:=by unfold az;rw[ea]
   have hst:starts p ((er ds).drop p)=p::(starts (p+1) ((er ds).drop (p+1))).drop dd.2.hs.length:=by rw[Nn _ p (by omega),ea]
   rw[ea] at Sl Sle;generalize starts (p+1) ((er ds).drop (p+1))=S at Sl hbel hst p5;have hpr:p < rs.length:=by omega
   obtain ⟨rD,rn⟩:=e4 _ (getD_mem hpr);have rp:pp≠rs.getD p 0:=λe=>ppr (by rw[e];exact getD_mem hpr);have hat2:atI (rs.map V.ref) (p:Int)=aA (.ref `dJ):=bb (by rw[aa5,aa7,aa2 hpr];rfl);refine ax (s5 _ _ hL) (bb (by rw[aa5,hap];rfl)) (af (s5 _ _ hst3) rfl (af (s5 _ _ u1) rfl ⟨t1,rfl,⟨_,SqT.of (s5 _ _ u2)⟩,?_⟩));refine ic (xs:=dd.2.hs.map plV) (λk σ H'=>∃v:Option V,σ=[aA `bZ,aA (.ref D),aA (.ref pp),aA `Z,v]∧ag H H'∧H' D=aA `aT∧H' pp=aA (.lst ((S.drop k).reverse.map plV))∧dq H' rs (λq=>if q=p then S.take k else if p < q then az (er ds) q else [])) ?_ (λk σ H' _ h=>by obtain ⟨_,_,s,_⟩:=h;exact SqT.of (s _ _ u2)) ?_ ?_
   ·refine ⟨v2,rfl,s5,d5,p5,l5.congr λq hq=>?_⟩;by_cases e:q=p
    ·rw[if_pos e,if_neg (by omega)];rfl
    ·rw[if_neg e];by_cases e2:p < q
     ·rw[if_pos e2,if_pos (by omega)]
     ·rw[if_neg e2,if_neg (by omega)]
   ·rintro k y σ H8 hy ⟨v,rfl,s8,d8,p8,l8⟩;have hk:k < dd.2.hs.length:=by have:=(List.getElem?_eq_some_iff.mp hy).1;rw[aa0] at this;exact this
    push_cast [and_true];have l8p:H8 `dJ=aA (.lst ((S.take k).map plV)):=by
     have:H8 `dJ=aA (.lst ((if p=p then S.take k else if p < p then az (er ds) p else []).map plV)):=l8 p hpr;rwa [if_pos rfl] at this
    have hkS:k < S.length:=by omega
    have hdk:S.drop k=S[k]::S.drop (k+1):=aaw hkS;have p8':H8 pp=aA (.lst ((S.drop (k+1)).reverse.map plV++[plV S[k]])):=by
     rw[p8,hdk,abf,aab];rfl
    have etk:(S.take k).map plV++[plV S[k]]=(S.take (k+1)).map plV:=by
     rw[aav,aa2 hkS,aab];rfl
    refine ax d8 hat2 ⟨bj l8p,wm p8' (cb (K:=K) (by rw[ah rp.symm];exact l8p) (by rw[aa0,ab1];omega) ⟨(s8.upd ppn _).upd rn _,by rw[ah rD.symm,ah ppD.symm];exact d8,by rw[ah rp,aa],?_⟩).2⟩;rw[etk];refine ((l8.other ppr).put e3 hpr).congr λq hq=>?_;by_cases e:q=p
    ·rw[if_pos e,if_pos e]
    ·rw[if_neg e,if_neg e,if_neg e]
   ·rintro σ H8 ⟨v,rfl,s8,d8,p8,l8⟩;rw[aa0] at p8 l8;push_cast [and_true];refine cb p8 (by rw[aa0,aat,aau];omega) ⟨s8.upd ppn _,by rw[ah ppD.symm];exact d8,?_,(l8.other ppr).congr λq hq=>?_⟩
    ·rw[aa,hst,abf,aab];rfl
    ·by_cases e:q=p
     ·rw[if_pos e,if_pos (by omega),e,hbel]
     ·rw[if_neg e];by_cases e2:p < q
      ·rw[if_pos e2,if_pos (by omega)]
      ·rw[if_neg e2,if_neg (by omega)]
  ·rintro σ H5 ⟨v1,v2,rfl,s5,d5,p5,l5⟩;push_cast [and_true];exact q D rs H5 s5 d5 e2 (l5.congr λq hq=>(if_pos (by omega)).symm)
noncomputable abbrev mf:Stmt:=top 25
theorem Ew:av ["holes","order","waiting","number"] ["holes"] (ae mf):=⟨rfl,rfl,rfl,by decide+kernel,rfl,by decide+kernel,by decide+kernel⟩
theorem Lq (G:Gs w K mg) (D:Def K mg "holes_ahead" mf ["holes"]):Has P w K mg base (k+1) "holes_ahead" ["holes"] sx:=by
 refine D.has Ew (λvs H Q E h=>?_) (λf cdv A outer s H vs Q E hr h=>?_)
 ·obtain ⟨_,_,_,rfl,_,_,_,_,_,_⟩:=h;rfl
 have nd:=Ew.nd;have hu:=b8 hr;have hu0:=aaf hu;obtain ⟨hl,rs,ar,rfl,hL,hLs,hrl,hi,hn,q⟩:=h;have m_len:=G.m_len;have m_list:=G.m_list;have m_reversed:=G.m_reversed;refine ⟨_,(A5 (A9 1 nd `bh) (A5 (A9 2 nd (AR `ce)) (A5 (BV (AH (@ko _) (AO (AV 0) m_len dg `c7) (A2 0) (AF 0)) (A5 (A9 3 nd (BT aL cN cO (@vp _) (A0 2))) (A5 (AU (AS aL aS aT (AY 0) (A0 1) `aI)) (A7 (AU (AS aL fX fY (@vq _) (A0 2) (A1 (A6 (AL 0) (A0 0) (A0 3)) (A3 0)))))))) (A7 (AE (@Ab _ _ _ _ _ _ _ rfl rfl m_list rfl m_reversed `ec rfl rfl)))))),?_⟩;rw[show start ["holes","order","waiting","number"] [.ref hl]=[aA (.ref hl),none,none,none] from rfl];clear hu hu0 nd hr;push_cast [and_true];have sz:=aV;have e0:eat 1 (ar.drop 0)=aA ar.length:=by rw[acn];exact gc _ _ hi
 refine ⟨aai _,λol hol=>?_⟩;have s1:=ab hol `ai;have o1:upd H ol `ai ol=aA `ai:=aa;generalize upd H ol `ai=H1 at s1 o1 ⊢;refine ⟨by show (1:Nat)≤sizeLine;decide,λwl h_wl=>?_⟩;have s_wl:=ab h_wl (.lst [V.int 0]);have e_wl:upd H1 wl (.lst [V.int 0]) wl=aA (.lst [V.int 0]):=aa;generalize upd H1 wl (.lst [V.int 0])=H2 at s_wl e_wl ⊢;have nwo:wl≠ol:=(ao o1 h_wl).symm;have fwl:=s1.free h_wl;obtain ⟨P1,eP1⟩:∃P1:L2.St→Hp→Prop,∀σ H',P1 σ H'↔∃(os w:List Nat) (v3:Option V),σ=[aA (.ref hl),aA (.ref ol),aA (.ref wl),v3]∧ag H H'∧H' ol=aA `b6∧H' wl=aA (.lst (w.map plV))∧(∀q∈w,∃s,eat 1 (ar.drop q)=aA s)∧os++w.reverse.flatMap (back ar)=back ar 0:=⟨_,λ_ _=>abv⟩;refine nr P1 (λσ H'=>ar.length+1 - Aj H' ol) ?_ ?_ ?_
 ·exact (eP1 _ _).mpr ⟨[],[0],none,rfl,s1.trans s_wl,s_wl _ _ o1,e_wl,λq hq=>by rw[List.mem_singleton.mp hq];exact ⟨_,e0⟩,by simp⟩
 ·intro σ H4 hh;refine ob3 ((eP1 _ _).mp hh) λos w v3 hh=>?_;have s4:=hh.2.1;have o4:=hh.2.2.1;have w4:=hh.2.2.2.1;have k4:=hh.2.2.2.2.1;have b4:=hh.2.2.2.2.2;obtain rfl:=hh.1;clear hh;push_cast [tLR];have len:os.length+(w.reverse.flatMap (back ar)).length=ar.length:=by
   have:=congrArg ac2 b4;rw[aa1] at this;have e:(back ar 0).length=ar.length:=by unfold back;rw[aat,o8 e0]
   omega
  have wle:w.length≤(w.reverse.flatMap (back ar)).length:=by
   have:=yq (ar:=ar) (w:=w.reverse) λq hq=>k4 q (List.mem_reverse.mp hq);rw[aat] at this;exact this
  refine ⟨_,.inl (SqL.of w4),?_⟩;rcases List.eq_nil_or_concat w with rfl | ⟨w',p,rfl⟩
  ·rw[if_neg `a];refine ⟨_,SqL.of o4,λt ht=>q t _ (s4.trans (ab ht _)) ?_⟩;rw[aa,←af0];have b4:os++[]=back ar 0:=b4;rw[ab3] at b4;rw[b4];unfold back;rw[List.reverse_reverse]
  ·rw[List.concat_eq_append] at*;obtain ⟨s,hs⟩:=k4 p `eX;have hp:=(gb hs).1;rw[aa1,aa4] at wle;have eb:(w'++[p]).reverse.flatMap (back ar)=p::((w'++az ar p).reverse.flatMap (back ar)):=by
    rw[ad5,ad5,ad6,ad6];show (back ar p++[])++_=_
    rw[ab3,back_eq hs];rfl
   have hbl:(w'++az ar p).length≤ar.length:=by
    have h1:=yq (ar:=ar) (w:=(w'++az ar p).reverse) λq hq=>by
     rcases List.mem_append.mp (List.mem_reverse.mp hq) with z | z
     ·exact k4 q (abp _ z)
     ·obtain ⟨t,a,_⟩:=i8 hs q z;exact ⟨t,a⟩
    rw[aat] at h1;rw[eb,aa8] at len;omega
   rw[aa1] at hbl;rw[eb,aa8] at len;rw[if_pos (by rw[aa0,aa1,aa4];omega)];rw[aab] at w4;refine wm (xs:=w'.map plV) (y:=plV p) w4 ?_;have s5:=s4.upd fwl `b5;have w5:upd H4 wl `b5 wl=aA `b5:=aa;have o5:upd H4 wl `b5 ol=aA `b6:=by rw[ah nwo.symm];exact o4
   generalize upd H4 wl `b5=H5 at s5 w5 o5 ⊢;refine cb (K:=K) o5 (by rw[aa0];omega) ?_;have s6:=s5.upd hol `aX;have w6:upd H5 ol `aX wl=aA `b5:=by rw[ah nwo];exact w5
   have o6:upd H5 ol `aX ol=aA `aX:=aa;generalize upd H5 ol `aX=H6 at s6 w6 o6 ⊢;have hpr:p < rs.length:=by omega
   refine ⟨bj w6,ax (v:=.ref `dJ) (s6 _ _ hL) (bb (by rw[aa5,aa7,aa2 hpr];rfl)) ?_⟩;refine ⟨wl,_,w'.map plV,(az ar p).map plV,rfl,rfl,w6,s6 _ _ (hLs p hpr),by rw[aa0,aa0];omega,(eP1 _ _).mpr ⟨os++[p],w'++az ar p,_,rfl,s6.upd fwl _,by rw[ah nwo.symm,o6,aab];rfl,by rw[aa,aab],λq hq=>?_,?_⟩,?_⟩
   ·rcases List.mem_append.mp hq with z | z
    ·exact k4 q (abp _ z)
    ·obtain ⟨t,a,_⟩:=i8 hs q z;exact ⟨t,a⟩
   ·rw[←b4,eb,acw];rfl
   ·rw[ke (show upd H6 wl _ ol=aA `aX by rw[ah nwo.symm];exact o6),ke o4,aa1,aa0,aa4];omega
 ·intro σ H' Q1 Q2 hq h;exact Ho hq h
noncomputable abbrev je:Stmt:=top 29
theorem Cj:av ["steps","order","boxes","many","number","more"] ["steps","order"] (ae je):=⟨rfl,rfl,rfl,by decide+kernel,rfl,by decide+kernel,by decide+kernel⟩
theorem Ic (G:Gs w K mg) (h_boxes_named:Has P w K mg base k "boxes_named" ["rule"] nc) (D:Def K mg "counted_boxes" je ["steps","order"]):Has P w K mg base (k+1) "counted_boxes" ["steps","order"] oz:=by
 refine D.has Cj (λvs H Q E h=>?_) (λf cdv A outer s H vs Q E hr h=>?_)
 ·obtain ⟨_,_,_,_,_,rfl,_,_,_,_,_,_,_,_⟩:=h;rfl
 have nd:=Cj.nd;have hu:=b8 hr;have hu0:=aaf hu;obtain ⟨sl,ol,as,es,os,rfl,hL,hSt,hO,nd0,hos,hdy,hol,q⟩:=h;have m_len:=G.m_len;have m_list:=G.m_list;have m_range:=G.m_range;refine ⟨_,(A5 (A9 2 nd (@yz _ _)) (A5 (A9 3 nd (A2 0)) (A5 (AZ (BF (A0 1)) (AQ 4 nd (by first | exact ab6 rfl | exact ab5 rfl)) (A5 (A9 5 nd (A4 (AM 0) (A0 3) (AO (AV 0) m_len dg (A1 (AD h_boxes_named hr (A1 (A6 (AA 0) (A6 (AL 0) (A0 0) (A0 4)) (A2 0)) (A3 0))) (A3 0))))) (A5 (BL hu (A0 2) (A0 4) (B0 (@Ah _ rfl) m_list Ik (A1 (B0 (@Es _) m_range Ua (A1 (A0 3) (A1 (A0 5) (A3 0)))) (A3 0)))) (A7 (A9 3 nd (A0 5)))))) (A7 (AE (A0 2)))))),?_⟩;rw[show start ["steps","order","boxes","many","number","more"] [.ref sl,.ref ol]=[aA (.ref sl),aA (.ref ol),none,none,none,none] from rfl];clear hu hu0 nd hr;push_cast [and_true];have sz:=aV;intro d hd;have s1:=ab hd (.dK []);have b1:m9 (upd H d (.dK [])) (λx=>H x≠none∨x=d) d es []:=m9.nil;generalize upd H d `bU=H1 at s1 b1 ⊢;refine ⟨⟨_,SqL.of (s1 _ _ hO)⟩,?_⟩;refine i9 (xs:=os.map plV) (λj σ H'=>∃(v4 v5:Option V),σ=[aA `bZ,aA (.ref ol),aA `X,aA (.int (sumOf `aN `cP:Nat)),v4,v5]∧ag H H'∧m9 H' (λx=>H x≠none∨x=d) d es `cP) ⟨none,none,rfl,s1,b1⟩ (λj σ H' _ h=>by obtain ⟨_,_,_,s,_⟩:=h;exact SqL.of (s _ _ hO)) ?_ ?_
 ·rintro j y σ H5 hy ⟨v4,v5,rfl,s5,b5⟩;rw[aa5] at hy;obtain ⟨o,ho,rfl⟩:=Option.map_eq_some_iff.mp hy;have hol2:=hos o (aak ho);have hx:=aa2 hol2;obtain ⟨ap,hap,ra,ut,g1,g2,g3⟩:=hSt.2 o _ hx;have hdd:=hdy _ (aaj hol2);have enb:nbE es o=(b9 es[o].1.2).length:=by unfold nbE;rw[hx];rfl
  generalize es[o]=e at hx g2 g3 hdd enb;push_cast [and_true];refine ax (s5 _ _ hL) (bb (by rw[aa5,hap];rfl)) (af `eQ rfl (Gw (g2.tk (TK.of s5)) hdd.1 hdd.2 λl H6 s6 hl6 h6=>⟨_,.inl (SqL.of h6),?_⟩));rw[aa0,←enb];have htl:(os.take j).length≤1000:=by rw[ab1];omega
  have sle:=Qo es `cP;have nle:=nb_le es o;refine λp1 hp1=>⟨_,_,aa,by omega,by omega,by omega,λl2 hl2=>?_⟩;have ev:((sumOf `aN `cP:Int)+(nbE es o:Int) - (sumOf `aN `cP:Int)).toNat=nbE es o:=by omega
  rw[ev,Rh];have s7:=ab hp1 (.rng (sumOf `aN `cP:Int) ((sumOf `aN `cP:Int)+(nbE es o:Int)));have s8:=ab hl2 (.lst ((acm (sumOf `aN `cP) (nbE es o)).map plV));have s58:=s6.trans (s7.trans s8);have fl2:H5 l2=none:=(s6.trans s7).free hl2;obtain ⟨kvs0,hd0,_⟩:=id b5;have hpo:o∉os.take j:=λz=>by
   obtain ⟨i,hi⟩:=ab7 z;have hij:=(List.getElem?_eq_some_iff.mp hi).1;rw[ab1] at hij;rw[ad8 (by omega)] at hi;obtain ⟨a1,b1⟩:=List.getElem?_eq_some_iff.mp hi;obtain ⟨a2,b2⟩:=List.getElem?_eq_some_iff.mp ho;have:=(ae1 nd0).mp (b1.trans b2.symm);omega
  obtain ⟨kvs,k1,k2,k3⟩:=(b5.same s58).snoc (p:=o) (l:=l2) (.inr rfl) hpo (by
   rintro (z | z)
   ·exact z (s5.free fl2)
   ·exact (ao hd0 fl2) z.symm) aa
  refine ⟨_,va.k (k:=bA (o:Int)) k1 (by omega),?_⟩;have et:os.take (j+1)=os.take j++[o]:=by rw[aav,ho];rfl
  refine ⟨by rw[et,Fc];rfl,(s5.trans s58).upd hd _,by rw[et];exact k3⟩
 ·rintro σ H5 ⟨v4,v5,rfl,s5,b5⟩;push_cast [and_true];rw[aa0,ab0 (aa3 _)] at b5;exact q d H5 s5 hd (b5.weak λx hx=>.inl hx)
noncomputable abbrev qw:Stmt:=top 26
theorem Ki:av ["step","results","boxes","meant","letter","found","number","thing"] ["step","results","boxes"] (ae qw):=⟨rfl,rfl,rfl,by decide+kernel,rfl,by decide+kernel,by decide+kernel⟩
theorem Pq (G:Gs w K mg) (h_boxes_named:Has P w K mg base k "boxes_named" ["rule"] nc) (D:Def K mg "meanings" qw ["step","results","boxes"]):Has P w K mg base (k+1) "meanings" ["step","results","boxes"] xt:=by
 refine D.has Ki (λvs H Q E h=>?_) (λf cdv A outer s H vs Q E hr h=>?_)
 ·obtain ⟨_,_,_,_,_,_,rfl,_,_,_,_,_,_,_,_,_⟩:=h;rfl
 have nd:=Ki.nd;have hu:=b8 hr;have hu0:=aaf hu;obtain ⟨st,rl,bl,e,is,bs,rfl,hSt,hDy,hR,hB,hbl,hil,hnl,hvl,q⟩:=h;have m_dict:=G.m_dict;have m_enumerate:=G.m_enumerate;have m_zip:=G.m_zip;refine ⟨_,(A5 (A9 3 nd (@Iw _ _ _ _ _ _ _ _ rfl rfl m_dict rfl m_zip (A1 (AD h_boxes_named hr (A1 `F (A3 0))) `c7) rfl rfl rfl)) (A5 (AZ (@Vc _ _ _ _ _ _ _ rfl m_zip (ab5 (aet _ (aet _ (aet _ rfl)))) (A1 (AB 0) (A1 (A8 (A1 (A0 1) (A1 (A6 (AA 0) `F (A2 0)) (A1 (A6 (AA 0) `F (A2 0)) (A3 0))))) (A3 0))) rfl rfl) (BN 2 (B6 (AQ 4 nd (by first | exact ab6 rfl | exact ab5 rfl)) (B6 (AQ 5 nd (by first | exact ab6 rfl | exact ab5 rfl)) (@jq _)))) (A7 (AZ (@Ro _ _ _ _ _ _ _ _ _ _ _ rfl m_enumerate (A1 (A0 5) (A3 0)) rfl) (BN 2 (B6 (AQ 6 nd (by first | exact ab6 rfl | exact ab5 rfl)) (B6 (AQ 7 nd (by first | exact ab6 rfl | exact ab5 rfl)) (@jq _)))) (A7 (BL hu (A0 3) (@Uj _ _ _ _ _ _ _ (@px_s _ _ _ _ _ _ _ (A0 4) (@px_i _ _ _ _ _ _ _ (A0 6) (@px_nil _))) (by decide)) (A0 7)))))) (A7 (AE (A0 3))))),?_⟩;rw[show start ["step","results","boxes","meant","letter","found","number","thing"] [.ref st,.ref rl,.ref bl]=[aA (.ref st),aA (.ref rl),aA (.ref bl),none,none,none,none,none] from rfl];clear hu hu0 nd hr;push_cast [and_true];have sz:=aV;obtain ⟨ra,ut,g1,g2,g3⟩:=hSt;obtain ⟨t1,t2,t3,u1,u2,u3,u4⟩:=id g3;have uL:=Kr e.1.2;push_cast [tDZ,iZipS];refine af g1 rfl (Gw g2 hDy.1 hDy.2 λl H1 s1 hl1 h1=>?_);refine ⟨l,rfl,(b9 e.1.2).map (aM:Str→Key),SqL.of (by rw[h1,abd];rfl),bs.map V.int,SqL.of (s1 _ _ hB),by rw[aa0,aa0,hbl],by rw[aa0];omega,λd hd=>?_⟩;have s2:=ab hd `aV;have D2:DM (upd H1 d `aV) d `d7 4:=DM.first uL
 have fd:=s1.free hd;generalize upd H1 d `aV=H2 at s2 D2 ⊢;have S2:=s1.trans s2;refine af (S2 _ _ g1) rfl (af (S2 _ _ u1) rfl (af (S2 _ _ g1) rfl (af (S2 _ _ u1) rfl ?_)));refine ⟨by show (3:Nat)≤sizeLine;decide,λtp h_tp=>?_⟩;have s_tp:=ab h_tp `L;have e_tp:upd H2 tp `L tp=aA `L:=aa;generalize upd H2 tp `L=H3 at s_tp e_tp ⊢;have S3:=S2.trans s_tp;refine ⟨by decide+kernel,⟨_,SqT.of e_tp⟩,?_⟩;obtain ⟨P1,eP1⟩:∃P1:Nat→L2.St→Hp→Prop,∀i σ H',P1 i σ H'↔∃(v4 v5 v6 v7:Option V),σ=[aA `cG,aA `da,aA (.ref bl),aA `X,v4,v5,v6,v7]∧ag H H'∧H' tp=aA `L∧DM H' d (mI e is bs i) (4+1000*i):=⟨_,λ_ _ _=>abv⟩;refine L9 (ys:=[V.ref rl,V.ref t2,V.ref t3]) P1 ((eP1 _ _ _).mpr ⟨none,none,none,none,rfl,S3,e_tp,D2.same s_tp⟩) (by show (aB "hnv").cps.size=3;decide+kernel) (λi σ H' _ h=>by obtain ⟨_,_,_,_,_,_,z,_⟩:=(eP1 _ _ _).mp h;exact SqT.of z) ?_ ?_
 ·intro i ch y σ H4 p4 hch hy hh hp4;obtain ⟨v4,v5,v6,v7,rfl,S4,z4,D4⟩:=(eP1 _ _ _).mp hh;refine ie aa rfl ?_;have s5:=ab hp4 (.tup [V.str ⟨#[ch]⟩,y]);have S5:=S4.trans s5;have D5:=D4.same s5;have z5:=s5 _ _ z4;generalize upd H4 p4 (.tup [V.str ⟨#[ch]⟩,y])=H5 at s5 S5 D5 z5 ⊢;have hi:i < 3:=(List.getElem?_eq_some_iff.mp hy).1;have s6:=ag.refl H5;have D6:=D5;push_cast [Qu];rcases (show i=0∨i=1∨i=2 by omega) with rfl | rfl | rfl
  ·cases hy
   obtain rfl:ch=104:=aaa (hch.symm.trans (show (aB "hnv").cps[0]?=aA 104 by decide+kernel));have hlen:(is.map V.int).length≤1000:=by rw[aa0];exact hil
   refine ⟨rl,rfl,is.map V.int,.inl ⟨SqL.of (S5 _ _ hR),?_⟩⟩;refine Jv (xs:=is.map V.int) (λj σ H'=>∃(v6 v7:Option V),σ=[aA `cG,aA `da,aA (.ref bl),aA `X,aA (.str `K),aA `da,v6,v7]∧ag H H'∧H' tp=aA `L∧DM H' d (putL `K ((is.map V.int).take j) 0 (mI e is bs 0)) (4+1000*0+j)) ⟨v6,v7,rfl,S5,z5,D5⟩ (λj σ H' _ h=>by obtain ⟨_,_,_,s,_⟩:=h;exact SqL.of (s _ _ hR)) ?_ ?_
   ·rintro j y σ H7 p7 hy ⟨w6,w7,rfl,s7,z7,D7⟩ hp7;refine ie aa rfl ?_;have hjl:j < (is.map V.int).length:=(List.getElem?_eq_some_iff.mp hy).1;have s8:=ab hp7 `de;obtain ⟨H9,P9,D9,o9,rfl⟩:=(D7.same s8).put (by omega) (bz `K (j+1)) y;push_cast [tFx,tXS,tXI,tX0];have ntp:tp≠d:=by
     obtain ⟨kvs,hk,_⟩:=D7;exact mx z7 hk (by intro z;cases z)
    refine ⟨by decide,?_,_,P9,(s7.trans s8).upd fd _,by rw[ah ntp];exact s8 _ _ z7,?_⟩
    ·show (j+1).log2 < 1920
     exact ac9 (ae8 _) (by omega)
    ·rw[aav,hy,show (aA y).toList=[y] from rfl,qc,abu,ab1,ad7 (by omega)];exact D9
   ·rintro σ H7 ⟨w6,w7,rfl,s7,z7,D7⟩;rw[ab0 (aa3 _)] at D7;exact (eP1 _ _ _).mpr ⟨_,_,_,_,rfl,s7,z7,D7.mono (by omega)⟩
  ·cases hy
   obtain rfl:ch=110:=aaa (hch.symm.trans (show (aB "hnv").cps[1]?=aA 110 by decide+kernel));have hlen:(e.2.ns).length≤1000:=hnl;refine ⟨t2,rfl,e.2.ns,.inr ⟨SqT.of (S5 _ _ u3),?_⟩⟩;refine ym (xs:=e.2.ns) (λj σ H'=>∃(v6 v7:Option V),σ=[aA `cG,aA `da,aA (.ref bl),aA `X,aA (.str `bV),aA (.ref t2),v6,v7]∧ag H H'∧H' tp=aA `L∧DM H' d (putL `bV ((e.2.ns).take j) 0 (mI e is bs 1)) (4+1000*1+j)) ⟨v6,v7,rfl,S5,z5,D5⟩ (λj σ H' _ h=>by obtain ⟨_,_,_,s,_⟩:=h;exact SqT.of (s _ _ u3)) ?_ ?_
   ·rintro j y σ H7 p7 hy ⟨w6,w7,rfl,s7,z7,D7⟩ hp7;refine ie aa rfl ?_;have hjl:j < (e.2.ns).length:=(List.getElem?_eq_some_iff.mp hy).1;have s8:=ab hp7 `de;obtain ⟨H9,P9,D9,o9,rfl⟩:=(D7.same s8).put (by omega) `em y;push_cast [tFx,tXS,tXI,tX0];have ntp:tp≠d:=by
     obtain ⟨kvs,hk,_⟩:=D7;exact mx z7 hk (by intro z;cases z)
    refine ⟨by decide,?_,_,P9,(s7.trans s8).upd fd _,by rw[ah ntp];exact s8 _ _ z7,?_⟩
    ·show (j+1).log2 < 1920
     exact ac9 (ae8 _) (by omega)
    ·rw[aav,hy,show (aA y).toList=[y] from rfl,qc,abu,ab1,ad7 (by omega)];exact D9
   ·rintro σ H7 ⟨w6,w7,rfl,s7,z7,D7⟩;rw[ab0 (aa3 _)] at D7;exact (eP1 _ _ _).mpr ⟨_,_,_,_,rfl,s7,z7,D7.mono (by omega)⟩
  ·cases hy
   obtain rfl:ch=118:=aaa (hch.symm.trans (show (aB "hnv").cps[2]?=aA 118 by decide+kernel));have hlen:(e.2.vs).length≤1000:=hvl;refine ⟨t3,rfl,e.2.vs,.inr ⟨SqT.of (S5 _ _ u4),?_⟩⟩;refine ym (xs:=e.2.vs) (λj σ H'=>∃(v6 v7:Option V),σ=[aA `cG,aA `da,aA (.ref bl),aA `X,aA (.str `cm),aA (.ref t3),v6,v7]∧ag H H'∧H' tp=aA `L∧DM H' d (putL `cm ((e.2.vs).take j) 0 (mI e is bs 2)) (4+1000*2+j)) ⟨v6,v7,rfl,S5,z5,D5⟩ (λj σ H' _ h=>by obtain ⟨_,_,_,s,_⟩:=h;exact SqT.of (s _ _ u4)) ?_ ?_
   ·rintro j y σ H7 p7 hy ⟨w6,w7,rfl,s7,z7,D7⟩ hp7;refine ie aa rfl ?_;have hjl:j < (e.2.vs).length:=(List.getElem?_eq_some_iff.mp hy).1;have s8:=ab hp7 `de;obtain ⟨H9,P9,D9,o9,rfl⟩:=(D7.same s8).put (by omega) `el y;push_cast [tFx,tXS,tXI,tX0];have ntp:tp≠d:=by
     obtain ⟨kvs,hk,_⟩:=D7;exact mx z7 hk (by intro z;cases z)
    refine ⟨by decide,?_,_,P9,(s7.trans s8).upd fd _,by rw[ah ntp];exact s8 _ _ z7,?_⟩
    ·show (j+1).log2 < 1920
     exact ac9 (ae8 _) (by omega)
    ·rw[aav,hy,show (aA y).toList=[y] from rfl,qc,abu,ab1,ad7 (by omega)];exact D9
   ·rintro σ H7 ⟨w6,w7,rfl,s7,z7,D7⟩;rw[ab0 (aa3 _)] at D7;exact (eP1 _ _ _).mpr ⟨_,_,_,_,rfl,s7,z7,D7.mono (by omega)⟩
 ·intro σ H4 hh;obtain ⟨v4,v5,v6,v7,rfl,S4,z4,D4⟩:=(eP1 _ _ _).mp hh;push_cast [and_true];exact q d H4 S4 (D4.mono (by show 4+1000*3≤4000;decide))
noncomputable abbrev r8:Stmt:=top 27
theorem Ln:av ["step","results","boxes","meant"] ["step","results","boxes"] (ae r8):=⟨rfl,rfl,rfl,by decide+kernel,rfl,by decide+kernel,by decide+kernel⟩
theorem Qe (G:Gs w K mg) (h_meanings:Has P w K mg base k "meanings" ["step","results","boxes"] xt) (D:Def K mg "deed_rows" r8 ["step","results","boxes"]):Has P w K mg base (k+1) "deed_rows" ["step","results","boxes"] xn:=by
 refine D.has Ln (λvs H Q E h=>?_) (λf cdv A outer s H vs Q E hr h=>?_)
 ·obtain ⟨_,_,_,_,_,_,rfl,_,_,_,_,_,_,_,_,_,_,_⟩:=h;rfl
 have nd:=Ln.nd;have hu:=b8 hr;have hu0:=aaf hu;obtain ⟨st,rl,bl,e,is,bs,rfl,hSt,hDy,hR,hB,hbl,hil,hnl,hvl,hfl,hne,q⟩:=h;have m_tuple:=G.m_tuple;refine ⟨_,(A5 (BZ 3 nd (AD h_meanings hr (A1 (A0 0) (A1 (A0 1) `c7)))) (A7 (AE (BG (BA ["deed"] ["meant"] [3] `Y `l) (BB (A6 (AA 0) `F (A2 0))) (λ_ _ _=>(B8 0 (show abj (["deed","meant"]:List Str) by decide+kernel))) (λ_ _ _=>(@xj _)) (λ_ _ _=>(A4 (B7 0) (BJ (@pf _) (A0 0) (@jr _) (BK (A2 0))) (B0 (@zm _ K rfl) m_tuple fz (A1 (BG (BA ["word"] ["meant"] [1] `Y `l) (@Ll _ K rfl _ _ _ (BJ (@pf _) (A0 0) (BK (A2 0)) (@jr _))) (λ_ _ _=>(B8 0 (show abj (["word","meant"]:List Str) by decide+kernel))) (λ_ _ _=>(@xj _)) (λ_ _ _=>(@pe_bmK _ K rfl _ _ _ _ _ _ _ _ _ _ _ jF dP kW (@Ot _ hu) (AJ 1) (A1 (A0 0) `a2) rfl rfl rfl rfl rfl))) (A3 0))))))))),?_⟩;rw[show start ["step","results","boxes","meant"] [.ref st,.ref rl,.ref bl]=[aA `cG,aA `da,aA (.ref bl),none] from rfl];clear hu hu0 nd hr;push_cast [and_true];have sz:=aV;refine Vb hSt hDy hR hB hbl hil hnl hvl λd H1 s1 D1=>?_;obtain ⟨ra,ut,g1,g2,g3⟩:=id hSt;obtain ⟨sa,da,r1,r2,as0,r3,r4⟩:=g2;have al:=r4.1;have dl:=hDy.2;push_cast [and_true];refine af (s1 _ _ g1) rfl (af (s1 _ _ r1) rfl ⟨da,rfl,⟨_,SqT.of (s1 _ _ r3)⟩,λD hD=>?_⟩);refine Sr (xs:=as0.map V.ref) (λi ys H'=>∃as:List Addr,ys=as.map V.ref∧(∀a∈as,a≠D)∧bp H' as ((e.1.2.take i).map (rowOf `d8))) ?_ (SqT.of (s1 _ _ r3)) (by rw[aa0,al];omega) hD ⟨[],rfl,(λ_ h=>nomatch h),rfl,λj x h=>by simp at h⟩ (λi x ys H3 G' K' hx hP hl2 hS' hDl hG hK'=>?_) λys H3 hP hl2 hS' hD2=>?_
 ·rintro i ys H2 H3 keep ⟨as,e1,e2,e3⟩;exact ⟨as,e1,e2,e3.1,λj x hx=>by obtain ⟨a,a1,a2⟩:=e3.2 j x hx;exact ⟨a,a1,keep _ _ (e2 a (aak a1)) a2⟩⟩
 ·rw[aa5] at hx;obtain ⟨ai,hai,rfl⟩:=Option.map_eq_some_iff.mp hx;have hi:i < e.1.2.length:=by rw[←al];exact (List.getElem?_eq_some_iff.mp hai).1
  have hk:=aa2 hi;obtain ⟨ai',hai',hdeed⟩:=r4.2 i _ hk;obtain rfl:ai'=ai:=aaa (hai'.symm.trans hai);have hw:=hDy.1 _ (aaj hi);have hx1:=hfl _ (aaj hi);have hx2:=hne _ (aaj hi);generalize e.1.2[i]=x at hk hdeed hw hx1 hx2;obtain ⟨as,rfl,e2,e3⟩:=hP;have S3:=s1.trans hS';push_cast [and_true];refine mi (S3 _ _ hdeed) λp4 H4 s4 e4=>?_;refine mi ((S3.trans s4) _ _ hdeed) λp5 H5 s5 e5=>⟨p5,rfl,⟨_,SqT.of e5⟩,λD2 hD2=>?_⟩;rw[Vl x hx2] at e4;rw[show jk x (aA 1) none=x.drop 1 from Am x 1 0 (by omega)] at e5;have D5:=D1.same (hS'.trans (s4.trans s5));refine lz (xs:=x.drop 1) (λj ys=>ys=((x.drop 1).take j).map (wOf `d8)) (SqT.of e5) (by rw[aau];omega) hD2 rfl (λj v ys H6 G2 K2 hv hP2 hl3 hS2 hG2 hK2=>?_) λys H6 hP2 hl3 hS2 hD3=>?_
  ·have hvw:=hw v (ac5 (aak hv));obtain ⟨o,ho1,ho2⟩:=(D5.same hS2).get hvw;push_cast [Po];refine ⟨(D5.same hS2).ty,o,ho1,?_⟩;rw[ho2];refine hK2 _ _ `az ?_;rw[hP2,aav,hv,aab];rfl
  ·rw[ab0 (aa3 _)] at hP2;refine ⟨_,.inl ⟨SqL.of hD3,λt ht=>?_⟩⟩;rw[hP2];have s7:=ab ht (.tup ((x.drop 1).map (wOf `d8)));refine jj ((s5.trans (hS2.trans s7)) _ _ e4) aa (by rw[aa0,ab1,aau];omega) λp8 H8 s8 e8=>?_;have s38:=s4.trans (s5.trans (hS2.trans (s7.trans s8)));refine hK' _ _ s38 ⟨as++[p8],by rw[aab];rfl,λa ha=>?_,?_⟩
   ·rcases List.mem_append.mp ha with z | z
    ·exact e2 a z
    ·rw[List.mem_singleton.mp z];exact mx e8 (s38 _ _ hDl) (by intro z;cases z)
   ·rw[aav,hk,aab];exact (bp.tk e3 (TK.of s38)).snoc1 e8
 ·obtain ⟨as,rfl,e2,e3⟩:=hP;rw[aa0,al,ab0 (aa3 _)] at e3;exact q D as H3 (s1.trans hS') (s1.free hD) hD2 e3
noncomputable abbrev sr:Stmt:=top 28
theorem K9:av ["steps","holes","order","boxes","rows","number","results"] ["steps","holes","order","boxes"] (ae sr):=⟨rfl,rfl,rfl,by decide+kernel,rfl,by decide+kernel,by decide+kernel⟩
theorem Oa (G:Gs w K mg) (h_deed_rows:Has P w K mg base k "deed_rows" ["step","results","boxes"] xn) (D:Def K mg "rows_in_order" sr ["steps","holes","order","boxes"]):Has P w K mg base (k+1) "rows_in_order" ["steps","holes","order","boxes"] x6:=by
 refine D.has K9 (λvs H Q E h=>?_) (λf cdv A outer s H vs Q E hr h=>?_)
 ·obtain ⟨_,_,_,_,_,_,_,_,_,_,rfl,_,_,_,_,_,_,_,_,_,_,_,_⟩:=h;rfl
 have nd:=K9.nd;have hu:=b8 hr;have hu0:=aaf hu;obtain ⟨sl,hl,ol,d,as,rs,es,os,ar,no,rfl,hL,hSt,hH,hLs,hrl,hO,hBx,hos,hok,hbel,hol,q⟩:=h;refine ⟨_,(A5 (A9 4 nd `bh) (A5 (AZ (BF (A0 2)) (AQ 5 nd (by first | exact ab6 rfl | exact ab5 rfl)) (A5 (BM 6 nd (BA ["hole"] ["boxes"] [3] (aah rfl trivial) (aah (aah rfl (aah rfl rfl)) trivial)) (BF (A6 (AL 0) (A0 1) (A0 5))) (λ_ _ _=>(B8 0 (show abj (["hole","boxes"]:List Str) by decide+kernel))) (λ_ _ _=>(@xj _)) (λ_ _ _=>(A6 (@Gr _ K rfl) (B5 hu (AJ 1) (A0 0)) (A2 0)))) (A7 (AU (AS aL fX fY (@vq _) (A0 4) (A1 (AD h_deed_rows hr (A1 (A6 (AL 0) (A0 0) (A0 5)) (A1 (A0 6) (A1 (B5 hu (AJ 3) (A0 5)) (A3 0))))) (A3 0))))))) (A7 (AE (A0 4))))),?_⟩;rw[show start ["steps","holes","order","boxes","rows","number","results"] [.ref sl,.ref hl,.ref ol,.ref d]=[aA `bZ,aA (.ref hl),aA (.ref ol),aA `X,none,none,none] from rfl];clear hu hu0 nd hr;push_cast [and_true];have sz:=aV;refine ⟨aai _,λl hl0=>?_⟩;have s1:=ab hl0 `ai;have l1:upd H l `ai l=aA `ai:=aa;generalize upd H l `ai=H1 at s1 l1 ⊢;refine ⟨⟨_,SqL.of (s1 _ _ hO)⟩,?_⟩;refine i9 (xs:=os.map plV) (λj σ H'=>∃(bs:List Addr) (v5 v6:Option V),σ=[aA `bZ,aA (.ref hl),aA (.ref ol),aA `X,aA `B,v5,v6]∧ag H H'∧H' l=aA `bN∧bp H' bs ((os.take j).flatMap `eS)) ⟨[],none,none,rfl,s1,l1,rfl,λj x h=>by simp at h⟩ (λj σ H' _ h=>by obtain ⟨_,_,_,_,s,_⟩:=h;exact SqL.of (s _ _ hO)) ?_ ?_
 ·rintro j y σ H5 hy ⟨bs,v5,v6,rfl,s5,l5,T5⟩;rw[aa5] at hy;obtain ⟨o,ho,rfl⟩:=Option.map_eq_some_iff.mp hy;have hom:=aak ho;have hol2:=hos o hom;have hx:=aa2 hol2;obtain ⟨ap,hap,hst⟩:=hSt.2 o _ hx;have hE:=hok _ (aaj hol2);have enb:nbE es o=(b9 es[o].1.2).length:=by unfold nbE;rw[hx];rfl
  have erw:oj es os ar o=j6 es[o] (resP es os ar o) (bxP es os o):=by unfold oj;rw[hx]
  generalize es[o]=e at hx hst hE enb erw;obtain ⟨hb1,hb2⟩:=hbel o hom;have hor:o < rs.length:=by omega
  push_cast [and_true];refine ax (v:=.ref (rs.getD o 0)) (s5 _ _ hH) (bb (by rw[aa5,aa7,aa2 hor];rfl)) ⟨_,rfl,⟨_,SqL.of (s5 _ _ (hLs o hor))⟩,λl2 hl2=>?_⟩;refine yb (xs:=(az ar o).map plV) (λi ys=>ys=((az ar o).take i).map λq=>V.int ((baseOf `aN os 0 q:Nat):Int)) (SqL.of (s5 _ _ (hLs o hor))) (by rw[aa0];omega) hl2 rfl (λi x ys H6 G' K' hx2 hP hlen hS' hG hK'=>?_) λys H6 hP hlen hS' hD2=>?_
  ·rw[aa5] at hx2;obtain ⟨q1,hq1,rfl⟩:=Option.map_eq_some_iff.mp hx2;obtain ⟨hqo,hqn⟩:=hb2 q1 (aak hq1);obtain ⟨kvs,k1,k2,k3⟩:=hBx.same (s5.trans hS');obtain ⟨lq,n1,n2,n3⟩:=k3 q1 hqo;obtain ⟨kk,hkk⟩:∃kk,nbE es q1=kk+1:=⟨nbE es q1 - 1,by omega⟩;rw[hkk,af1] at n3;push_cast [and_true];refine ⟨.ref lq,by rw[←n2];exact e9.k (k:=bA (q1:Int)) k1,ax n3 `c5 (hK' _ _ `az ?_)⟩;rw[hP,aav,hq1,aab];rfl
  ·rw[aa0,ab0 (aa3 _)] at hP;have S6:=s5.trans hS';have l6:=hS' _ _ l5;obtain ⟨kvs,k1,k2,k3⟩:=hBx.same S6;obtain ⟨lo,n1,n2,n3⟩:=k3 o hom;refine ⟨bj l6,ax (S6 _ _ hL) (bb (by rw[aa5,hap];rfl)) ⟨.ref lo,by rw[←n2];exact e9.k (k:=bA (o:Int)) k1,?_⟩⟩;refine Tg (is:=resP es os ar o) (bs:=bxP es os o) (hst.tk (TK.of S6)) hE.dy (by rw[hD2,hP];unfold resP;rw[abd];rfl) (by rw[n3];unfold bxP;rw[abd];rfl) (by unfold bxP;rw[aa0,List.length_range',enb]) (by unfold resP;rw[aa0];exact hb1) hE.ns hE.vs hE.fl hE.ne λl3 cs H7 s7 hl7 h7 T7=>?_;have bl:bs.length≤100*1000:=by
    rw[T5.1];have:=Bx hok os ar `cP;rw[ab1] at this;omega
   have cl:cs.length≤100:=by
    rw[T7.1];unfold j6;rw[aa0];exact hE.dy.2
   have l7:=s7 _ _ l6;refine ⟨l,l3,bs.map V.ref,cs.map V.ref,rfl,rfl,l7,h7,by rw[aa0,aa0];omega,(S6.trans s7).upd hl0 _,bs++cs,by rw[aa,aab],?_⟩;rw[aav,ho,ad6,show ((aA o).toList.flatMap `eS)=oj es os ar o from ab3 _,erw];exact ((T5.tk (TK.of (hS'.trans s7))).app T7).tk (TK.put l7 (by intro _ z;cases z))
 ·rintro σ H5 ⟨bs,v5,v6,rfl,s5,l5,T5⟩;push_cast [and_true];rw[aa0,ab0 (aa3 _)] at T5;exact q l bs H5 s5 hl0 l5 T5
noncomputable abbrev lu:Stmt:=top 30
theorem Ez:av ["book","words","kind","cover","steps","holes","order","boxes"] ["book","words","kind","cover"] (ae lu):=⟨rfl,rfl,rfl,by decide+kernel,rfl,by decide+kernel,by decide+kernel⟩
theorem My (G:Gs w K mg) (h_counted_boxes:Has P w K mg base k "counted_boxes" ["steps","order"] oz) (h_holes_ahead:Has P w K mg base k "holes_ahead" ["holes"] sx) (h_laid_cover:Has P w K mg base k "laid_cover" ["book","words","place","kind","cover"] ow) (h_rows_in_order:Has P w K mg base k "rows_in_order" ["steps","holes","order","boxes"] x6) (h_steps_below:Has P w K mg base k "steps_below" ["steps"] um) (D:Def K mg "rows_of" lu ["book","words","kind","cover"]):Has P w K mg base (k+1) "rows_of" ["book","words","kind","cover"] qa:=by
 refine D.has Ez (λvs H Q E h=>?_) (λf cdv A outer s H vs Q E hr h=>?_)
 ·obtain ⟨_,_,_,_,_,_,_,_,rfl,_,_,_,_,_,_,_,_,_,_,_,_,_⟩:=h;rfl
 have nd:=Ez.nd;have hu:=b8 hr;have hu0:=aaf hu;obtain ⟨b,wt,ct,kinds,rd,ws,kd,ns,rfl,hB,hW,hC,bk,tw,h0,hkd,hkz,hnz,hnl,hrd,q,e⟩:=h;refine ⟨_,(A5 (A9 4 nd (AD h_laid_cover hr (A1 (A0 0) (A1 (A0 1) (A1 (A2 0) (A1 (A0 2) `aI)))))) (A5 (A9 5 nd (AD h_steps_below hr (A1 (A0 4) (A3 0)))) (A5 (A9 6 nd (AD h_holes_ahead hr `cf)) (A5 (A9 7 nd (AD h_counted_boxes hr (A1 (A0 4) `a1))) (A7 (AE (A8 (A1 (AD h_rows_in_order hr (A1 (A0 4) (A1 (A0 5) (A1 (A0 6) (A1 (A0 7) (A3 0)))))) (A1 (A6 (AL 0) (B5 hu (A0 7) (A2 0)) (A2 0)) (A3 0)))))))))),?_⟩;rw[show start ["book","words","kind","cover","steps","holes","order","boxes"] [.ref b,.ref wt,.str kd,.ref ct]=[aA `aJ,aA `bd,aA `bY,aA (.ref ct),none,none,none,none] from rfl];clear hu hu0 nd hr;push_cast [and_true];have sz:=aV;refine Nj (p:=0) hB hW hC bk tw h0 hkd hkz hnz (by omega) (λds hds sl as H1 s1 l1 D1=>?_) λhn=>e hn;obtain ⟨es,ees,erd,E1⟩:=D1.steps;have dl:ds.length≤1000:=by rw[(wy hds).1];exact hnl
 have pe:pend 1 (er ds)=aA 0:=rm bk hds;have esl:es.length=ds.length:=by rw[←ees,aa0]
 have arl:(er ds).length=ds.length:=aa0 _;obtain ⟨o1,o2,o3,o4,o5⟩:=Uv pe;have hE:∀x∈es,EsOk x:=λx hx=>by
  have r:=hrd _ (erd x hx);have u:=Bl bk hds (x.1.1,x.2) (by rw[←ees];exact aby hx);have u1:x.2.ns.length≤100:=u.1;have u2:x.2.vs.length≤100:=u.2;exact ⟨⟨λd hd=>(r.w d hd).1,r.n⟩,by omega,by omega,λd hd=>(r.w d hd).2.2,λd hd=>(r.w d hd).2.1⟩
 have hN:∀p,p < es.length→1≤nbE es p:=λp hp=>Hv.nb (λx hx=>hrd _ (erd x hx)) hp;refine Rj l1 D1 pe dl λhl rs H2 s2 h2 rl2 L2=>?_;refine Rg h2 L2 (by omega) pe (by omega) λol H3 s3 h3=>?_;have s13:=s2.trans s3;refine Mh (s13 _ _ l1) (E1.tk (TK.of s13)) h3 o1 (λo ho=>by have:=o3 o ho;omega) (λx hx=>(hE x hx).dy) (by omega) λd H4 s4 hd4 B4=>?_;have s14:=s13.trans s4;push_cast [and_true];have z0:=o3 0 o5;refine Vu (s14 _ _ l1) (E1.tk (TK.of s14)) ((s3.trans s4) _ _ h2) (L2.same (s3.trans s4)) (by omega) (s4 _ _ h3) B4 (λo ho=>by have:=o3 o ho;omega) hE (λo ho=>⟨by have:=Jk (ar:=er ds) o;omega,λq hq=>⟨o4 o ho q hq,hN q (by have:=o3 q (o4 o ho q hq);omega)⟩⟩) (by omega) λl bs H5 s5 hl5 h5 T5=>?_;obtain ⟨kvs,k1,k2,k3⟩:=B4.same s5;obtain ⟨lo,n1,n2,n3⟩:=k3 0 o5;have hn0:=hN 0 (by omega);obtain ⟨kk,hkk⟩:∃kk,nbE es 0=kk+1:=⟨nbE es 0 - 1,by omega⟩;rw[hkk,af1] at n3;refine ⟨.ref lo,by rw[←n2];exact e9.k (k:=bA ((0:Nat):Int)) k1,ax n3 `c5 ⟨by show (2:Nat)≤sizeLine;decide,λt ht=>?_⟩⟩;have s6:=ab ht (.tup [V.ref l,plV (baseOf `aN (post (er ds) 0) 0 0)]);have S5:=s1.trans (s14.trans s5);exact q ds hds es t l bs _ ees erd (S5.trans s6) (S5.free ht) aa ((s1.trans s14).free hl5) (s6 _ _ h5) (T5.tk (TK.of s6))
noncomputable abbrev sq:Stmt:=top 9
theorem Kj:av ["word","parts"] ["word","parts"] (ae sq):=⟨rfl,rfl,rfl,by decide+kernel,rfl,by decide+kernel,by decide+kernel⟩
theorem Oy (G:Gs w K mg) (D:Def K mg "joined_numbers" sq ["word","parts"]):Has P w K mg base (k+1) "joined_numbers" ["word","parts"] xy:=by
 refine D.has Kj (λvs H Q E h=>?_) (λf cdv A outer s H vs Q E hr h=>?_)
 ·obtain ⟨_,_,_,rfl,_,_,_,_,_⟩:=h;rfl
 have nd:=Kj.nd;have hu:=b8 hr;have hu0:=aaf hu;obtain ⟨z,pz,xs,rfl,hz,hp,hl,hb,q⟩:=h;refine ⟨_,(A5 (AG `T (A7 (AE (A4 (AM 0) `aM `aM))) (AK 0)) (A5 (AG `T (A7 (AE (A4 (BC 0) `aM `aM))) (AK 0)) (A5 (AG `T (A7 (AE (A4 (@Ee _) `aM `aM))) (AK 0)) (A7 (AE (BI (@jt _) `aM)))))),?_⟩;rw[show start ["word","parts"] [.str z,.ref pz]=[aA `J,aA (.ref pz)] from rfl];clear hu hu0 nd hr;push_cast [and_true];have two:arS z=2→∃a b,xs=[a,b]:=λh2=>by
  rw[h2] at hl;match xs,hl with
  | [a,b],_=>exact ⟨a,b,rfl⟩
 refine ⟨rfl,df (λe=>?_) λn1=>⟨rfl,df (λe=>?_) λn2=>⟨rfl,df (λe=>?_) λn3=>?_⟩⟩⟩
 ·obtain ⟨a,b,rfl⟩:=two (by rw[e];decide+kernel);have q':Q (.int `dQ) H:=q;rw[show opN z a b=a+b from if_pos e] at q';exact ax hp rfl (ax hp rfl q')
 ·obtain ⟨a,b,rfl⟩:=two (by rw[e];decide+kernel);have q':Q (.int `dQ) H:=q;rw[show opN z a b=a - b by unfold opN;rw[if_neg n1,if_pos e]] at q';exact ax hp rfl (ax hp rfl q')
 ·obtain ⟨a,b,rfl⟩:=two (by rw[e];decide+kernel);have q':Q (.int `dQ) H:=q;rw[show opN z a b=a*b by unfold opN;rw[if_neg n1,if_neg n2,if_pos e]] at q';exact ax hp rfl (ax hp rfl ⟨a,rfl,b,rfl,⟨hb a aa6,hb b `eZ⟩,q'⟩)
 ·obtain ⟨a,r,rfl⟩:∃a r,xs=a::r:=aci (by intro e;rw[e] at hl;simp at hl;omega);have q':Q (.int (opN z a ((a::r).getD 1 0))) H:=q;rw[show opN z a ((a::r).getD 1 0)=-a by unfold opN;rw[if_neg n1,if_neg n2,if_neg n3]] at q';exact ax hp (bb (xs:=(a::r).map V.int) (j:=0) rfl) q'
noncomputable abbrev se:Stmt:=top 10
theorem Kk:av ["name","values"] ["name","values"] (ae se):=⟨rfl,rfl,rfl,by decide+kernel,rfl,by decide+kernel,by decide+kernel⟩
theorem Qd (G:Gs w K mg) (D:Def K mg "value_of" se ["name","values"]):Has P w K mg base (k+1) "value_of" ["name","values"] xq:=by
 refine D.has Kk (λvs H Q E h=>?_) (λf cdv A outer s H vs Q E hr h=>?_)
 ·obtain ⟨_,_,_,_,rfl,_,_,_⟩:=h;rfl
 have nd:=Kk.nd;have hu:=b8 hr;have hu0:=aaf hu;obtain ⟨vl,z,n,kvs,rfl,hV,hn,q⟩:=h;refine ⟨_,(A5 (AG (BR (@wg _ _ _ _ _ hu (A0 0) (A0 1)) (by first | exact fu _ `a `a | rfl)) `ep (AK 0)) (A7 (AE (B5 hu (A0 1) (A0 0))))),?_⟩;rw[show start ["name","values"] [.str z,.ref vl]=[aA `J,aA (.ref vl)] from rfl];clear hu hu0 nd hr;push_cast [and_true];have g:e9 H vl `J (aA `ef):=by
  have:=e9.k (k:=aM z) hV;rw[hn] at this;exact this
 exact ⟨_,g,Hm ⟨_,g,q⟩⟩
noncomputable abbrev zh:Stmt:=top 32
theorem Sm:av ["box","boxes"] ["box","boxes"] (ae zh):=⟨rfl,rfl,rfl,by decide+kernel,rfl,by decide+kernel,by decide+kernel⟩
theorem Ue (G:Gs w K mg) (D:Def K mg "held_in" zh ["box","boxes"]):Has P w K mg base (k+1) "held_in" ["box","boxes"] wa:=by
 refine D.has Sm (λvs H Q E h=>?_) (λf cdv A outer s H vs Q E hr h=>?_)
 ·obtain ⟨_,_,_,_,rfl,_,_,_⟩:=h;rfl
 have nd:=Sm.nd;have hu:=b8 hr;have hu0:=aaf hu;obtain ⟨bx,x,m,kvs,rfl,hB,hm,q⟩:=h;refine ⟨_,(A5 (AG (BR (@wg _ _ _ _ _ hu (A0 0) (A0 1)) (by first | exact fu _ `a `a | rfl)) `ep (AK 0)) (A7 (AE (B5 hu (A0 1) (A0 0))))),?_⟩;rw[show start ["box","boxes"] [.int x,.ref bx]=[aA `dq,aA (.ref bx)] from rfl];clear hu hu0 nd hr;push_cast [and_true];have g:e9 H bx `dq (aA (.int m)):=by
  have:=e9.k (k:=bA x) hB;rw[hm] at this;exact this
 exact ⟨_,g,Hm ⟨_,g,q⟩⟩
noncomputable abbrev zj:Stmt:=top 33
theorem Oq:av ["row","boxes","values"] ["row","boxes","values"] (ae zj):=⟨rfl,rfl,rfl,by decide+kernel,rfl,by decide+kernel,by decide+kernel⟩
theorem Sy (G:Gs w K mg) (h_held_in:Has P w K mg base k "held_in" ["box","boxes"] wa) (h_joined_numbers:Has P w K mg base k "joined_numbers" ["word","parts"] xy) (h_value_of:Has P w K mg base k "value_of" ["name","values"] xq) (D:Def K mg "row_number" zj ["row","boxes","values"]):Has P w K mg base (k+1) "row_number" ["row","boxes","values"] Aq:=by
 refine D.has Oq (λvs H Q E h=>?_) (λf cdv A outer s H vs Q E hr h=>?_)
 ·obtain ⟨_,_,_,_,_,_,_,_,rfl,_,_,_,_,_⟩:=h;rfl
 have nd:=Oq.nd;have hu:=b8 hr;have hu0:=aaf hu;obtain ⟨t,bx,vl,ts,kvs,vals,b,n,rfl,hT,hB,hV,hR,q⟩:=h;refine ⟨_,(A5 (AG (AH (AN 0) `F (AB 0) (AF 0)) (A7 (AE `F)) (AK 0)) (A5 (AG (AH (AN 0) `F (AB 0) (AF 0)) (A7 (AE (AD h_value_of hr (A1 `F `c7)))) (AK 0)) (A7 (AE (AD h_joined_numbers hr (A1 `F (A1 (BG (BA ["box"] ["boxes"] [1] `Y `l) (BB (BJ (@pf _) (A0 0) (BK (A2 0)) (@jr _))) (λ_ _ _=>(B8 0 (show abj (["box","boxes"]:List Str) by decide+kernel))) (λ_ _ _=>(@xj _)) (λ_ _ _=>(AD h_held_in hr (A1 (A0 0) `eb)))) (A3 0)))))))),?_⟩;rw[show start ["row","boxes","values"] [.ref t,.ref bx,.ref vl]=[aA `I,aA (.ref bx),aA (.ref vl)] from rfl];clear hu hu0 nd hr;push_cast [wa,xy,xq];have sz:=aV;cases hR with
 | put b n=>
  refine af hT rfl ⟨rfl,?_⟩;rw[if_pos rfl];exact af hT rfl (q _ `az)
 | load b z n h=>
  refine af hT rfl ⟨rfl,?_⟩;rw[if_neg `b];refine af hT rfl ⟨rfl,?_⟩;rw[if_pos rfl];exact af hT rfl ⟨vl,z,rfl,rfl,n,vals,hV,h,q _ `az⟩
 | neg b x m h b1=>
  refine af hT rfl ⟨rfl,?_⟩;rw[if_neg `b];refine af hT rfl ⟨rfl,?_⟩;rw[if_neg `b];refine af hT rfl (mi hT λp H1 s1 h1=>⟨p,rfl,⟨_,SqT.of h1⟩,λD hD=>?_⟩);have h1:H1 p=aA (.tup [.int x]):=h1;refine lz (λi ys=>ys=(([m]:List Int).take i).map V.int) (SqT.of h1) (by show (1:Nat) < sizeLine;rw[sz];decide) hD rfl (λi y ys H2 G' K' hy hP hl2 hS hG hK=>?_) λys H2 hP hl2 hS hD2=>?_
  ·push_cast [wa];obtain ⟨v,hv,hm⟩:∃v:Int,([m]:List Int)[i]?=aA v∧∃x:Int,y=.int x∧bf kvs (bA x)=aA (.int v):=by
    match i,hy with
    | 0,hy=>exact ⟨m,rfl,x,(aaa hy).symm,h⟩
   obtain ⟨x',rfl,hx'⟩:=hm;refine ⟨bx,x',rfl,rfl,v,kvs,hS _ _ (s1 _ _ hB),hx',hK _ _ `az ?_⟩;rw[hP,aav,hv,aab];rfl
  ·have hP:ys=([m]:List Int).map V.int:=hP;rw[hP] at hD2;refine ⟨aB "neg",rfl,by decide+kernel,[m],hD2,by rw[yn];rfl,λy hy=>?_,?_⟩
   ·rw[List.mem_singleton.mp hy];exact b1
   ·have e:opN `w m 0=-m:=by
     unfold opN;rw[if_neg `b,if_neg `b,if_neg `b]
    show Q (V.int (opN `w m 0)) H2
    rw[e];exact q _ (s1.trans hS)
 | bin z b x y' m n hz h1' h2' b1 b2=>
  refine af hT rfl ⟨rfl,?_⟩;rw[if_neg (λe=>by rw[V.str.inj e] at hz;exact absurd hz `b)];refine af hT rfl ⟨rfl,?_⟩;rw[if_neg (λe=>by rw[V.str.inj e] at hz;exact absurd hz `b)];refine af hT rfl (mi hT λp H1 s1 h1=>⟨p,rfl,⟨_,SqT.of h1⟩,λD hD=>?_⟩);have h1:H1 p=aA (.tup [.int x,.int y']):=h1;refine lz (λi ys=>ys=(([m,n]:List Int).take i).map V.int) (SqT.of h1) (by show (2:Nat) < sizeLine;rw[sz];decide) hD rfl (λi y ys H2 G' K' hy hP hl2 hS hG hK=>?_) λys H2 hP hl2 hS hD2=>?_
  ·push_cast [wa];obtain ⟨v,hv,hm⟩:∃v:Int,([m,n]:List Int)[i]?=aA v∧∃x:Int,y=.int x∧bf kvs (bA x)=aA (.int v):=by
    match i,hy with
    | 0,hy=>exact ⟨m,rfl,x,(aaa hy).symm,h1'⟩
    | 1,hy=>exact ⟨n,rfl,y',(aaa hy).symm,h2'⟩
   obtain ⟨x',rfl,hx'⟩:=hm;refine ⟨bx,x',rfl,rfl,v,kvs,hS _ _ (s1 _ _ hB),hx',hK _ _ `az ?_⟩;rw[hP,aav,hv,aab];rfl
  ·have hP:ys=([m,n]:List Int).map V.int:=hP;rw[hP] at hD2;refine ⟨z,rfl,by omega,[m,n],hD2,by rw[hz];rfl,λy hy=>?_,q _ (s1.trans hS)⟩;rcases List.mem_cons.mp hy with e | e
   ·rw[e];exact b1
   ·rw[List.mem_singleton.mp e];exact b2
noncomputable abbrev Iv:Stmt:=top 34
theorem scRun:av ["rows","values","boxes","row"] ["rows","values"] (ae Iv):=⟨rfl,rfl,rfl,by decide+kernel,rfl,by decide+kernel,by decide+kernel⟩
theorem hasRun (G:Gs w K mg) (h_row_number:Has P w K mg base k "row_number" ["row","boxes","values"] Aq) (D:Def K mg "run" Iv ["rows","values"]):Has P w K mg base (k+1) "run" ["rows","values"] (N0 K):=by
 refine D.has scRun (λvs H Q E h=>?_) (λf cdv A outer s H vs Q E hr h=>?_)
 ·obtain ⟨_,_,_,_,_,_,rfl,_,_,_,_,_,_⟩:=h;rfl
 have nd:=scRun.nd;have hu:=b8 hr;have hu0:=aaf hu;obtain ⟨l,vl,rs,ts,fs,vals,rfl,hL,hl,hI,hV,hR,q⟩:=h;refine ⟨_,(A5 (A9 2 nd (@yz _ _)) (A5 (AZ (BF (A0 0)) (AQ 3 nd (by first | exact ab6 rfl | exact ab5 rfl)) (A7 (BL hu (A0 2) (A6 (AA 0) (A0 3) (A2 0)) (AD h_row_number hr (A1 (A0 3) (A1 (A0 2) (A1 (A0 1) (A3 0)))))))) (A7 (AE (A0 2))))),?_⟩;rw[show start ["rows","values","boxes","row"] [.ref l,.ref vl]=[aA (.ref l),aA (.ref vl),none,none] from rfl];clear hu hu0 nd hr;push_cast [Aq];have sz:=aV;intro d hd;refine ⟨⟨rs,(ab hd _).seq hL⟩,i9 (xs:=rs) (λi σ H'=>∃v,σ=[aA `B,aA (.ref vl),aA `X,v]∧ag H H'∧H' d=aA (.dK `a8)) ⟨none,rfl,ab hd _,aa⟩ (λi σ H' _ h=>?_) ?_ ?_⟩
 ·obtain ⟨_,_,s1,_⟩:=h;exact s1.seq hL
 ·rintro i x σ H' hx ⟨v,rfl,s1,hD⟩;push_cast [Aq];have hi:=(List.getElem?_eq_some_iff.mp hx).1;have hif:i < fs.length:=by rw[←hR.1,←hI.1];exact hi
  obtain ⟨t,ht,hrow⟩:=hR.2 i fs[i] (aa2 hif);obtain ⟨a,ha,hta⟩:=hI.2 i t ht;rw[hx] at ha;cases ha
  have lb:=Cr (fs.take i);rw[ab1] at lb;have ll:=hI.1.trans hR.1;refine ⟨a,rfl,t,s1 _ _ hta,_,hD,vals,s1 _ _ hV,_,_,hrow,λH2 s2=>af (s2 _ _ (s1 _ _ hta)) hrow.at1 ⟨_,va.k (k:=bA fs[i].1) (s2 _ _ hD) (by omega),(s1.trans s2).upd hd _,?_⟩⟩;rw[aa,aav,aa2 hif];show aA (HO.dK (putK `a8 (bA fs[i].1) (.int fs[i].2)))=aA (HO.dK (dw (fs.take i++[(fs[i].1,fs[i].2)])))
  rw[mq]
 ·rintro σ H' ⟨v,rfl,s1,hD⟩;have e:fs.take rs.length=fs:=by rw[hI.1,hR.1,ad2]
  rw[e] at hD;first | exact ⟨_,rfl,q d H' s1 hd hD⟩ | exact q d H' s1 hd hD
noncomputable abbrev lr:Stmt:=top 53
theorem Hb:av ["words","values","done","word","one","other"] ["words","values"] (ae lr):=⟨rfl,rfl,rfl,by decide+kernel,rfl,by decide+kernel,by decide+kernel⟩
theorem Nt (G:Gs w K mg) (D:Def K mg "_law_worth" lr ["words","values"]):Has P w K mg base (k+1) "_law_worth" ["words","values"] u7:=by
 refine D.has Hb (λvs H Q E h=>?_) (λf cdv A outer s H vs Q E hr h=>?_)
 ·obtain ⟨_,_,_,_,rfl,_,_,_,_,_,_⟩:=h;rfl
 have nd:=Hb.nd;have hu:=b8 hr;have hu0:=aaf hu;obtain ⟨t,a,ws,ρ,rfl,hW,hV,hw,h1,hn,q⟩:=h;have m_int:=G.m_int;have m_isinstance:=G.m_isinstance;refine ⟨_,(A5 (A9 2 nd `bh) (A5 (AZ (BB (@Tb _ _ _ _ _ _ _ _ (A0 0))) (AQ 3 nd (by first | exact ab6 rfl | exact ab5 rfl)) (A7 (AG (BQ (AO (@ig _) m_isinstance gm (A1 (A0 3) (A1 (BY m_int Gz) (A3 0))))) (A7 (AU (AS aL aS aT (AY 0) (A0 2) (A1 (A0 3) (A3 0))))) (A7 (AG (AH (AN 0) (A0 3) (AB 0) (AF 0)) (A7 (AU (AS aL aS aT (AY 0) (A0 2) (A1 (BI (@jt _) (BT aL cN cO (@vp _) (A0 2))) (A3 0))))) (A7 (AG (BP (@ja _) (A0 3) (A8 (AW (AC (AC (AC (AX 0))))))) (A5 (A9 4 nd (BT aL cN cO (@vp _) (A0 2))) (A5 (A9 5 nd (BT aL cN cO (@vp _) (A0 2))) (A7 (AU (AS aL aS aT (AY 0) (A0 2) (A1 (B5 hu (C3 (BH (AB 0) (A4 (AM 0) (A0 4) (A0 5)) (BH (AB 0) (A4 (BC 0) (A0 4) (A0 5)) (BH (AB 0) (A4 (@Ee _) (A0 4) (A0 5)) (@El _ _)))) (λe=>nomatch e)) (A0 3)) (A3 0))))))) (A7 (AU (AS aL aS aT (AY 0) (A0 2) (A1 (B5 hu (A0 1) (A0 3)) (A3 0)))))))))))) (A7 (AE `eq)))),?_⟩;rw[show start ["words","values","done","word","one","other"] [.ref t,.ref a]=[aA `I,aA `p,none,none,none,none] from rfl];clear hu hu0 nd hr;push_cast [and_true];have sz:=aV;refine ⟨aai _,λdl hdl=>?_⟩;have s1:=ab hdl `ai;have e1:upd H dl `ai dl=aA `ai:=aa;generalize upd H dl `ai=H1 at s1 e1 ⊢;push_cast [tRevT];refine ⟨_,s1 _ _ hW,λrv hrv=>?_⟩;have s2:=ab hrv `bW;have e2:upd H1 rv `bW rv=aA `bW:=aa;have d2:=s2 _ _ e1;have nrd:rv≠dl:=(ao e1 hrv).symm;generalize upd H1 rv `bW=H2 at s2 e2 d2 ⊢;have S2:=s1.trans s2;refine ⟨⟨_,SqT.of e2⟩,?_⟩;obtain ⟨Pv,ePv⟩:∃Pv:Nat→L2.St→Hp→Prop,∀i σ H',Pv i σ H'↔∃(v3 v4 v5:Option V),σ=[aA `I,aA `p,aA (.ref dl),v3,v4,v5]∧ag H H'∧H' rv=aA `bW∧H' dl=aA (.lst ((iz ρ (ws.drop (ws.length - i))).reverse.map V.int)):=⟨_,λ_ _ _=>abv⟩;refine ic (xs:=ws.reverse) Pv ((ePv _ _ _).mpr ⟨none,none,none,rfl,S2,e2,by rw[aes,adj];exact d2⟩) (λi σ H' _ h=>?_) ?_ ?_
 ·obtain ⟨_,_,_,_,_,z,_⟩:=(ePv _ _ _).mp h;exact SqT.of z
 ·intro i x σ H5 hx hh;refine ob3 `d1 λv3 v4 v5 hh=>?_;have s5:=hh.2.1;have r5:=hh.2.2.1;have d5:=hh.2.2.2;obtain rfl:=hh.1;clear hh;have hi:i < ws.length:=by have:=(List.getElem?_eq_some_iff.mp hx).1;rw[aat] at this;exact this
  rw[ach hi] at hx;obtain ⟨j,hj⟩:∃j,ws.length - (i+1)=j:=⟨_,rfl⟩;rw[show ws.length - 1 - i=j by omega] at hx;rw[show ws.length - i=j+1 by omega] at d5;have hjl:j < ws.length:=by omega
  obtain rfl:ws[j]=x:=by rw[aa2 hjl] at hx;exact aaa hx
  have step:=x9 (ρ:=ρ) hjl;obtain ⟨xw,xh,xl⟩:=hw _ (aaj hjl);obtain ⟨mm,hmm⟩:=Ij h1 (aa2 hjl);have sl:=Au (ρ:=ρ) (xs:=ws.drop (j+1)) (λv hv=>(hw v (ac5 hv)).1) hmm;have hbit:∀y∈iz ρ (ws.drop (j+1)),jh y:=λy hy=>Gu (ws:=(ws.drop (j+1)).map (jz ρ)) (l:=mm+arV ws[j]) (λv hv=>by
   obtain ⟨y,hy,rfl⟩:=List.mem_map.mp hv;obtain ⟨a,b,c⟩:=hw y (ac5 hy);exact ⟨ph a,c⟩) (by rw[xp];exact hmm) (by rw[aa0,aau];omega) hy
  have Sl:(iz ρ (ws.drop (j+1))).length≤1000:=by
   have:=Dh _ _ hmm;rw[aa0,aau] at this;omega
  generalize ws[j]=x at step xw xh xl sl;generalize iz ρ (ws.drop (j+1))=S at d5 step sl hbit Sl;have nx:∀(H':Hp) (v4 v5:Option V),ag H H'→H' rv=aA `bW→H' dl=aA (.lst ((ni (jz ρ x) S).reverse.map V.int))→Pv (i+1) [aA `I,aA `p,aA (.ref dl),aA x,v4,v5] H':=λH' v4 v5 a b c=>(ePv _ _ _).mpr ⟨_,_,_,rfl,a,b,by rw[hj,step];exact c⟩;obtain ⟨k,rfl⟩:=xw;push_cast [and_true];cases k with
  | inl n=>
   refine ⟨_,.int n,true,rfl,iteT ?_⟩;refine cb d5 (by rw[aa0,aat];omega) (nx _ _ _ (s5.upd hdl _) (by rw[ah nrd];exact r5) ?_);rw[aa,show ni (jz ρ (kV (bA n))) S=n::S from rfl,abf,aab];rfl
  | inr z=>
   refine ⟨_,.str z,false,rfl,Hm ⟨rfl,?_⟩⟩;have vz:0 < arS z→jz ρ (kV (aM z))=.str z:=λh=>if_pos h;by_cases c1:z=aB "neg"
   ·have a1:arS z=1:=by rw[c1];decide+kernel
    have sl:S.length=mm+arS z:=sl;obtain ⟨m0,S',rfl⟩:∃m0 S',S=m0::S':=by
     cases S with
     | nil=>rw[ace] at sl;omega
     | cons m0 S'=>exact ⟨m0,S',rfl⟩
    rw[abf,aab] at d5;rw[if_pos (show kV (aM z)=V.str `w by rw[c1];rfl)];refine ⟨bj d5,wm (xs:=S'.reverse.map V.int) (y:=.int m0) d5 ?_⟩;refine (cb (K:=K) aa (by rw[aa0,aat];rw[aa8] at Sl;omega) (nx _ _ _ ((s5.upd hdl _).upd hdl _) (by rw[ah nrd,ah nrd];exact r5) ?_)).2;rw[aa,vz (by omega),show ni (V.str z) (m0::S')=opN z m0 ((m0::S').getD 1 0)::(m0::S').drop (arS z) from rfl,a1,c1,zy];show aA (HO.lst (S'.reverse.map V.int++[V.int (-m0)]))=aA (HO.lst ((-m0::S').reverse.map V.int))
    rw[abf,aab];rfl
   ·rw[if_neg (show ¬kV (aM z)=V.str `w from λe=>c1 (V.str.inj e))];refine ⟨by show (3:Nat)≤sizeLine;decide,λp6 hp6=>?_⟩;have s6:=ab hp6 `aQ;have e6:upd H5 p6 `aQ p6=aA `aQ:=aa;generalize upd H5 p6 `aQ=H6 at s6 e6 ⊢;have S6:=s5.trans s6;have d6:=s6 _ _ d5;have r6:=s6 _ _ r5;have three:(inV `J [V.str "add",V.str "sub",V.str "mul"]=true)↔arS z=2:=Ft (Ld z);push_cast [rIn,J9,vh];refine ⟨_,.inr (SqT.of e6),rfl,rfl,df (λc=>?_) λc=>?_⟩
    ·have a2:arS z=2:=three.mp c;have sl:S.length=mm+arS z:=sl;obtain ⟨m0,m1,S',rfl⟩:∃m0 m1 S',S=m0::m1::S':=by
      cases S with
      | nil=>rw[ace] at sl;omega
      | cons m0 S'=>cases S' with
       | nil=>rw[aa4] at sl;omega
       | cons m1 S'=>exact ⟨m0,m1,S',rfl⟩
     rw[abf,abf,aab,aab] at d6;refine wm (xs:=S'.reverse.map V.int++[V.int m1]) (y:=.int m0) d6 (wm (xs:=S'.reverse.map V.int) (y:=.int m1) aa ⟨bj aa,?_⟩);have S7:=(S6.upd hdl `bf).upd hdl `bt;have r7:upd (upd H6 dl `bf) dl `bt rv=aA `bW:=by rw[ah nrd,ah nrd];exact r6
     have d7:upd (upd H6 dl `bf) dl `bt dl=aA `bt:=aa;generalize upd (upd H6 dl `bf) dl `bt=H7 at S7 r7 d7 ⊢;intro p8 hp8;refine ⟨m0,rfl,m1,rfl,⟨hbit _ aa6,hbit _ `eZ⟩,aa,Dv m0 m1,rfl,by show (3:Nat)≤15;decide,V.int (opN z m0 m1),?_,?_⟩
     ·rw[←disp3 a2];exact e9.k (k:=aM z) aa
     have s8:ag H7 (upd (upd H7 p8 `bU) p8 (.dK (g6 [] (Dv m0 m1)))):=(ab hp8 _).upd hp8 _;generalize upd (upd H7 p8 `bU) p8 (.dK (g6 [] (Dv m0 m1)))=H8 at s8 ⊢;refine (cb (K:=K) (s8 _ _ d7) (by rw[aa0,aat];rw[aa8,aa8] at Sl;omega) (nx _ _ _ ((S7.trans s8).upd hdl _) (by rw[ah nrd];exact s8 _ _ r7) ?_)).2;rw[aa,vz (by omega),show ni (V.str z) (m0::m1::S')=opN z m0 m1::(m0::m1::S').drop (arS z) from rfl,a2];show aA (HO.lst (S'.reverse.map V.int++[V.int (opN z m0 m1)]))=aA (HO.lst ((opN z m0 m1::S').reverse.map V.int))
     rw[abf,aab];rfl
    ·have a0:arS z=0:=by
      have:=Rk `J;have:arS z≤2:=this;have n2:¬arS z=2:=λe=>c (three.mpr e);have n1:¬arS z=1:=λe=>by
       rcases fk (z:=z) (by omega) with r | r | r | r
       ·rw[r] at e;exact absurd e `b
       ·rw[r] at e;exact absurd e `b
       ·rw[r] at e;exact absurd e `b
       ·exact c1 r
      omega
     have hz:(ρ z).isSome=true:=xh.resolve_left (by omega);obtain ⟨y,hy⟩:=Option.isSome_iff_exists.mp hz;obtain ⟨kvs,v1,v2⟩:=hV.same S6;refine ⟨bj d6,V.int y,?_,?_⟩
     ·rw[show aA (V.int y)=bf kvs (aM z) by rw[v2 z,hy];rfl];exact e9.k (k:=aM z) v1
     refine (cb (K:=K) d6 (by rw[aa0,aat];omega) (nx _ _ _ (S6.upd hdl _) (by rw[ah nrd];exact r6) ?_)).2;rw[aa,show jz ρ (kV (aM z))=V.int ((ρ z).getD 0) from if_neg (by omega),hy];show aA (HO.lst (S.reverse.map V.int++[V.int y]))=aA (HO.lst ((y::S).reverse.map V.int))
     rw[abf,aab];rfl
 ·intro σ H5 hh;refine ob3 `d1 λv3 v4 v5 hh=>?_;have s5:=hh.2.1;have r5:=hh.2.2.1;have d5:=hh.2.2.2;obtain rfl:=hh.1;clear hh;rw[aat,abz,acn,Ge (λv hv=>(hw v hv).1) h1] at d5;push_cast [and_true];exact ax d5 `c5 (q H5 s5)
noncomputable abbrev ji:Stmt:=top 54
theorem Bj:av ["script","names"] ["script"] (ae ji):=⟨rfl,rfl,rfl,by decide+kernel,rfl,by decide+kernel,by decide+kernel⟩
theorem Iq (G:Gs w K mg) (h_law_draw:Has P w K mg base k "_law_draw" ["script","k"] (jw K)) (h_law_number:Has P w K mg base k "_law_number" ["draw"] vi) (h_law_word:Has P w K mg base k "_law_word" ["script","i"] (vj K)) (D:Def K mg "_law_values" ji ["script"]):Has P w K mg base (k+1) "_law_values" ["script"] (qd K):=by
 refine D.has Bj (λvs H Q E h=>?_) (λf cdv A outer s H vs Q E hr h=>?_)
 ·obtain ⟨_,_,rfl,_,_,_⟩:=h;rfl
 have nd:=Bj.nd;have hu:=b8 hr;have hu0:=aaf hu;obtain ⟨a,ns,rfl,hA,hl,q⟩:=h;have m_dict:=G.m_dict;have m_enumerate:=G.m_enumerate;refine ⟨_,(A5 (BM 1 nd (BA ["k"] ["script"] [0] `Y `l) (BB (A8 (AW (B9 (B9 (B9 (B9 (AX 0)))))))) (λ_ _ _=>(B8 0 (show abj (["k","script"]:List Str) by decide+kernel))) (λ_ _ _=>(@xj _)) (λ_ _ _=>(AD h_law_word hr (A1 (AJ 1) `a2)))) (A7 (AE (B0 (@sg _) m_dict Jb (A1 (BG (BA ["k","name"] ["script"] [0] `Y `l) (C1 m_enumerate `ec) (λ_ _ _=>(@Q8 _ _ K rfl _ _ _ _ rfl (B6 (B8 0 (show abj (["k","name","script"]:List Str) by decide+kernel)) (B6 (B8 1 (show abj (["k","name","script"]:List Str) by decide+kernel)) (@jq _))) rfl rfl)) (λ_ _ _=>(@xj _)) (λ_ _ _=>(A8 (A1 (A0 1) (A1 (AD h_law_number hr (A1 (AD h_law_draw hr (A1 (AJ 2) (A1 (A4 (AM 0) (A2 0) (A0 0)) (A3 0)))) (A3 0))) (A3 0)))))) (A3 0)))))),?_⟩;rw[show start ["script","names"] [.ref a]=[aA `p,none] from rfl];clear hu hu0 nd hr;push_cast [and_true];have sz:=aV;refine ⟨by show (4:Nat)≤sizeLine;decide,λp1 hp1=>?_⟩;have s1:=ab hp1 `b9;have e1:upd H p1 `b9 p1=aA (.tup (four.map λk:Nat=>V.int (k:Int))):=aa;generalize upd H p1 `b9=H1 at s1 e1 ⊢;refine ⟨⟨_,SqT.of e1⟩,λl hl1=>?_⟩;refine lz (xs:=four.map λk:Nat=>V.int (k:Int)) (λi ys=>ys=(four.take i).map λk=>V.str (wd ns k)) (SqT.of e1) (by show (4:Nat) < sizeLine;decide) hl1 rfl (λi x ys H3 G' K' hx hP hl2 hS' hG hK'=>?_) λys H3 hP hl2 hS' hD2=>?_
 ·rw[aa5] at hx;obtain ⟨k1,hk1,rfl⟩:=Option.map_eq_some_iff.mp hx;push_cast [and_true];have kl:k1≤1000:=by
   have lt:∀x∈four,x≤1000:=by decide
   exact lt k1 (aak hk1)
  refine ye (i:=k1) ((s1.trans hS').seq hA) hl kl (hK' _ _ `az ?_);rw[hP,aav,hk1,aab];rfl
 ·have hP:ys=four.map λk=>V.str (wd ns k):=hP;subst hP;have s3:=s1.trans hS';push_cast [iEnum];refine ⟨⟨_,SqL.of hD2⟩,λD hD=>?_⟩;refine Qc (xs:=four.map λk=>V.str (wd ns k)) (λi ys H'=>∃xs:List Int,xs.length=i∧ys.length=i∧∀(j:Nat) (x:Int),xs[j]?=aA x→x.natAbs < 10 ^ 12∧∃(t:Addr) (k:Nat),ys[j]?=aA `I∧four[j]?=aA k∧H' t=aA (.tup [V.str (wd ns k),V.int x])) ?_ rfl (SqL.of hD2) (by show (4:Nat) < sizeLine;decide) hD ⟨[],rfl,rfl,λj x h=>by simp at h⟩ (λi x ys H4 G' K' hx hP hl3 hS3 hG hK'=>?_) λys H4 hP hl3 hS3 hD3=>?_
  ·rintro i ys H4 H5 tk ⟨xs,a1,a2,a3⟩;exact ⟨xs,a1,a2,λj x hj=>by
    obtain ⟨b1,t,k,b2,b3,b4⟩:=a3 j x hj;exact ⟨b1,t,k,b2,b3,tk _ _ b4⟩⟩
  ·rw[aa5] at hx;obtain ⟨k1,hk1,rfl⟩:=Option.map_eq_some_iff.mp hx;have i4:i < 4:=(List.getElem?_eq_some_iff.mp hk1).1;obtain ⟨xs,a1,a2,a3⟩:=hP;push_cast [and_true];refine dc (k:=92+i) ((s3.trans hS3).seq hA) hl (by omega) ⟨_,rfl,rb _ _,yi _ _,λx H5 s5 hx5=>⟨by show (2:Nat)≤sizeLine;decide,λt ht=>?_⟩⟩;have s6:=ab ht (.tup [V.str (wd ns k1),V.int x]);refine hK' _ _ (s5.trans s6) ⟨xs++[x],by rw[aa1,a1];rfl,by rw[aa1,a2];rfl,λj y hj=>?_⟩;by_cases c:j < i
   ·rw[aag (by omega)] at hj;obtain ⟨b1,t',k,b2,b3,b4⟩:=a3 j y hj;exact ⟨b1,t',k,by rw[aag (by omega)];exact b2,b3,(s5.trans s6) _ _ b4⟩
   ·have hjl:=(List.getElem?_eq_some_iff.mp hj).1;rw[aa1,a1,aa4] at hjl;obtain rfl:j=i:=by omega
    rw[aad (by omega),a1,abz] at hj;cases hj
    exact ⟨hx5,t,k1,by rw[aad (by omega),a2,abz];rfl,hk1,aa⟩
  ·obtain ⟨xs,a1,a2,a3⟩:=hP;have a1:xs.length=4:=a1;have a2:ys.length=4:=a2;have el:xs.length=(four.map (wd ns)).length:=by rw[aa0,a1];rfl
   obtain ⟨ρ,v1,v2,v3,v4⟩:=Ib (Vg ns) el rfl;refine ⟨rfl,ys,hD3,((four.map (wd ns)).map (aM:Str→Key)).zip (xs.map V.int),?_,λj pr hj=>?_,λd hd=>?_⟩
   ·rw[abm,aa0,aa0,aa0,a1,a2];rfl
   ·rw[ae0,aa5,aa5,aa5] at hj;obtain ⟨j1,j2⟩:=hj;obtain ⟨z,hz,ez⟩:=Option.map_eq_some_iff.mp j1;obtain ⟨k,hk,ek⟩:=Option.map_eq_some_iff.mp hz;obtain ⟨x,hx,ex⟩:=Option.map_eq_some_iff.mp j2;obtain ⟨_,t,k',b2,b3,b4⟩:=a3 j x hx;obtain rfl:k'=k:=aaa (b3.symm.trans hk);refine ⟨t,b2,?_⟩;rw[b4,←ez,←ex,←ek];rfl
   ·have s5:=ab hd (.dK (b7 (((four.map (wd ns)).map (aM:Str→Key)).zip (xs.map V.int)) []));refine q d _ ρ _ ((s3.trans hS3).trans s5) aa v1 (λi hi=>?_) (by have:(four.map (wd ns)).length=4:=rfl;omega) v4;obtain ⟨j,hj⟩:=ab7 (show i∈four from hi);have j4:j < 4:=(List.getElem?_eq_some_iff.mp hj).1;have hx:=aa2 (show j < xs.length by omega);exact ⟨_,v2 j _ _ (by rw[aa5,hj];rfl) hx,(a3 j _ hx).1⟩
noncomputable abbrev zt:Stmt:=top 55
theorem Rt:av ["rows","values","boxes","row","one","other"] ["rows","values"] (ae zt):=⟨rfl,rfl,rfl,by decide+kernel,rfl,by decide+kernel,by decide+kernel⟩
theorem Us (G:Gs w K mg) (D:Def K mg "_law_run" zt ["rows","values"]):Has P w K mg base (k+1) "_law_run" ["rows","values"] Dz:=by
 refine D.has Rt (λvs H Q E h=>?_) (λf cdv A outer s H vs Q E hr h=>?_)
 ·obtain ⟨_,_,_,_,_,_,rfl,_,_,_,_,_,_⟩:=h;rfl
 have nd:=Rt.nd;have hu:=b8 hr;have hu0:=aaf hu;obtain ⟨l,vl,as,R,fs,vals,rfl,hL,hT,hV,hR,hn,q⟩:=h;refine ⟨_,(A5 (A9 2 nd (@yz _ _)) (A5 (AZ (BF (A0 0)) (AQ 3 nd (by first | exact ab6 rfl | exact ab5 rfl)) (A7 (AG (AH (AN 0) (A6 (AA 0) (A0 3) (A2 0)) (AB 0) (AF 0)) (A7 (BL hu (A0 2) (A6 (AA 0) (A0 3) (A2 0)) (A6 (AA 0) (A0 3) (A2 0)))) (A7 (AG (AH (AN 0) (A6 (AA 0) (A0 3) (A2 0)) (AB 0) (AF 0)) (A7 (BL hu (A0 2) (A6 (AA 0) (A0 3) (A2 0)) (B5 hu (A0 1) (A6 (AA 0) (A0 3) (A2 0))))) (A7 (AG (AH (AN 0) (A6 (AA 0) (A0 3) (A2 0)) (AB 0) (AF 0)) (A7 (BL hu (A0 2) (A6 (AA 0) (A0 3) (A2 0)) (BI (@jt _) (B5 hu (A0 2) (A6 (AA 0) (A0 3) (A2 0)))))) (A5 (A9 4 nd (B5 hu (A0 2) (A6 (AA 0) (A0 3) (A2 0)))) (A5 (A9 5 nd (B5 hu (A0 2) (A6 (AA 0) (A0 3) (A2 0)))) (A7 (BL hu (A0 2) (A6 (AA 0) (A0 3) (A2 0)) (B5 hu (C3 (BH (AB 0) (A4 (AM 0) (A0 4) (A0 5)) (BH (AB 0) (A4 (BC 0) (A0 4) (A0 5)) (BH (AB 0) (A4 (@Ee _) (A0 4) (A0 5)) (@El _ _)))) (λe=>nomatch e)) (A6 (AA 0) (A0 3) (A2 0)))))))))))))) (A7 (AE (A0 2))))),?_⟩;rw[show start ["rows","values","boxes","row","one","other"] [.ref l,.ref vl]=[aA `B,aA (.ref vl),none,none,none,none] from rfl];clear hu hu0 nd hr;push_cast [and_true];have sz:=aV;intro d hd;have s1:=ab hd `bU;have e1:upd H d `bU d=aA `bU:=aa;generalize upd H d `bU=H1 at s1 e1 ⊢;have al:=hT.1;have fl:=hR.1;refine ⟨⟨_,SqL.of (s1 _ _ hL)⟩,?_⟩;obtain ⟨Pv,ePv⟩:∃Pv:Nat→L2.St→Hp→Prop,∀i σ H',Pv i σ H'↔∃(v3 v4 v5:Option V),σ=[aA `B,aA (.ref vl),aA `X,v3,v4,v5]∧ag H H'∧H' d=aA (.dK `a8):=⟨_,λ_ _ _=>abv⟩;refine i9 (xs:=as.map V.ref) Pv ((ePv _ _ _).mpr ⟨none,none,none,rfl,s1,e1⟩) (λi σ H' _ h=>?_) ?_ ?_
 ·obtain ⟨_,_,_,_,z,_⟩:=(ePv _ _ _).mp h;exact SqL.of (z _ _ hL)
 ·intro i x σ H5 hx hh;refine ob3 `d1 λv3 v4 v5 hh=>?_;have s5:=hh.2.1;have d5:=hh.2.2;obtain rfl:=hh.1;clear hh;rw[aa5] at hx;obtain ⟨ai,hai,rfl⟩:=Option.map_eq_some_iff.mp hx;have hi:i < fs.length:=by rw[←fl,←al];exact (List.getElem?_eq_some_iff.mp hai).1
  have hfi:=aa2 hi;obtain ⟨t,ht,hrow⟩:=hR.2 i _ hfi;obtain ⟨ai',hai',hta⟩:=hT.2 i t ht;obtain rfl:ai'=ai:=aaa (hai'.symm.trans hai);have h5:=s5 _ _ hta;have bl:=Cr (fs.take i);rw[ab1] at bl;have nx:∀(b n:Int) (v4 v5:Option V) (H':Hp),fs[i]=(b,n)→H'=upd H5 d (.dK (putK `a8 (bA b) `ef))→Pv (i+1) [aA `B,aA (.ref vl),aA `X,aA (.ref ai'),v4,v5] H':=λb n v4 v5 H' e eH=>(ePv _ _ _).mpr ⟨_,_,_,rfl,by rw[eH];exact s5.upd hd _,by rw[eH,aa,aav,hfi,e];show _=aA (HO.dK (dw (fs.take i++[(b,n)])));rw[mq]⟩;have nx2:∀(b n:Int) (v4 v5:Option V) (H6 H':Hp),ag H5 H6→fs[i]=(b,n)→H'=upd H6 d (.dK (putK `a8 (bA b) `ef))→Pv (i+1) [aA `B,aA (.ref vl),aA `X,aA (.ref ai'),v4,v5] H':=λb n v4 v5 H6 H' s6 e eH=>(ePv _ _ _).mpr ⟨_,_,_,rfl,by rw[eH];exact (s5.trans s6).upd hd _,by rw[eH,aa,aav,hfi,e];show _=aA (HO.dK (dw (fs.take i++[(b,n)])));rw[mq]⟩;have put:∀{H6:Hp} (b:Int) (v:V),H6 d=aA (.dK `a8)→va H6 d (.int b) v (upd H6 d (.dK (putK `a8 (bA b) v))):=λb v h6=>va.k (k:=bA b) h6 (by omega);have get:∀{H6:Hp} {b m:Int},H6 d=aA (.dK `a8)→bf `a8 (bA b)=aA (.int m)→e9 H6 d (.int b) (aA (.int m)):=λh6 e=>by rw[←e];exact e9.k (k:=bA _) h6
  have ep:fs[i]=(fs[i].1,fs[i].2):=rfl;generalize fs[i].1=b0 at hrow ep;generalize fs[i].2=n0 at hrow ep;push_cast [J9,vh];cases hrow with
  | put b n=>exact af h5 rfl ⟨rfl,ifY rfl (af h5 rfl (af h5 rfl ⟨_,put _ _ d5,nx _ _ _ _ _ ep rfl⟩))⟩
  | load b z n h=>
   refine af h5 rfl ⟨rfl,ifN `b (af h5 rfl ⟨rfl,ifY rfl (af h5 rfl ⟨V.int n0,?_,af h5 rfl ⟨_,put _ _ d5,nx _ _ _ _ _ ep rfl⟩⟩)⟩)⟩;rw[←h];exact e9.k (k:=aM z) (s5 _ _ hV)
  | neg b x m h b1=>
   exact af h5 rfl ⟨rfl,ifN `b (af h5 rfl ⟨rfl,ifN `b (af h5 rfl ⟨rfl,ifY rfl (af h5 rfl ⟨V.int m,get d5 h,af h5 rfl ⟨_,put _ _ d5,nx _ _ _ _ _ ep rfl⟩⟩)⟩)⟩)⟩
  | bin z b x y m n hz h1 h2 b1 b2=>
   have n1:¬V.str z=V.str `R:=λe=>by rw[V.str.inj e] at hz;exact absurd hz `b
   have n2:¬V.str z=V.str (aB "load"):=λe=>by rw[V.str.inj e] at hz;exact absurd hz `b
   have n3:¬V.str z=V.str `w:=λe=>by rw[V.str.inj e] at hz;exact absurd hz `b
   refine af h5 rfl ⟨rfl,ifN n1 (af h5 rfl ⟨rfl,ifN n2 (af h5 rfl ⟨rfl,ifN n3 (af h5 rfl ⟨V.int m,get d5 h1,af h5 rfl ⟨V.int n,get d5 h2,?_⟩⟩)⟩)⟩)⟩;intro p8 hp8;have s8:ag H5 (upd (upd H5 p8 `bU) p8 `dl):=(ab hp8 _).upd hp8 _;refine ⟨m,rfl,n,rfl,⟨b1,b2⟩,aa,Dv m n,rfl,by show (3:Nat)≤15;decide,?_⟩;have e8:upd (upd H5 p8 `bU) p8 `dl p8=aA `dl:=aa;generalize upd (upd H5 p8 `bU) p8 `dl=H8 at s8 e8 ⊢;refine af (s8 _ _ h5) rfl ⟨V.int (opN z m n),?_,af (s8 _ _ h5) rfl ⟨_,put _ _ (s8 _ _ d5),nx2 _ _ _ _ _ _ s8 ep rfl⟩⟩;rw[←disp3 hz];exact e9.k (k:=aM z) e8
 ·intro σ H5 hh;refine ob3 `d1 λv3 v4 v5 hh=>?_;have s5:=hh.2.1;have d5:=hh.2.2;obtain rfl:=hh.1;clear hh;rw[aa0,al,fl,ad2] at d5;push_cast [and_true];exact q d H5 s5 hd d5
noncomputable abbrev Dd:Stmt:=top 56
theorem scLaw:av ["script","book","words","kind","cover","values","rows","box","row"] ["script"] (ae Dd):=⟨rfl,rfl,rfl,by decide+kernel,rfl,by decide+kernel,by decide+kernel⟩
theorem hasLaw {f:Addr} {fd:cV} (G:Gs w K mg) (h_law_case:Has P w K mg base k "_law_case" ["script","limit"] (xo K)) (h_law_run:Has P w K mg base k "_law_run" ["rows","values"] Dz) (h_law_values:Has P w K mg base k "_law_values" ["script"] (qd K)) (h_law_worth:Has P w K mg base k "_law_worth" ["words","values"] u7) (h_rows_of:Has P w K mg base k "rows_of" ["book","words","kind","cover"] qa) (h_run:Has P w K mg base k "run" ["rows","values"] (N0 K)) (F:Fun K "law" "law" Dd f fd):uf P w K mg base CX0 (k+1) f fd ["script"] (J4 K):=by
 refine F.ok scLaw (λvs H Q E h=>?_) (λcdv A outer s H vs Q E hr h=>?_)
 ·obtain ⟨_,_,rfl,_,_,_⟩:=h;rfl
 have nd:=scLaw.nd;have hu:=b8 hr;have hu0:=aaf hu;obtain ⟨a,ns,rfl,hA,hl,q⟩:=h;have m_dict:=G.m_dict;refine ⟨_,(A5 (BS (AD h_law_case hr (A1 (A0 0) `ce)) (BN 4 (B6 (AQ 1 nd (by first | exact ab6 rfl | exact ab5 rfl)) (B6 (AQ 2 nd (by first | exact ab6 rfl | exact ab5 rfl)) (B6 (AQ 3 nd (by first | exact ab6 rfl | exact ab5 rfl)) (B6 (AQ 4 nd (by first | exact ab6 rfl | exact ab5 rfl)) (@jq _))))))) (A5 (AG (BR (@pc_isN _ _ _ _ _ (A0 3)) (by first | exact fu _ (by decide) (by decide) | rfl)) (A7 (AE (@Lc _ _ _ _))) (AK 0)) (A5 (A9 5 nd (AD h_law_values hr (A1 (A0 0) (A3 0)))) (A5 (BS (AD h_rows_of hr (A1 (A0 1) (A1 (A0 2) (A1 (A0 3) (A1 (A0 4) (A3 0)))))) (BN 2 (B6 (AQ 6 nd (by first | exact ab6 rfl | exact ab5 rfl)) (B6 (AQ 7 nd (by first | exact ab6 rfl | exact ab5 rfl)) (@jq _))))) (A5 (AZ (BF (A0 6)) (AQ 8 nd (by first | exact ab6 rfl | exact ab5 rfl)) (A7 (AG (BP (@uz _) (A6 (AA 0) (A0 8) (A2 0)) (A8 (AW (AC (AC (AC (AC (AC (AC (AX 0)))))))))) (A7 (AE (@Lc _ _ _ _))) (AK 0)))) (A5 (AG (AH (@N5 _) (B5 hu (AD h_run hr (A1 (A0 6) (A1 (B0 (@Dk _) m_dict Jb (A1 (A0 5) (A3 0))) (A3 0)))) (A0 7)) (AD h_law_worth hr (A1 (A0 2) (A1 (A0 5) (A3 0)))) (AF 0)) (A7 (AE (@Lc _ _ _ _))) (AK 0)) (A7 (AE (BW (AN 0) (B5 hu (AD h_law_run hr (A1 (A0 6) (A1 (A0 5) (A3 0)))) (A0 7)) (AD h_law_worth hr (A1 (A0 2) (A1 (A0 5) (A3 0)))) (AF 0)))))))))),?_⟩;rw[show start ["script","book","words","kind","cover","values","rows","box","row"] [.ref a]=[aA (.ref a),none,none,none,none,none,none,none,none] from rfl];clear hu hu0 nd hr;push_cast [and_true];have sz:=aV;refine Tj (m:=24) hA hl (by decide) (by decide) λt bt wt x ct kinds rs ws H1 s1 C=>?_;refine Q9 C.h rfl ?_;push_cast [tIsN];rcases C.c with rfl | ⟨kd,cs,rfl,hkd,hcv,hct,hcl⟩
 ·exact df (λ_=>q _) λc=>absurd rfl c
 ·refine df (λc=>nomatch c) λ_=>?_;have wl:=C.wl;have w0:0 < ws.length:=by
   have:=C.tw.one;cases ws with
   | nil=>cases this
   | cons=>exact Nat.zero_lt_succ _
  obtain ⟨es,pq,CA⟩:=hcv.all C.bd.bk C.bd.md C.tw w0;have e0:eat 1 ((arE es).drop 0)=aA (arE es).length:=by rw[acn];exact gc _ _ CA.pe
  have arl:(arE es).length=es.length:=aa0 _;have esl:=CA.len;refine Mu (s1.seq hA) hl λd vals ρ H2 s2 hd2 hv hρ vl vn=>?_;have vok:=Uk C.tw C.wd hρ;have ea:er (es.map λe=>(e.1.1,e.2))=arE es:=by
   unfold er arE;rw[abd];rfl
  have us:=us_of CA.t C.bd.bk C.tw C.wd hρ;obtain ⟨fs,hrun,hval⟩:=Nd CA C.bd.bk C.tw us (λp hp=>Lp C.tw vok hp) (by omega) (by omega) hv;have hRl:(ud es `C).length≤1000:=G3 CA.t C.bd.bk us (by rw[o8 e0];omega);have hct':H2 ct=aA (.tup ((cs.map λr=>r.1.name).map V.str)):=by rw[abd];exact s2 _ _ hct
  have nmt:∀z∈cs.map (λr=>r.1.name),jx z:=λz hz=>by
   obtain ⟨r,hr,rfl⟩:=List.mem_map.mp hz;obtain ⟨i,_,e⟩:=C.bd.rw r (hcv.mem r hr);rw[e];exact (Fv ns _).2.1
  have kdt:∀z∈kinds,jx z:=λz hz=>by
   obtain ⟨i,_,e⟩:=C.bd.kw z hz;rw[e];exact (Fv ns _).2.1
  have rok:∀x∈rs,Hv x:=λx hx=>Mk.rd (C.bd.md x hx);refine Mb (C.b.same s2) (s2 _ _ C.w) hct' C.bd.bk C.tw w0 (kdt _ hkd) kdt nmt (by rw[aa0];omega) rok (λds hds es' t5 l5 bs5 H5 hes hrd s5 ht5 h5 hl5 l5' T5=>?_) λz=>by rw[CA.cov] at z;cases z
  obtain rfl:ds=es.map λe=>(e.1.1,e.2):=aaa (hds.symm.trans CA.cov);rw[Kh C.bd.bk.nd hrd CA.t.rd hes,ea] at h5 T5;refine ie h5 rfl ?_;push_cast [and_true];refine ⟨⟨_,SqL.of l5'⟩,i9 (xs:=bs5.map V.ref) (λi σ H'=>∃v8:Option V,σ=[aA `p,aA (.ref bt),aA `bd,aA `bY,aA (.ref ct),aA `X,aA (.ref l5),aA (.int (yy es `C:Nat)),v8]∧ag H5 H') ⟨none,rfl,ag.refl _⟩ (λi σ H' _ h=>by obtain ⟨_,_,s⟩:=h;exact SqL.of (s _ _ l5')) ?_ ?_⟩
  ·rintro i x σ H6 hx ⟨v8,rfl,s6⟩;rw[aa5] at hx;obtain ⟨ai,hai,rfl⟩:=Option.map_eq_some_iff.mp hx;have hil:i < fs.length:=by rw[←hrun.1,←T5.1];exact (List.getElem?_eq_some_iff.mp hai).1
   obtain ⟨t6,ht6,row6⟩:=hrun.2 i _ (aa2 hil);obtain ⟨ai',hai',hta⟩:=T5.2 i t6 ht6;obtain rfl:ai'=ai:=aaa (hai'.symm.trans hai);obtain ⟨z,r,rfl,hz⟩:=row6.head;push_cast [and_true];refine af (s6 _ _ hta) `c5 ⟨by show (6:Nat)≤sizeLine;decide,λp7 hp7=>?_⟩;have s7:=ab hp7 (.tup Ht);have e7:upd H6 p7 (.tup Ht) p7=aA (.tup Ht):=aa;show rIn K true (V.str z) (V.ref p7) (upd H6 p7 (.tup Ht)) _
   generalize upd H6 p7 (.tup Ht)=H7 at s7 e7 ⊢;push_cast [rIn];refine ⟨Ht,.inr (SqT.of e7),rfl,rfl,?_⟩;rw[hz];exact Hm (s6.trans s7)
  ·rintro σ H6 ⟨v8,rfl,s6⟩;have s26:=s5.trans s6;push_cast [and_true];refine ⟨vals,.inl (s26 _ _ hd2),λd7 hd7=>?_⟩;have s7:=ab hd7 `cY;have e7:upd H6 d7 `cY d7=aA `cY:=aa;generalize upd H6 d7 `cY=H7 at s7 e7 ⊢;have s57:=s6.trans s7;have T7:=T5.tk (TK.of s57);have bl:bs5.length≤1000:=by rw[T5.1];exact hRl
   refine ⟨l5,d7,_,_,fs,vals,rfl,SqL.of (s57 _ _ l5'),by rw[aa0];exact bl,T7.rowsIn,e7,hrun,λd8 H8 s8 hd8 e8=>?_⟩;have gt:∀{H':Hp} {dd:Addr},H' dd=aA (.dK (dw fs))→e9 H' dd (.int (yy es `C:Nat)) (aA `eL):=λh=>by rw[←hval];exact e9.k (k:=bA _) h
   have s58:=s57.trans s8;have S8:=s5.trans s58;refine ⟨d8,rfl,_,gt e8,?_⟩;have V8:vd H8 d ρ:=⟨vals,S8 _ _ hd2,hv⟩;refine Gv (S8 _ _ (s2 _ _ C.w)) V8 vok C.tw.one (by omega) λH9 s9=>⟨rfl,?_⟩;have S9:=S8.trans s9;have s59:=s58.trans s9;rw[if_neg `c];refine mkRunF (s59 _ _ l5') (T5.tk (TK.of s59)) (S9 _ _ hd2) hrun hRl λda HA sA hda eA=>⟨da,rfl,_,gt eA,?_⟩;have SA:=S9.trans sA;refine Gv (SA _ _ (s2 _ _ C.w)) ⟨vals,SA _ _ hd2,hv⟩ vok C.tw.one (by omega) λHB sB=>⟨rfl,?_⟩;rw[decide_eq_true rfl];exact q HB
end
end K62
namespace K62
open PySem PySem.Spec L2 PyProof.Rows Pc
theorem all_mk {l:jO} {w:aZ} {K:aG} {h:Heap} {mg:Str→Option aD} {fa:Addr} (X:K.In h) (G:h.Ns aN mg) (hfa:mg "law"=aA (.ref fa))
  {f0 f1 f2 f3 f4 f5 f6 f7 f8 f9 f10 f11 f12 f13 f14 f15 f16 f17 f18 f19 f20 f21 f22 f23 f24 f25 f26 f27 f28 f29 f30 f31 f32 f33 f34 f35 f36 f37 f38 f39 f40 f41 g0 g1:Addr} {od0 an0 od1 an1 od2 an2 od3 an3 od4 an4 od5 an5 od6 an6 od7 an7 od8 an8 od9 an9 od10 an10 od11 an11 od12 an12 od13 an13 od14 an14 od15 an15 od16 an16 od17 an17 od18 an18 od19 an19 od20 an20 od21 an21 od22 an22 od23 an23 od24 an24 od25 an25 od26 an26 od27 an27 od28 an28 od29 an29 od30 an30 od31 an31 od32 an32 od33 an33 od34 an34 od35 an35 od36 an36 od37 an37 od38 an38 od39 an39 od40 an40 od41 an41 gd1:Option Addr} {sl0 sl1 sl2 sl3 sl4 sl5 sl6 sl7 sl8 sl9 sl10 sl11 sl12 sl13 sl14 sl15 sl16 sl17 sl18 sl19 sl20 sl21 sl22 sl23 sl24 sl25 sl26 sl27 sl28 sl29 sl30 sl31 sl32 sl33 sl34 sl35 sl36 sl37 sl38 sl39 sl40 sl41 gs1:Array `e2} {oc0 kV0 dc0 pm0 cd0 ct0 oc1 kV1 dc1 pm1 cd1 ct1 oc2 kV2 dc2 pm2 cd2 ct2 oc3 kV3 dc3 pm3 cd3 ct3 oc4 kV4 dc4 pm4 cd4 ct4 oc5 kV5 dc5 pm5 cd5 ct5 oc6 kV6 dc6 pm6 cd6 ct6 oc7 kV7 dc7 pm7 cd7 ct7 oc8 kV8 dc8 pm8 cd8 ct8 oc9 kV9 dc9 pm9 cd9 ct9 oc10 kV10 dc10 pm10 cd10 ct10 oc11 kV11 dc11 pm11 cd11 ct11 oc12 kV12 dc12 pm12 cd12 ct12 oc13 kV13 dc13 pm13 cd13 ct13 oc14 kV14 dc14 pm14 cd14 ct14 oc15 kV15 dc15 pm15 cd15 ct15 oc16 kV16 dc16 pm16 cd16 ct16 oc17 kV17 dc17 pm17 cd17 ct17 oc18 kV18 dc18 pm18 cd18 ct18 oc19 kV19 dc19 pm19 cd19 ct19 oc20 kV20 dc20 pm20 cd20 ct20 oc21 kV21 dc21 pm21 cd21 ct21 oc22 kV22 dc22 pm22 cd22 ct22 oc23 kV23 dc23 pm23 cd23 ct23 oc24 kV24 dc24 pm24 cd24 ct24 oc25 kV25 dc25 pm25 cd25 ct25 oc26 kV26 dc26 pm26 cd26 ct26 oc27 kV27 dc27 pm27 cd27 ct27 oc28 kV28 dc28 pm28 cd28 ct28 oc29 kV29 dc29 pm29 cd29 ct29 oc30 kV30 dc30 pm30 cd30 ct30 oc31 kV31 dc31 pm31 cd31 ct31 oc32 kV32 dc32 pm32 cd32 ct32 oc33 kV33 dc33 pm33 cd33 ct33 oc34 kV34 dc34 pm34 cd34 ct34 oc35 kV35 dc35 pm35 cd35 ct35 oc36 kV36 dc36 pm36 cd36 ct36 oc37 kV37 dc37 pm37 cd37 ct37 oc38 kV38 dc38 pm38 cd38 ct38 oc39 kV39 dc39 pm39 cd39 ct39 oc40 kV40 dc40 pm40 cd40 ct40 oc41 kV41 dc41 pm41 cd41 ct41:aD} {dt0x0 dt0x1 dt0x2 dt0x3 du0x0 du0x1 du0x2 du0x3 dp0 gt1x0 gt1x1 gt1x2 gt1x3 gn1:Nat} {dh0x0 dh0x1 dh0x2 dh0x3:Int}
  (a0:aO K aN "_law_draw"=aA (aA (.ref f0)))
  (l0:K.lookup f0=aA ⟨oc0,od0,.func (aU "_law_draw" "_law_draw" (au Ad) (aq Ad) (ae Ad) .none kV0 dc0 pm0 an0 cd0 ct0),sl0⟩)
  (c0:aR K cd0 "_law_draw"=true)
  (k0:aQ K (.ref f0)=true)
  (a1:aO K aN "_law_word"=aA (aA (.ref f1)))
  (l1:K.lookup f1=aA ⟨oc1,od1,.func (aU "_law_word" "_law_word" (au zv) (aq zv) (ae zv) .none kV1 dc1 pm1 an1 cd1 ct1),sl1⟩)
  (c1:aR K cd1 "_law_word"=true)
  (k1:aQ K (.ref f1)=true)
  (a2:aO K aN "_law_number"=aA (aA (.ref f2)))
  (l2:K.lookup f2=aA ⟨oc2,od2,.func (aU "_law_number" "_law_number" (au y6) (aq y6) (ae y6) .none kV2 dc2 pm2 an2 cd2 ct2),sl2⟩)
  (c2:aR K cd2 "_law_number"=true)
  (k2:aQ K (.ref f2)=true)
  (a3:aO K aN "_law_price"=aA (aA (.ref f3)))
  (l3:K.lookup f3=aA ⟨oc3,od3,.func (aU "_law_price" "_law_price" (au kr) (aq kr) (ae kr) .none kV3 dc3 pm3 an3 cd3 ct3),sl3⟩)
  (c3:aR K cd3 "_law_price"=true)
  (k3:aQ K (.ref f3)=true)
  (a4:aO K aN "_law_leaf"=aA (aA (.ref f4)))
  (l4:K.lookup f4=aA ⟨oc4,od4,.func (aU "_law_leaf" "_law_leaf" (au sf) (aq sf) (ae sf) .none kV4 dc4 pm4 an4 cd4 ct4),sl4⟩)
  (c4:aR K cd4 "_law_leaf"=true)
  (k4:aQ K (.ref f4)=true)
  (a5:aO K aN "_law_shape"=aA (aA (.ref f5)))
  (l5:K.lookup f5=aA ⟨oc5,od5,.func (aU "_law_shape" "_law_shape" (au lp) (aq lp) (ae lp) .none kV5 dc5 pm5 an5 cd5 ct5),sl5⟩)
  (c5:aR K cd5 "_law_shape"=true)
  (k5:aQ K (.ref f5)=true)
  (a6:aO K aN "_law_more"=aA (aA (.ref f6)))
  (l6:K.lookup f6=aA ⟨oc6,od6,.func (aU "_law_more" "_law_more" (au qx) (aq qx) (ae qx) .none kV6 dc6 pm6 an6 cd6 ct6),sl6⟩)
  (c6:aR K cd6 "_law_more"=true)
  (k6:aQ K (.ref f6)=true)
  (a7:aO K aN "_law_book"=aA (aA (.ref f7)))
  (l7:K.lookup f7=aA ⟨oc7,od7,.func (aU "_law_book" "_law_book" (au qu) (aq qu) (ae qu) .none kV7 dc7 pm7 an7 cd7 ct7),sl7⟩)
  (c7:aR K cd7 "_law_book"=true)
  (k7:aQ K (.ref f7)=true)
  (a8:aO K aN "_law_term"=aA (aA (.ref f8)))
  (l8:K.lookup f8=aA ⟨oc8,od8,.func (aU "_law_term" "_law_term" (au si) (aq si) (ae si) .none kV8 dc8 pm8 an8 cd8 ct8),sl8⟩)
  (c8:aR K cd8 "_law_term"=true)
  (k8:aQ K (.ref f8)=true)
  (a9:aO K aN "_law_end"=aA (aA (.ref f9)))
  (l9:K.lookup f9=aA ⟨oc9,od9,.func (aU "_law_end" "_law_end" (au zo) (aq zo) (ae zo) .none kV9 dc9 pm9 an9 cd9 ct9),sl9⟩)
  (c9:aR K cd9 "_law_end"=true)
  (k9:aQ K (.ref f9)=true)
  (a10:aO K aN "_law_fit"=aA (aA (.ref f10)))
  (l10:K.lookup f10=aA ⟨oc10,od10,.func (aU "_law_fit" "_law_fit" (au ze) (aq ze) (ae ze) .none kV10 dc10 pm10 an10 cd10 ct10),sl10⟩)
  (c10:aR K cd10 "_law_fit"=true)
  (k10:aQ K (.ref f10)=true)
  (a11:aO K aN "_law_kinds"=aA (aA (.ref f11)))
  (l11:K.lookup f11=aA ⟨oc11,od11,.func (aU "_law_kinds" "_law_kinds" (au lg) (aq lg) (ae lg) .none kV11 dc11 pm11 an11 cd11 ct11),sl11⟩)
  (c11:aR K cd11 "_law_kinds"=true)
  (k11:aQ K (.ref f11)=true)
  (a12:aO K aN "_law_fitted"=aA (aA (.ref f12)))
  (l12:K.lookup f12=aA ⟨oc12,od12,.func (aU "_law_fitted" "_law_fitted" (au kq) (aq kq) (ae kq) .none kV12 dc12 pm12 an12 cd12 ct12),sl12⟩)
  (c12:aR K cd12 "_law_fitted"=true)
  (k12:aQ K (.ref f12)=true)
  (a13:aO K aN "_law_ranks"=aA (aA (.ref f13)))
  (l13:K.lookup f13=aA ⟨oc13,od13,.func (aU "_law_ranks" "_law_ranks" (au mv) (aq mv) (ae mv) .none kV13 dc13 pm13 an13 cd13 ct13),sl13⟩)
  (c13:aR K cd13 "_law_ranks"=true)
  (k13:aQ K (.ref f13)=true)
  (a14:aO K aN "_law_cover"=aA (aA (.ref f14)))
  (l14:K.lookup f14=aA ⟨oc14,od14,.func (aU "_law_cover" "_law_cover" (au kj) (aq kj) (ae kj) .none kV14 dc14 pm14 an14 cd14 ct14),sl14⟩)
  (c14:aR K cd14 "_law_cover"=true)
  (k14:aQ K (.ref f14)=true)
  (a15:aO K aN "_law_case"=aA (aA (.ref f15)))
  (l15:K.lookup f15=aA ⟨oc15,od15,.func (aU "_law_case" "_law_case" (au sj) (aq sj) (ae sj) .none kV15 dc15 pm15 an15 cd15 ct15),sl15⟩)
  (c15:aR K cd15 "_law_case"=true)
  (k15:aQ K (.ref f15)=true)
  (a16:aO K aN "how_many_below"=aA (aA (.ref f16)))
  (l16:K.lookup f16=aA ⟨oc16,od16,.func (aU "how_many_below" "how_many_below" (au Iz) (aq Iz) (ae Iz) .none kV16 dc16 pm16 an16 cd16 ct16),sl16⟩)
  (c16:aR K cd16 "how_many_below"=true)
  (k16:aQ K (.ref f16)=true)
  (a17:aO K aN "place_behind"=aA (aA (.ref f17)))
  (l17:K.lookup f17=aA ⟨oc17,od17,.func (aU "place_behind" "place_behind" (au ky) (aq ky) (ae ky) .none kV17 dc17 pm17 an17 cd17 ct17),sl17⟩)
  (c17:aR K cd17 "place_behind"=true)
  (k17:aQ K (.ref f17)=true)
  (a18:aO K aN "leaf_letter"=aA (aA (.ref f18)))
  (l18:K.lookup f18=aA ⟨oc18,od18,.func (aU "leaf_letter" "leaf_letter" (au y8) (aq y8) (ae y8) .none kV18 dc18 pm18 an18 cd18 ct18),sl18⟩)
  (c18:aR K cd18 "leaf_letter"=true)
  (k18:aQ K (.ref f18)=true)
  (a19:aO K aN "lies_upon"=aA (aA (.ref f19)))
  (l19:K.lookup f19=aA ⟨oc19,od19,.func (aU "lies_upon" "lies_upon" (au yw) (aq yw) (ae yw) .none kV19 dc19 pm19 an19 cd19 ct19),sl19⟩)
  (c19:aR K cd19 "lies_upon"=true)
  (k19:aQ K (.ref f19)=true)
  (a20:aO K aN "laid"=aA (aA (.ref f20)))
  (l20:K.lookup f20=aA ⟨oc20,od20,.func (aU "laid" "laid" (au zr) (aq zr) (ae zr) .none kV20 dc20 pm20 an20 cd20 ct20),sl20⟩)
  (c20:aR K cd20 "laid"=true)
  (k20:aQ K (.ref f20)=true)
  (a21:aO K aN "holes_under"=aA (aA (.ref f21)))
  (l21:K.lookup f21=aA ⟨oc21,od21,.func (aU "holes_under" "holes_under" (au mh) (aq mh) (ae mh) .none kV21 dc21 pm21 an21 cd21 ct21),sl21⟩)
  (c21:aR K cd21 "holes_under"=true)
  (k21:aQ K (.ref f21)=true)
  (a22:aO K aN "last_hole_first"=aA (aA (.ref f22)))
  (l22:K.lookup f22=aA ⟨oc22,od22,.func (aU "last_hole_first" "last_hole_first" (au zg) (aq zg) (ae zg) .none kV22 dc22 pm22 an22 cd22 ct22),sl22⟩)
  (c22:aR K cd22 "last_hole_first"=true)
  (k22:aQ K (.ref f22)=true)
  (a23:aO K aN "laid_rule"=aA (aA (.ref f23)))
  (l23:K.lookup f23=aA ⟨oc23,od23,.func (aU "laid_rule" "laid_rule" (au sm) (aq sm) (ae sm) .none kV23 dc23 pm23 an23 cd23 ct23),sl23⟩)
  (c23:aR K cd23 "laid_rule"=true)
  (k23:aQ K (.ref f23)=true)
  (a24:aO K aN "laid_cover"=aA (aA (.ref f24)))
  (l24:K.lookup f24=aA ⟨oc24,od24,.func (aU "laid_cover" "laid_cover" (au ly) (aq ly) (ae ly) .none kV24 dc24 pm24 an24 cd24 ct24),sl24⟩)
  (c24:aR K cd24 "laid_cover"=true)
  (k24:aQ K (.ref f24)=true)
  (a25:aO K aN "boxes_named"=aA (aA (.ref f25)))
  (l25:K.lookup f25=aA ⟨oc25,od25,.func (aU "boxes_named" "boxes_named" (au mr) (aq mr) (ae mr) .none kV25 dc25 pm25 an25 cd25 ct25),sl25⟩)
  (c25:aR K cd25 "boxes_named"=true)
  (k25:aQ K (.ref f25)=true)
  (a26:aO K aN "steps_below"=aA (aA (.ref f26)))
  (l26:K.lookup f26=aA ⟨oc26,od26,.func (aU "steps_below" "steps_below" (au lj) (aq lj) (ae lj) .none kV26 dc26 pm26 an26 cd26 ct26),sl26⟩)
  (c26:aR K cd26 "steps_below"=true)
  (k26:aQ K (.ref f26)=true)
  (a27:aO K aN "holes_ahead"=aA (aA (.ref f27)))
  (l27:K.lookup f27=aA ⟨oc27,od27,.func (aU "holes_ahead" "holes_ahead" (au mf) (aq mf) (ae mf) .none kV27 dc27 pm27 an27 cd27 ct27),sl27⟩)
  (c27:aR K cd27 "holes_ahead"=true)
  (k27:aQ K (.ref f27)=true)
  (a28:aO K aN "counted_boxes"=aA (aA (.ref f28)))
  (l28:K.lookup f28=aA ⟨oc28,od28,.func (aU "counted_boxes" "counted_boxes" (au je) (aq je) (ae je) .none kV28 dc28 pm28 an28 cd28 ct28),sl28⟩)
  (c28:aR K cd28 "counted_boxes"=true)
  (k28:aQ K (.ref f28)=true)
  (a29:aO K aN "meanings"=aA (aA (.ref f29)))
  (l29:K.lookup f29=aA ⟨oc29,od29,.func (aU "meanings" "meanings" (au qw) (aq qw) (ae qw) .none kV29 dc29 pm29 an29 cd29 ct29),sl29⟩)
  (c29:aR K cd29 "meanings"=true)
  (k29:aQ K (.ref f29)=true)
  (a30:aO K aN "deed_rows"=aA (aA (.ref f30)))
  (l30:K.lookup f30=aA ⟨oc30,od30,.func (aU "deed_rows" "deed_rows" (au r8) (aq r8) (ae r8) .none kV30 dc30 pm30 an30 cd30 ct30),sl30⟩)
  (c30:aR K cd30 "deed_rows"=true)
  (k30:aQ K (.ref f30)=true)
  (a31:aO K aN "rows_in_order"=aA (aA (.ref f31)))
  (l31:K.lookup f31=aA ⟨oc31,od31,.func (aU "rows_in_order" "rows_in_order" (au sr) (aq sr) (ae sr) .none kV31 dc31 pm31 an31 cd31 ct31),sl31⟩)
  (c31:aR K cd31 "rows_in_order"=true)
  (k31:aQ K (.ref f31)=true)
  (a32:aO K aN "rows_of"=aA (aA (.ref f32)))
  (l32:K.lookup f32=aA ⟨oc32,od32,.func (aU "rows_of" "rows_of" (au lu) (aq lu) (ae lu) .none kV32 dc32 pm32 an32 cd32 ct32),sl32⟩)
  (c32:aR K cd32 "rows_of"=true)
  (k32:aQ K (.ref f32)=true)
  (a33:aO K aN "joined_numbers"=aA (aA (.ref f33)))
  (l33:K.lookup f33=aA ⟨oc33,od33,.func (aU "joined_numbers" "joined_numbers" (au sq) (aq sq) (ae sq) .none kV33 dc33 pm33 an33 cd33 ct33),sl33⟩)
  (c33:aR K cd33 "joined_numbers"=true)
  (k33:aQ K (.ref f33)=true)
  (a34:aO K aN "value_of"=aA (aA (.ref f34)))
  (l34:K.lookup f34=aA ⟨oc34,od34,.func (aU "value_of" "value_of" (au se) (aq se) (ae se) .none kV34 dc34 pm34 an34 cd34 ct34),sl34⟩)
  (c34:aR K cd34 "value_of"=true)
  (k34:aQ K (.ref f34)=true)
  (a35:aO K aN "held_in"=aA (aA (.ref f35)))
  (l35:K.lookup f35=aA ⟨oc35,od35,.func (aU "held_in" "held_in" (au zh) (aq zh) (ae zh) .none kV35 dc35 pm35 an35 cd35 ct35),sl35⟩)
  (c35:aR K cd35 "held_in"=true)
  (k35:aQ K (.ref f35)=true)
  (a36:aO K aN "row_number"=aA (aA (.ref f36)))
  (l36:K.lookup f36=aA ⟨oc36,od36,.func (aU "row_number" "row_number" (au zj) (aq zj) (ae zj) .none kV36 dc36 pm36 an36 cd36 ct36),sl36⟩)
  (c36:aR K cd36 "row_number"=true)
  (k36:aQ K (.ref f36)=true)
  (a37:aO K aN "run"=aA (aA (.ref f37)))
  (l37:K.lookup f37=aA ⟨oc37,od37,.func (aU "run" "run" (au Iv) (aq Iv) (ae Iv) .none kV37 dc37 pm37 an37 cd37 ct37),sl37⟩)
  (c37:aR K cd37 "run"=true)
  (k37:aQ K (.ref f37)=true)
  (a38:aO K aN "_law_worth"=aA (aA (.ref f38)))
  (l38:K.lookup f38=aA ⟨oc38,od38,.func (aU "_law_worth" "_law_worth" (au lr) (aq lr) (ae lr) .none kV38 dc38 pm38 an38 cd38 ct38),sl38⟩)
  (c38:aR K cd38 "_law_worth"=true)
  (k38:aQ K (.ref f38)=true)
  (a39:aO K aN "_law_values"=aA (aA (.ref f39)))
  (l39:K.lookup f39=aA ⟨oc39,od39,.func (aU "_law_values" "_law_values" (au ji) (aq ji) (ae ji) .none kV39 dc39 pm39 an39 cd39 ct39),sl39⟩)
  (c39:aR K cd39 "_law_values"=true)
  (k39:aQ K (.ref f39)=true)
  (a40:aO K aN "_law_run"=aA (aA (.ref f40)))
  (l40:K.lookup f40=aA ⟨oc40,od40,.func (aU "_law_run" "_law_run" (au zt) (aq zt) (ae zt) .none kV40 dc40 pm40 an40 cd40 ct40),sl40⟩)
  (c40:aR K cd40 "_law_run"=true)
  (k40:aQ K (.ref f40)=true)
  (a41:aO K aN "law"=aA (aA (.ref f41)))
  (l41:K.lookup f41=aA ⟨oc41,od41,.func (aU "law" "law" (au Dd) (aq Dd) (ae Dd) .none kV41 dc41 pm41 an41 cd41 ct41),sl41⟩)
  (c41:aR K cd41 "law"=true)
  (k41:aQ K (.ref f41)=true)
  (z0:aO K aN "all"=aA none)
  (z1:aO K aN "any"=aA none)
  (z2:aO K aN "dict"=aA none)
  (z3:aO K aN "enumerate"=aA none)
  (z4:aO K aN "int"=aA none)
  (z5:aO K aN "isinstance"=aA none)
  (z6:aO K aN "len"=aA none)
  (z7:aO K aN "list"=aA none)
  (z8:aO K aN "max"=aA none)
  (z9:aO K aN "range"=aA none)
  (z10:aO K aN "reversed"=aA none)
  (z11:aO K aN "str"=aA none)
  (z12:aO K aN "tuple"=aA none)
  (z13:aO K aN "zip"=aA none)
  (y0:aO K aN "PARTS_BELOW"=aA (aA (.ref g0)))
  (x0:K.lookup g0=aA ⟨.type "dict",none,.dict #[⟨dh0x0,.str "add" dt0x0,.int 2 du0x0⟩,⟨dh0x1,.str "sub" dt0x1,.int 2 du0x1⟩,⟨dh0x2,.str "mul" dt0x2,.int 2 du0x2⟩,⟨dh0x3,.str "neg" dt0x3,.int 1 du0x3⟩] dp0,#[]⟩)
  (hh0x0:dh0x0=kN w "add")
  (hh0x1:dh0x1=kN w "sub")
  (hh0x2:dh0x2=kN w "mul")
  (hh0x3:dh0x3=kN w "neg")
  (ha0:(g0==cE)=false)
  (y1:aO K aN "BOXES"=aA (aA (.ref g1)))
  (x1:K.lookup g1=aA ⟨.type "tuple",gd1,.seq #[.str "out" gt1x0,.str "t1" gt1x1,.str "t2" gt1x2,.str "t3" gt1x3] gn1,gs1⟩):
  ∃fd:cV,(∀(s:aF) (v:aD),kT s fd ⟨[v],[]⟩ [("script",v)])∧∀base:Heap,K.In base→base.Ns aN mg→uf l.prog w K mg base CX0 7 fa fd ["script"] (J4 K):=by
 have e:=hfa.symm.trans (aW X G a41);cases e
 have G0:Gs w K mg:=⟨bQ X G z0,bQ X G z1,bQ X G z2,bQ X G z3,bQ X G z4,bQ X G z5,bQ X G z6,bQ X G z7,bQ X G z8,bQ X G z9,bQ X G z10,bQ X G z11,bQ X G z12,bQ X G z13,⟨g0,aW X G y0,Ti [(dh0x0,"add",dt0x0,2,du0x0),(dh0x1,"sub",dt0x1,2,du0x1),(dh0x2,"mul",dt0x2,2,du0x2),(dh0x3,"neg",dt0x3,1,du0x3)] x0 ha0 (by intro e he;simp only[aan,aac,or_false] at he;rcases he with rfl | rfl | rfl | rfl <;> assumption) (by show abj ([aM "add",aM "sub",aM "mul",aM "neg"]:List Key);decide+kernel)⟩,⟨g1,aW X G y1,λH=>.inr ⟨_,_,_,x1,rfl,rfl,(by show (4:Nat)≤sizeLine;decide),(.cons ⟨_,rfl⟩ (.cons ⟨_,rfl⟩ (.cons ⟨_,rfl⟩ (.cons ⟨_,rfl⟩ .nil))))⟩⟩⟩;have F0:=bh (st:=Ad) l0 c0 k0;have D0:Def K mg "_law_draw" Ad ["script","k"]:=⟨f0,_,F0,F0.binds (ps:=["script","k"]) (λ_ _ _ _ _ _ us hl=>by refine us2 (P:=λus=>bH _ ⟨us,[]⟩=pure `y) hl ?_;intros;rfl),aW X G a0⟩;have F1:=bh (st:=zv) l1 c1 k1;have D1:Def K mg "_law_word" zv ["script","i"]:=⟨f1,_,F1,F1.binds (ps:=["script","i"]) (λ_ _ _ _ _ _ us hl=>by refine us2 (P:=λus=>bH _ ⟨us,[]⟩=pure `y) hl ?_;intros;rfl),aW X G a1⟩;have F2:=bh (st:=y6) l2 c2 k2;have D2:Def K mg "_law_number" y6 ["draw"]:=⟨f2,_,F2,F2.binds (ps:=["draw"]) (λ_ _ _ _ _ _ us hl=>by refine us1 (P:=λus=>bH _ ⟨us,[]⟩=pure `y) hl ?_;intros;rfl),aW X G a2⟩;have F3:=bh (st:=kr) l3 c3 k3;have D3:Def K mg "_law_price" kr ["draw"]:=⟨f3,_,F3,F3.binds (ps:=["draw"]) (λ_ _ _ _ _ _ us hl=>by refine us1 (P:=λus=>bH _ ⟨us,[]⟩=pure `y) hl ?_;intros;rfl),aW X G a3⟩;have F4:=bh (st:=sf) l4 c4 k4;have D4:Def K mg "_law_leaf" sf ["draw","kinds","seen","box"]:=⟨f4,_,F4,F4.binds (ps:=["draw","kinds","seen","box"]) (λ_ _ _ _ _ _ us hl=>by refine us4 (P:=λus=>bH _ ⟨us,[]⟩=pure `y) hl ?_;intros;rfl),aW X G a4⟩;have F5:=bh (st:=lp) l5 c5 k5;have D5:Def K mg "_law_shape" lp ["draw","more","kinds"]:=⟨f5,_,F5,F5.binds (ps:=["draw","more","kinds"]) (λ_ _ _ _ _ _ us hl=>by refine us3 (P:=λus=>bH _ ⟨us,[]⟩=pure `y) hl ?_;intros;rfl),aW X G a5⟩;have F6:=bh (st:=qx) l6 c6 k6;have D6:Def K mg "_law_more" qx ["script","kinds"]:=⟨f6,_,F6,F6.binds (ps:=["script","kinds"]) (λ_ _ _ _ _ _ us hl=>by refine us2 (P:=λus=>bH _ ⟨us,[]⟩=pure `y) hl ?_;intros;rfl),aW X G a6⟩;have F7:=bh (st:=qu) l7 c7 k7;have D7:Def K mg "_law_book" qu ["script"]:=⟨f7,_,F7,F7.binds (ps:=["script"]) (λ_ _ _ _ _ _ us hl=>by refine us1 (P:=λus=>bH _ ⟨us,[]⟩=pure `y) hl ?_;intros;rfl),aW X G a7⟩;have F8:=bh (st:=si) l8 c8 k8;have D8:Def K mg "_law_term" si ["script","at","limit"]:=⟨f8,_,F8,F8.binds (ps:=["script","at","limit"]) (λ_ _ _ _ _ _ us hl=>by refine us3 (P:=λus=>bH _ ⟨us,[]⟩=pure `y) hl ?_;intros;rfl),aW X G a8⟩;have F9:=bh (st:=zo) l9 c9 k9;have D9:Def K mg "_law_end" zo ["words","place"]:=⟨f9,_,F9,F9.binds (ps:=["words","place"]) (λ_ _ _ _ _ _ us hl=>by refine us2 (P:=λus=>bH _ ⟨us,[]⟩=pure `y) hl ?_;intros;rfl),aW X G a9⟩;have F10:=bh (st:=ze) l10 c10 k10;have D10:Def K mg "_law_fit" ze ["kinds","shape","words","place"]:=⟨f10,_,F10,F10.binds (ps:=["kinds","shape","words","place"]) (λ_ _ _ _ _ _ us hl=>by refine us4 (P:=λus=>bH _ ⟨us,[]⟩=pure `y) hl ?_;intros;rfl),aW X G a10⟩;have F11:=bh (st:=lg) l11 c11 k11;have D11:Def K mg "_law_kinds" lg ["book","rule"]:=⟨f11,_,F11,F11.binds (ps:=["book","rule"]) (λ_ _ _ _ _ _ us hl=>by refine us2 (P:=λus=>bH _ ⟨us,[]⟩=pure `y) hl ?_;intros;rfl),aW X G a11⟩;have F12:=bh (st:=kq) l12 c12 k12;have D12:Def K mg "_law_fitted" kq ["book","words","place","kind","ranks"]:=⟨f12,_,F12,F12.binds (ps:=["book","words","place","kind","ranks"]) (λ_ _ _ _ _ _ us hl=>by refine us5 (P:=λus=>bH _ ⟨us,[]⟩=pure `y) hl ?_;intros;rfl),aW X G a12⟩;have F13:=bh (st:=mv) l13 c13 k13;have D13:Def K mg "_law_ranks" mv ["book","words"]:=⟨f13,_,F13,F13.binds (ps:=["book","words"]) (λ_ _ _ _ _ _ us hl=>by refine us2 (P:=λus=>bH _ ⟨us,[]⟩=pure `y) hl ?_;intros;rfl),aW X G a13⟩;have F14:=bh (st:=kj) l14 c14 k14;have D14:Def K mg "_law_cover" kj ["script","at","book","words","ranks","kind"]:=⟨f14,_,F14,F14.binds (ps:=["script","at","book","words","ranks","kind"]) (λ_ _ _ _ _ _ us hl=>by refine us6 (P:=λus=>bH _ ⟨us,[]⟩=pure `y) hl ?_;intros;rfl),aW X G a14⟩;have F15:=bh (st:=sj) l15 c15 k15;have D15:Def K mg "_law_case" sj ["script","limit"]:=⟨f15,_,F15,F15.binds (ps:=["script","limit"]) (λ_ _ _ _ _ _ us hl=>by refine us2 (P:=λus=>bH _ ⟨us,[]⟩=pure `y) hl ?_;intros;rfl),aW X G a15⟩;have F16:=bh (st:=Iz) l16 c16 k16;have D16:Def K mg "how_many_below" Iz ["word"]:=⟨f16,_,F16,F16.binds (ps:=["word"]) (λ_ _ _ _ _ _ us hl=>by refine us1 (P:=λus=>bH _ ⟨us,[]⟩=pure `y) hl ?_;intros;rfl),aW X G a16⟩;have F17:=bh (st:=ky) l17 c17 k17;have D17:Def K mg "place_behind" ky ["words","place"]:=⟨f17,_,F17,F17.binds (ps:=["words","place"]) (λ_ _ _ _ _ _ us hl=>by refine us2 (P:=λus=>bH _ ⟨us,[]⟩=pure `y) hl ?_;intros;rfl),aW X G a17⟩;have F18:=bh (st:=y8) l18 c18 k18;have D18:Def K mg "leaf_letter" y8 ["word","kinds"]:=⟨f18,_,F18,F18.binds (ps:=["word","kinds"]) (λ_ _ _ _ _ _ us hl=>by refine us2 (P:=λus=>bH _ ⟨us,[]⟩=pure `y) hl ?_;intros;rfl),aW X G a18⟩;have F19:=bh (st:=yw) l19 c19 k19;have D19:Def K mg "lies_upon" yw ["letter","shape_word","word"]:=⟨f19,_,F19,F19.binds (ps:=["letter","shape_word","word"]) (λ_ _ _ _ _ _ us hl=>by refine us3 (P:=λus=>bH _ ⟨us,[]⟩=pure `y) hl ?_;intros;rfl),aW X G a19⟩;have F20:=bh (st:=zr) l20 c20 k20;have D20:Def K mg "laid" zr ["shape","kinds","words","place"]:=⟨f20,_,F20,F20.binds (ps:=["shape","kinds","words","place"]) (λ_ _ _ _ _ _ us hl=>by refine us4 (P:=λus=>bH _ ⟨us,[]⟩=pure `y) hl ?_;intros;rfl),aW X G a20⟩;have F21:=bh (st:=mh) l21 c21 k21;have D21:Def K mg "holes_under" mh ["shape","kinds","under"]:=⟨f21,_,F21,F21.binds (ps:=["shape","kinds","under"]) (λ_ _ _ _ _ _ us hl=>by refine us3 (P:=λus=>bH _ ⟨us,[]⟩=pure `y) hl ?_;intros;rfl),aW X G a21⟩;have F22:=bh (st:=zg) l22 c22 k22;have D22:Def K mg "last_hole_first" zg ["book","step"]:=⟨f22,_,F22,F22.binds (ps:=["book","step"]) (λ_ _ _ _ _ _ us hl=>by refine us2 (P:=λus=>bH _ ⟨us,[]⟩=pure `y) hl ?_;intros;rfl),aW X G a22⟩;have F23:=bh (st:=sm) l23 c23 k23;have D23:Def K mg "laid_rule" sm ["book","name","words","place","kind"]:=⟨f23,_,F23,F23.binds (ps:=["book","name","words","place","kind"]) (λ_ _ _ _ _ _ us hl=>by refine us5 (P:=λus=>bH _ ⟨us,[]⟩=pure `y) hl ?_;intros;rfl),aW X G a23⟩;have F24:=bh (st:=ly) l24 c24 k24;have D24:Def K mg "laid_cover" ly ["book","words","place","kind","cover"]:=⟨f24,_,F24,F24.binds (ps:=["book","words","place","kind","cover"]) (λ_ _ _ _ _ _ us hl=>by refine us5 (P:=λus=>bH _ ⟨us,[]⟩=pure `y) hl ?_;intros;rfl),aW X G a24⟩;have F25:=bh (st:=mr) l25 c25 k25;have D25:Def K mg "boxes_named" mr ["rule"]:=⟨f25,_,F25,F25.binds (ps:=["rule"]) (λ_ _ _ _ _ _ us hl=>by refine us1 (P:=λus=>bH _ ⟨us,[]⟩=pure `y) hl ?_;intros;rfl),aW X G a25⟩;have F26:=bh (st:=lj) l26 c26 k26;have D26:Def K mg "steps_below" lj ["steps"]:=⟨f26,_,F26,F26.binds (ps:=["steps"]) (λ_ _ _ _ _ _ us hl=>by refine us1 (P:=λus=>bH _ ⟨us,[]⟩=pure `y) hl ?_;intros;rfl),aW X G a26⟩;have F27:=bh (st:=mf) l27 c27 k27;have D27:Def K mg "holes_ahead" mf ["holes"]:=⟨f27,_,F27,F27.binds (ps:=["holes"]) (λ_ _ _ _ _ _ us hl=>by refine us1 (P:=λus=>bH _ ⟨us,[]⟩=pure `y) hl ?_;intros;rfl),aW X G a27⟩;have F28:=bh (st:=je) l28 c28 k28;have D28:Def K mg "counted_boxes" je ["steps","order"]:=⟨f28,_,F28,F28.binds (ps:=["steps","order"]) (λ_ _ _ _ _ _ us hl=>by refine us2 (P:=λus=>bH _ ⟨us,[]⟩=pure `y) hl ?_;intros;rfl),aW X G a28⟩;have F29:=bh (st:=qw) l29 c29 k29;have D29:Def K mg "meanings" qw ["step","results","boxes"]:=⟨f29,_,F29,F29.binds (ps:=["step","results","boxes"]) (λ_ _ _ _ _ _ us hl=>by refine us3 (P:=λus=>bH _ ⟨us,[]⟩=pure `y) hl ?_;intros;rfl),aW X G a29⟩;have F30:=bh (st:=r8) l30 c30 k30;have D30:Def K mg "deed_rows" r8 ["step","results","boxes"]:=⟨f30,_,F30,F30.binds (ps:=["step","results","boxes"]) (λ_ _ _ _ _ _ us hl=>by refine us3 (P:=λus=>bH _ ⟨us,[]⟩=pure `y) hl ?_;intros;rfl),aW X G a30⟩;have F31:=bh (st:=sr) l31 c31 k31;have D31:Def K mg "rows_in_order" sr ["steps","holes","order","boxes"]:=⟨f31,_,F31,F31.binds (ps:=["steps","holes","order","boxes"]) (λ_ _ _ _ _ _ us hl=>by refine us4 (P:=λus=>bH _ ⟨us,[]⟩=pure `y) hl ?_;intros;rfl),aW X G a31⟩;have F32:=bh (st:=lu) l32 c32 k32;have D32:Def K mg "rows_of" lu ["book","words","kind","cover"]:=⟨f32,_,F32,F32.binds (ps:=["book","words","kind","cover"]) (λ_ _ _ _ _ _ us hl=>by refine us4 (P:=λus=>bH _ ⟨us,[]⟩=pure `y) hl ?_;intros;rfl),aW X G a32⟩;have F33:=bh (st:=sq) l33 c33 k33;have D33:Def K mg "joined_numbers" sq ["word","parts"]:=⟨f33,_,F33,F33.binds (ps:=["word","parts"]) (λ_ _ _ _ _ _ us hl=>by refine us2 (P:=λus=>bH _ ⟨us,[]⟩=pure `y) hl ?_;intros;rfl),aW X G a33⟩;have F34:=bh (st:=se) l34 c34 k34;have D34:Def K mg "value_of" se ["name","values"]:=⟨f34,_,F34,F34.binds (ps:=["name","values"]) (λ_ _ _ _ _ _ us hl=>by refine us2 (P:=λus=>bH _ ⟨us,[]⟩=pure `y) hl ?_;intros;rfl),aW X G a34⟩;have F35:=bh (st:=zh) l35 c35 k35;have D35:Def K mg "held_in" zh ["box","boxes"]:=⟨f35,_,F35,F35.binds (ps:=["box","boxes"]) (λ_ _ _ _ _ _ us hl=>by refine us2 (P:=λus=>bH _ ⟨us,[]⟩=pure `y) hl ?_;intros;rfl),aW X G a35⟩;have F36:=bh (st:=zj) l36 c36 k36;have D36:Def K mg "row_number" zj ["row","boxes","values"]:=⟨f36,_,F36,F36.binds (ps:=["row","boxes","values"]) (λ_ _ _ _ _ _ us hl=>by refine us3 (P:=λus=>bH _ ⟨us,[]⟩=pure `y) hl ?_;intros;rfl),aW X G a36⟩;have F37:=bh (st:=Iv) l37 c37 k37;have D37:Def K mg "run" Iv ["rows","values"]:=⟨f37,_,F37,F37.binds (ps:=["rows","values"]) (λ_ _ _ _ _ _ us hl=>by refine us2 (P:=λus=>bH _ ⟨us,[]⟩=pure `y) hl ?_;intros;rfl),aW X G a37⟩;have F38:=bh (st:=lr) l38 c38 k38;have D38:Def K mg "_law_worth" lr ["words","values"]:=⟨f38,_,F38,F38.binds (ps:=["words","values"]) (λ_ _ _ _ _ _ us hl=>by refine us2 (P:=λus=>bH _ ⟨us,[]⟩=pure `y) hl ?_;intros;rfl),aW X G a38⟩;have F39:=bh (st:=ji) l39 c39 k39;have D39:Def K mg "_law_values" ji ["script"]:=⟨f39,_,F39,F39.binds (ps:=["script"]) (λ_ _ _ _ _ _ us hl=>by refine us1 (P:=λus=>bH _ ⟨us,[]⟩=pure `y) hl ?_;intros;rfl),aW X G a39⟩;have F40:=bh (st:=zt) l40 c40 k40;have D40:Def K mg "_law_run" zt ["rows","values"]:=⟨f40,_,F40,F40.binds (ps:=["rows","values"]) (λ_ _ _ _ _ _ us hl=>by refine us2 (P:=λus=>bH _ ⟨us,[]⟩=pure `y) hl ?_;intros;rfl),aW X G a40⟩;have F41:=bh (st:=Dd) l41 c41 k41;refine ⟨aU "law" "law" (au Dd) (aq Dd) (ae Dd) .none kV41 dc41 pm41 an41 cd41 ct41,λs v=>.of_eq rfl,λbase _ _=>?_⟩;have H0:Has l.prog w K mg base 1 "_law_draw" ["script","k"] (jw K):=Tr (k:=0) G0   D0;have H1:Has l.prog w K mg base 2 "_law_word" ["script","i"] (vj K):=Tc (k:=1) G0 `ez  D1;have H2:Has l.prog w K mg base 1 "_law_number" ["draw"] vi:=Vt (k:=0) G0   D2;have H3:Has l.prog w K mg base 1 "_law_price" ["draw"] uv:=Mg (k:=0) G0   D3;have H4:Has l.prog w K mg base 1 "_law_leaf" ["draw","kinds","seen","box"] xm:=N7 (k:=0) G0   D4;have H5:Has l.prog w K mg base 2 "_law_shape" ["draw","more","kinds"] t4:=Nh (k:=1) G0 (H4.up `a)  D5;have H6:Has l.prog w K mg base 2 "_law_more" ["script","kinds"] (x5 K):=N4 (k:=1) G0 `ez  D6;have H7:Has l.prog w K mg base 3 "_law_book" ["script"] (ya K):=Qv (k:=2) G0 `ez (H6.up `a) (H2.up `a) (H3.up `a) (H5.up `a) (H1.up `a)  D7;have H8:Has l.prog w K mg base 3 "_law_term" ["script","at","limit"] (x8 K):=Py (k:=2) G0 `ez (H2.up `a) (H1.up `a)  D8;have H9:Has l.prog w K mg base 1 "_law_end" ["words","place"] Dn:=Vj (k:=0) G0   D9;have H10:Has l.prog w K mg base 2 "_law_fit" ["kinds","shape","words","place"] Di:=Tz (k:=1) G0 (H9.up `a)  D10;have H11:Has l.prog w K mg base 1 "_law_kinds" ["book","rule"] ux:=L8 (k:=0) G0   D11;have H12:Has l.prog w K mg base 3 "_law_fitted" ["book","words","place","kind","ranks"] oq:=Ml (k:=2) G0 (H10.up `a) (H11.up `a)  D12;have H13:Has l.prog w K mg base 4 "_law_ranks" ["book","words"] ur:=Mp (k:=3) G0 (H12.up `a)  D13;have H14:Has l.prog w K mg base 4 "_law_cover" ["script","at","book","words","ranks","kind"] (ub K):=Mx (k:=3) G0 `ez (H12.up `a)  D14;have H15:Has l.prog w K mg base 5 "_law_case" ["script","limit"] (xo K):=Rb (k:=4) G0 (H7.up `a) (H14.up `a) `ez (H13.up `a) (H8.up `a)  D15;have H16:Has l.prog w K mg base 1 "how_many_below" ["word"] An:=hasHow (k:=0) G0   D16;have H17:Has l.prog w K mg base 2 "place_behind" ["words","place"] (yv K):=Mc (k:=1) G0 (H16.up `a)  D17;have H18:Has l.prog w K mg base 1 "leaf_letter" ["word","kinds"] (ku K):=V4 (k:=0) G0   D18;have H19:Has l.prog w K mg base 2 "lies_upon" ["letter","shape_word","word"] Dp:=Uo (k:=1) G0 (H16.up `a)  D19;have H20:Has l.prog w K mg base 3 "laid" ["shape","kinds","words","place"] (Ef K):=U1 (k:=2) G0 (H18.up `a) (H19.up `a) (H17.up `a)  D20;have H21:Has l.prog w K mg base 2 "holes_under" ["shape","kinds","under"] (t8 K):=M0 (k:=1) G0 (H18.up `a)  D21;have H22:Has l.prog w K mg base 3 "last_hole_first" ["book","step"] De:=Tu (k:=2) G0 (H21.up `a)  D22;have H23:Has l.prog w K mg base 4 "laid_rule" ["book","name","words","place","kind"] su:=O3 (k:=3) G0 (H20.up `a)  D23;have H24:Has l.prog w K mg base 5 "laid_cover" ["book","words","place","kind","cover"] ow:=Nu (k:=4) G0 (H23.up `a) (H22.up `a)  D24;have H25:Has l.prog w K mg base 1 "boxes_named" ["rule"] nc:=Mw (k:=0) G0   D25;have H26:Has l.prog w K mg base 1 "steps_below" ["steps"] um:=L0 (k:=0) G0   D26;have H27:Has l.prog w K mg base 1 "holes_ahead" ["holes"] sx:=Lq (k:=0) G0   D27;have H28:Has l.prog w K mg base 2 "counted_boxes" ["steps","order"] oz:=Ic (k:=1) G0 (H25.up `a)  D28;have H29:Has l.prog w K mg base 2 "meanings" ["step","results","boxes"] xt:=Pq (k:=1) G0 (H25.up `a)  D29;have H30:Has l.prog w K mg base 3 "deed_rows" ["step","results","boxes"] xn:=Qe (k:=2) G0 (H29.up `a)  D30;have H31:Has l.prog w K mg base 4 "rows_in_order" ["steps","holes","order","boxes"] x6:=Oa (k:=3) G0 (H30.up `a)  D31;have H32:Has l.prog w K mg base 6 "rows_of" ["book","words","kind","cover"] qa:=My (k:=5) G0 (H28.up `a) (H27.up `a) (H24.up `a) (H31.up `a) (H26.up `a)  D32;have H33:Has l.prog w K mg base 1 "joined_numbers" ["word","parts"] xy:=Oy (k:=0) G0   D33;have H34:Has l.prog w K mg base 1 "value_of" ["name","values"] xq:=Qd (k:=0) G0   D34;have H35:Has l.prog w K mg base 1 "held_in" ["box","boxes"] wa:=Ue (k:=0) G0   D35;have H36:Has l.prog w K mg base 2 "row_number" ["row","boxes","values"] Aq:=Sy (k:=1) G0 (H35.up `a) (H33.up `a) (H34.up `a)  D36;have H37:Has l.prog w K mg base 3 "run" ["rows","values"] (N0 K):=hasRun (k:=2) G0 (H36.up `a)  D37;have H38:Has l.prog w K mg base 1 "_law_worth" ["words","values"] u7:=Nt (k:=0) G0   D38;have H39:Has l.prog w K mg base 3 "_law_values" ["script"] (qd K):=Iq (k:=2) G0 `ez (H2.up `a) (H1.up `a)  D39;have H40:Has l.prog w K mg base 1 "_law_run" ["rows","values"] Dz:=Us (k:=0) G0   D40;exact hasLaw (k:=6) G0 (H15.up `a) (H40.up `a) (H39.up `a) (H38.up `a) (H32.up `a) (H37.up `a)  F41
theorem walk {l:jO} {q:aX} {loose:List Str} {XP:(Str→Option aD)→Heap→Prop} {YP:aZ→Heap→Prop} {d:DefRec} {K:Params→aG} (hn:l.most=aA 63) (hdf:d.params.defaults=[])
  (hY:∀(w:aZ) (h:Heap),YP w h→(K w.params).In h)
  (F:∀(w:aZ) (mg:Str→Option aD) (fa:Addr) (h:Heap),(K w.params).In h→h.Ns aN mg→mg d.name=aA (.ref fa)→
   ∃fd:cV,(∀(s:aF) (u:aD),kT s fd ⟨[u],[]⟩ [("script",u)])∧∀base:Heap,(K w.params).In base→base.Ns aN mg→uf l.prog w (K w.params) mg base CX0 7 fa fd ["script"] (J4 (K w.params))):
  PySem.W.WalkO q loose XP YP l.row.toRowW d [] (λf vs=>nS f vs):=
 L2.Vq (n:=63) (k:=7) (x:="script") (CX:=λ_=>CX0) (sp:=λw=>J4 (K w.params)) hn `a hdf ⟨rfl,by decide,by decide⟩ hY F (λ_ _ a ns hl _ hS=>⟨a,ns,rfl,hS,hl,λ_=>rfl⟩) λ_ _ _ _ _ z=>z
end K62
namespace PySem.W.Fast
def tw10043140018646755246:=()
def tw5060241541973930688:=()
def tw158665346507624019:=()
def tw12124393944788885625:=()
def tw4555029117794052523:=()
def tw6169765116410882961:=()
def tw4922771424157263624:=()
def tw5929821534945435959:=()
def tw7494942259730140386:=()
def tw4399004791672453829:=()
def tw10375835285964128009:=()
def tw11041794858206004375:=()
def tw12813086933792827666:=()
def tw9528738255340834030:=()
def tw6046426519705699280:=()
def tw17667656964286876143:=()
def tw10201046708791737187:=()
def tw15951385936060538845:=()
def tw14851986033500413470:=()
def tw9706149807768637438:=()
def tw6106495989183017232:=()
def tw14986406227782642900:=()
def tw9613209717942775261:=()
def tw18332288439898136842:=()
def tw4127469828507693299:=()
def tw721553944778947694:=()
def tw5401897192157507438:=()
def tw14138746410976485674:=()
def tw12280127086143938698:=()
def tw6119785079805973655:=()
def tw16074965843511759605:=()
def tw863820501396254257:=()
def tw12248165893122485029:=()
def tw10537747591058737980:=()
def tw6628441811770100696:=()
def tw9090102875782406670:=()
def tw7202462296171040730:=()
def tw5391715754222943129:=()
def tw8381441607131068999:=()
def tw2041660124686140633:=()
def tw8336606340723350930:=()
def tw2268595076263035906:=()
def tw7581712147768622386:=()
def tw14422288015840728532:=()
def tw14575269604672579477:=()
def tw4737902140404901259:=()
def tw11586917874023197831:=()
def tw18072222303226975718:=()
def tw15542354642441554851:=()
def tw3488835244170801090:=()
def tw11271215969014565681:=()
def tw10280265353380585628:=()
def tw6391722456182383189:=()
def tw16099334283121649570:=()
def tw3018270112362643338:=()
def tw8556353681648183576:=()
def tw9782056321744037951:=()
def tw12540207122725937276:=()
def tw5914340703131959531:=()
def tw17138854235197215034:=()
def tw11861053201579388478:=()
def tw2633463257018476297:=()
def tw1693246007696806723:=()
def tw5449426568727794369:=()
def tw12912682878808776486:=()
def tw16662158101500166499:=()
def tw11972671118711887972:=()
def tw6430312689979557653:=()
def tw10975901456038657557:=()
def tw8229585981711138667:=()
def tw11737160094218427642:=()
def tw1485385544346363680:=()
def tw11356973926467632988:=()
def tw4488199109136138143:=()
def tw11711759158397171485:=()
def tw6423436115350037060:=()
def tw4414979905404201249:=()
def tw8428559452616534594:=()
def tw6522942562676555439:=()
def tw9030207771887594415:=()
def tw9761236074945067834:=()
def tw16084769928648671387:=()
def tw13632418195453336373:=()
def tw10719004739592915877:=()
def tw7581703431276330358:=()
def tw4265579178464717744:=()
def tw13208320007885082595:=()
def tw15246954648709707445:=()
def tw10207264481463246281:=()
def tw11099748243801325936:=()
def tw3954152928391878451:=()
def tw5483490974625628554:=()
def tw6295895778868212399:=()
def tw3602178496938984194:=()
def tw16154581473419518915:=()
def tw249702447781188651:=()
def tw9966376225419334081:=()
def tw1475103657158838604:=()
def tw8082742111268415564:=()
def tw1725850204470921362:=()
def tw10490091313551965480:=()
def tw9252771597402091364:=()
def tw12011803712708549792:=()
def tw6847874529982048370:=()
def tw15276093506153627314:=()
def tw13398667513506081226:=()
def tw928384461739407939:=()
def tw15090824080798999385:=()
def tw12801660284270055653:=()
def tw4954769239035836784:=()
def tw16047451219693122339:=()
def tw11561410904745375044:=()
def tw13377020935792594358:=()
def tw13533097593124591998:=()
def tw15822702254091239757:=()
def tw7413301613355904865:=()
def tw8534948571865523243:=()
def tw10425518710235220131:=()
def tw10682493613703410067:=()
def tw17848431683300211930:=()
def tw1064374623916686486:=()
def tw8924596733571651245:=()
def tw17967562143443907219:=()
def tw5708535646956596040:=()
def tw3647703229341596337:=()
def tw16631768372936878133:=()
def tw11171772835387324034:=()
def tw15266122264474173074:=()
def tw10944627304113871101:=()
def tw1007472077085903669:=()
def tw10715488062779294946:=()
def tw16870215777514720791:=()
def tw16453119965652006210:=()
def tw12211038938348948999:=()
def tw10536650274632587098:=()
def tw9910663950467024883:=()
def tw13332753164965682053:=()
def tw7305656611696683679:=()
def tw17714069556278555817:=()
def tw9590198185121598569:=()
def tw4081524556714405808:=()
def tw11488737357698807569:=()
def tw1003769579984273903:=()
def tw4573139658505042545:=()
def tw11849434957762233617:=()
def tw10191976824243688075:=()
def tw12886477301224329570:=()
def tw3970120170854381507:=()
def tw1732400308416511547:=()
def tw10317068467131218800:=()
def tw2590975698320711829:=()
def tw17411809836503879141:=()
def tw9617938221472751952:=()
def tw12175823526381963177:=()
def tw627287618491935827:=()
def tw2500080101275619471:=()
def tw5796548001568448807:=()
def tw6808116728000983353:=()
def tw14059724559802158194:=()
def tw3764374246223154625:=()
def tw740892853344490732:=()
def tw6063487739988121003:=()
def tw350441777931180302:=()
def tw4337569987048546569:=()
def tw14079959066896837000:=()
def tw9958139194691046630:=()
def tw12563038945526069134:=()
def tw6364521114411822928:=()
def tw3001116046720634723:=()
def tw3877605724789483672:=()
def tw5688109922510117097:=()
def tw13425934470348948855:=()
def tw11481626788013146485:=()
def tw8839026599483144223:=()
def tw995923900358691667:=()
def tw3184678076046087498:=()
def tw13720183544157912399:=()
def tw15401961959373571630:=()
def tw4026801831611258165:=()
def tw1442226753895347961:=()
def tw10378395294471127184:=()
def tw12378348938733807279:=()
def tw17422980308338767773:=()
def tw15776208884734240293:=()
def tw9980754351189408788:=()
def tw15392909621953092875:=()
def tw1110193874534415301:=()
def tw6073863522581279732:=()
def tw341147561412864379:=()
def tw6862163181645154641:=()
def tw13295834312403396487:=()
def tw1978423344787560945:=()
def tw18026885841690079156:=()
def tw16049339533180673194:=()
def tw3557615663358927139:=()
def tw4081641622137959761:=()
def tw12866072228053132770:=()
def tw7672068805394934625:=()
def tw15561179065051662843:=()
def tw5771082071176134203:=()
def tw3399611844333047560:=()
def tw17906981046977258514:=()
def tw7787516972939086790:=()
def tw14015331779877575085:=()
def tw6841226645800187902:=()
def tw10031298996260514705:=()
def tw2582597236154126595:=()
def tw8648937569577028179:=()
def tw17147136932218570013:=()
def tw13132597552406275312:=()
def tw6791469203292839660:=()
def tw3502165454731743707:=()
def tw9666637346631727070:=()
def tw11760724777524810031:=()
def tw1613065133236214766:=()
def tw3867471102218206676:=()
def tw5161383177362825784:=()
def tw9284850485894192558:=()
def tw14581656475606158116:=()
def tw11877281123970769483:=()
def tw13625341230934031648:=()
def tw5958259531294554128:=()
def tw6630172713170812216:=()
def tw9029267353222409344:=()
def tw4403979195349820026:=()
def tw1267547818775069016:=()
def tw14287397425198637683:=()
def tw15381297684747152430:=()
def tw13877902514982760052:=()
def tw12796360843747306362:=()
def tw1730991301762701886:=()
def tw7264099860670561206:=()
def tw55083781578129957:=()
def tw13191486127744235867:=()
def tw13876793975776988922:=()
def tw4628787109310864234:=()
def tw15952242963729470928:=()
def tw3318483407258501504:=()
def tw2541591748774742348:=()
def tw13347601980125327625:=()
def tw17961139319305394328:=()
def tw9311715855833330718:=()
def tw13379198343297828253:=()
def tw7381506468789463623:=()
def tw5345493669614256514:=()
def tw16818001933706682433:=()
def tw1459341396913980108:=()
def tw3280014415608614960:=()
def tw2966594177530227732:=()
def tw12438832556977075902:=()
def tw4083466872313491434:=()
def tw2862495149975615839:=()
def tw2355374438197919659:=()
def tw8846447779225090886:=()
def tw15952121208815520234:=()
def tw11853687696803222076:=()
def tw3504120472345478979:=()
def tw11496326948833270710:=()
def tw11077196686124124823:=()
def tw16548144951255820614:=()
def tw15344788979859761055:=()
def tw16711765265823905141:=()
def tw9848570479077825192:=()
def tw8187381926315633802:=()
def tw126643458335606418:=()
def tw7784444249947947568:=()
def tw14967547432273608252:=()
def tw16517065298241834565:=()
def tw3365957305777091578:=()
def tw16042519055474066301:=()
def tw11451195301004416949:=()
def tw10303861945931590901:=()
def tw2790582499407699245:=()
def tw4098937671786368955:=()
def tw16271312590013370856:=()
def tw3958857678443037892:=()
def tw15057531602163840765:=()
def tw15887359069207048312:=()
def tw9014705623722164358:=()
def tw5570978180841611834:=()
def tw5306297409781268929:=()
def tw1004130151821464966:=()
def tw17819417203886806427:=()
def tw5688258976914845509:=()
def tw4027608500485602087:=()
def tw7288688637900871246:=()
def tw7142451708895430169:=()
def tw17412254745823040557:=()
def tw8206617934484154023:=()
def tw5718153580658717153:=()
def tw14019393052411544437:=()
def tw12613193370895945418:=()
def tw11353220515114756670:=()
def tw11194963564071819830:=()
def tw2669578679457348796:=()
def tw14442099713486475043:=()
def tw5772369294710730237:=()
def tw13839324322027508439:=()
def tw13776770101322749583:=()
def tw9916500176074389300:=()
def tw17310680649079382318:=()
def tw13762811253333688143:=()
def tw14500628081032937909:=()
def tw14599395725983836468:=()
def tw1220146914243858372:=()
def tw4445180254705150012:=()
def tw9800918675343751985:=()
def tw16994249562614663510:=()
def tw13051110501085896866:=()
def tw15798541480555554626:=()
def tw6429089878330559026:=()
def tw11450539962482745980:=()
def tw4277012445413026578:=()
def tw3335914479738586354:=()
def tw3603307822477595903:=()
def tw15465815002986913530:=()
def tw7000835327497288157:=()
def tw7921229169596697487:=()
def tw3156170379322201287:=()
def tw5611577386777028015:=()
def tw12412924909730188469:=()
end PySem.W.Fast
open PySem PySem.W PyProof.Rows
set_option maxRecDepth 100000 in
set_option maxHeartbeats 0 in
theorem PySem.Challenge.cw_pricecover_k62_whole_rows_come_to_worth_holds : PySem.Challenge.rw_pricecover_k62_whole_rows_come_to_worth.Holds := by
 w_on;o_law;k_head;(case hw=>w_witness2)
 k_fill
 refine K62.walk (l:=PySem.Challenge.rw_pricecover_k62_whole_rows_come_to_worth) rfl rfl (fun w h Y=>PySem.W.kIn_of Y) ?F
 case F=>
  intro w mg fa h KX G hmg
  refine' K62.all_mk KX G hmg ?a0 ?l0 ?c0 ?k0 ?a1 ?l1 ?c1 ?k1 ?a2 ?l2 ?c2 ?k2 ?a3 ?l3 ?c3 ?k3 ?a4 ?l4 ?c4 ?k4 ?a5 ?l5 ?c5 ?k5 ?a6 ?l6 ?c6 ?k6 ?a7 ?l7 ?c7 ?k7 ?a8 ?l8 ?c8 ?k8 ?a9 ?l9 ?c9 ?k9 ?a10 ?l10 ?c10 ?k10 ?a11 ?l11 ?c11 ?k11 ?a12 ?l12 ?c12 ?k12 ?a13 ?l13 ?c13 ?k13 ?a14 ?l14 ?c14 ?k14 ?a15 ?l15 ?c15 ?k15 ?a16 ?l16 ?c16 ?k16 ?a17 ?l17 ?c17 ?k17 ?a18 ?l18 ?c18 ?k18 ?a19 ?l19 ?c19 ?k19 ?a20 ?l20 ?c20 ?k20 ?a21 ?l21 ?c21 ?k21 ?a22 ?l22 ?c22 ?k22 ?a23 ?l23 ?c23 ?k23 ?a24 ?l24 ?c24 ?k24 ?a25 ?l25 ?c25 ?k25 ?a26 ?l26 ?c26 ?k26 ?a27 ?l27 ?c27 ?k27 ?a28 ?l28 ?c28 ?k28 ?a29 ?l29 ?c29 ?k29 ?a30 ?l30 ?c30 ?k30 ?a31 ?l31 ?c31 ?k31 ?a32 ?l32 ?c32 ?k32 ?a33 ?l33 ?c33 ?k33 ?a34 ?l34 ?c34 ?k34 ?a35 ?l35 ?c35 ?k35 ?a36 ?l36 ?c36 ?k36 ?a37 ?l37 ?c37 ?k37 ?a38 ?l38 ?c38 ?k38 ?a39 ?l39 ?c39 ?k39 ?a40 ?l40 ?c40 ?k40 ?a41 ?l41 ?c41 ?k41 ?z0 ?z1 ?z2 ?z3 ?z4 ?z5 ?z6 ?z7 ?z8 ?z9 ?z10 ?z11 ?z12 ?z13 ?y0 ?x0 ?hh0x0 ?hh0x1 ?hh0x2 ?hh0x3 ?ha0 ?y1 ?x1
  (case a0=>k_is)
  (case l0=>k_is)
  (case c0=>k_is)
  (case k0=>k_is)
  (case a1=>k_is)
  (case l1=>k_is)
  (case c1=>k_is)
  (case k1=>k_is)
  (case a2=>k_is)
  (case l2=>k_is)
  (case c2=>k_is)
  (case k2=>k_is)
  (case a3=>k_is)
  (case l3=>k_is)
  (case c3=>k_is)
  (case k3=>k_is)
  (case a4=>k_is)
  (case l4=>k_is)
  (case c4=>k_is)
  (case k4=>k_is)
  (case a5=>k_is)
  (case l5=>k_is)
  (case c5=>k_is)
  (case k5=>k_is)
  (case a6=>k_is)
  (case l6=>k_is)
  (case c6=>k_is)
  (case k6=>k_is)
  (case a7=>k_is)
  (case l7=>k_is)
  (case c7=>k_is)
  (case k7=>k_is)
  (case a8=>k_is)
  (case l8=>k_is)
  (case c8=>k_is)
  (case k8=>k_is)
  (case a9=>k_is)
  (case l9=>k_is)
  (case c9=>k_is)
  (case k9=>k_is)
  (case a10=>k_is)
  (case l10=>k_is)
  (case c10=>k_is)
  (case k10=>k_is)
  (case a11=>k_is)
  (case l11=>k_is)
  (case c11=>k_is)
  (case k11=>k_is)
  (case a12=>k_is)
  (case l12=>k_is)
  (case c12=>k_is)
  (case k12=>k_is)
  (case a13=>k_is)
  (case l13=>k_is)
  (case c13=>k_is)
  (case k13=>k_is)
  (case a14=>k_is)
  (case l14=>k_is)
  (case c14=>k_is)
  (case k14=>k_is)
  (case a15=>k_is)
  (case l15=>k_is)
  (case c15=>k_is)
  (case k15=>k_is)
  (case a16=>k_is)
  (case l16=>k_is)
  (case c16=>k_is)
  (case k16=>k_is)
  (case a17=>k_is)
  (case l17=>k_is)
  (case c17=>k_is)
  (case k17=>k_is)
  (case a18=>k_is)
  (case l18=>k_is)
  (case c18=>k_is)
  (case k18=>k_is)
  (case a19=>k_is)
  (case l19=>k_is)
  (case c19=>k_is)
  (case k19=>k_is)
  (case a20=>k_is)
  (case l20=>k_is)
  (case c20=>k_is)
  (case k20=>k_is)
  (case a21=>k_is)
  (case l21=>k_is)
  (case c21=>k_is)
  (case k21=>k_is)
  (case a22=>k_is)
  (case l22=>k_is)
  (case c22=>k_is)
  (case k22=>k_is)
  (case a23=>k_is)
  (case l23=>k_is)
  (case c23=>k_is)
  (case k23=>k_is)
  (case a24=>k_is)
  (case l24=>k_is)
  (case c24=>k_is)
  (case k24=>k_is)
  (case a25=>k_is)
  (case l25=>k_is)
  (case c25=>k_is)
  (case k25=>k_is)
  (case a26=>k_is)
  (case l26=>k_is)
  (case c26=>k_is)
  (case k26=>k_is)
  (case a27=>k_is)
  (case l27=>k_is)
  (case c27=>k_is)
  (case k27=>k_is)
  (case a28=>k_is)
  (case l28=>k_is)
  (case c28=>k_is)
  (case k28=>k_is)
  (case a29=>k_is)
  (case l29=>k_is)
  (case c29=>k_is)
  (case k29=>k_is)
  (case a30=>k_is)
  (case l30=>k_is)
  (case c30=>k_is)
  (case k30=>k_is)
  (case a31=>k_is)
  (case l31=>k_is)
  (case c31=>k_is)
  (case k31=>k_is)
  (case a32=>k_is)
  (case l32=>k_is)
  (case c32=>k_is)
  (case k32=>k_is)
  (case a33=>k_is)
  (case l33=>k_is)
  (case c33=>k_is)
  (case k33=>k_is)
  (case a34=>k_is)
  (case l34=>k_is)
  (case c34=>k_is)
  (case k34=>k_is)
  (case a35=>k_is)
  (case l35=>k_is)
  (case c35=>k_is)
  (case k35=>k_is)
  (case a36=>k_is)
  (case l36=>k_is)
  (case c36=>k_is)
  (case k36=>k_is)
  (case a37=>k_is)
  (case l37=>k_is)
  (case c37=>k_is)
  (case k37=>k_is)
  (case a38=>k_is)
  (case l38=>k_is)
  (case c38=>k_is)
  (case k38=>k_is)
  (case a39=>k_is)
  (case l39=>k_is)
  (case c39=>k_is)
  (case k39=>k_is)
  (case a40=>k_is)
  (case l40=>k_is)
  (case c40=>k_is)
  (case k40=>k_is)
  (case a41=>k_is)
  (case l41=>k_is)
  (case c41=>k_is)
  (case k41=>k_is)
  (case z0=>k_is)
  (case z1=>k_is)
  (case z2=>k_is)
  (case z3=>k_is)
  (case z4=>k_is)
  (case z5=>k_is)
  (case z6=>k_is)
  (case z7=>k_is)
  (case z8=>k_is)
  (case z9=>k_is)
  (case z10=>k_is)
  (case z11=>k_is)
  (case z12=>k_is)
  (case z13=>k_is)
  (case y0=>k_is)
  (case x0=>k_is)
  (case hh0x0=>first | rfl | k_is)
  (case hh0x1=>first | rfl | k_is)
  (case hh0x2=>first | rfl | k_is)
  (case hh0x3=>first | rfl | k_is)
  (case ha0=>first | rfl | decide | k_is)
  (case y1=>k_is)
  (case x1=>k_is)
#print axioms PySem.Challenge.cw_pricecover_k62_whole_rows_come_to_worth_holds
