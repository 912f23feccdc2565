import PyProof.Rows.All
import Wide.All
import OpenK.AllK
import Wide.FinOn
import Lean
import PyProof.EqAt
import PyProof.EqKinds
import PyProof.TupleCall
import KE.KSortTup
import PyProof.EnumMake
import PyProof.EnumStmt
import PyProof.ListRange
import PyProof.Rows.SortPure
import PyProof.Rows.SortRuns
import KE.KDictList
import KE.KRevIter
import PyProof.DictItems
import PyProof.ZipIter
import PyProof.DictUpdate
import PyProof.TupleIter
import PyProof.ListNew
import PyProof.Rows.ZipGen
import PyProof.AttrMiss
import PyProof.FactsAll.dict_1
import PyProof.AttrMissHeap
import KE.KDictOf
import PyProof.Rows.SetFrom
import PyProof.Rows.Range3
import PyProof.DictIter
import PyProof.Rows.TupDisplay
import PyProof.ExcClass3
import PyProof.RulesAs
import PyProof.RaisesMany
import PyProof.InstStore
import PyProof.InstStoreFacts
import PyProof.ExcBaseAll.ValueError
import PyProof.ExcArgs
import PyProof.InstLoad
import PyProof.ExcAttrAll.ValueError
import KE.KIsAll
import PyProof.Toks
import PyProof.FString4
import PyProof.StrLawsRepr
import PyProof.FitsReplace
import PyProof.Draws
import PyProof.Rows.CallKwBuiltin
import PySem.Challenge.RW_pricecover_k61_rows_of_a_cover
set_option Elab.async false
set_option bootstrap.genMatcherCode false
set_option linter.all false
set_option maxRecDepth 100000
set_option maxHeartbeats 4000000
open List renaming length_map → aa0,getElem?_eq_getElem → aa1,length_append → aa2,getElem?_map → aa4,length_singleton → aa5,mem_cons_self → aa6,length_cons → aa8,size_toArray → aa9,map_append → aaa,mem_cons_of_mem → aab,not_mem_nil → aac,getElem_mem → aaf,getElem?_append_right → aah,mem_of_getElem? → aai,getD_eq_getElem?_getD → aaj,getElem?_append_left → aak,mem_cons → aam,mem_append_right → aao,map_cons → aaq,take_add_one → aar,foldl_cons → aas,length_take → aau,length_drop → aav,take_of_length_le → aaw,foldl_nil → aax,drop_eq_getElem_cons → aay,zip → ab0,append_nil → ab1,filter_cons → ab2,length_reverse → ab8,replicate → aba,length_replicate → abb,map_nil → abc,map_map → abd,mem_append_left → abe,Nodup → abj,range → abl,getElem?_of_mem → abm,forIn_nil → abo,flatMap_append → abp,forIn_cons → abq,length_zip → abr,getElem?_eq_none → abt,filter_append → abv,length_range → abx,flatMap_cons → aby,append_assoc → ac1,mem_map_of_mem → ac2,take_length → ac4,length → ac5,drop_of_length_le → ac6,of_mem_zip → ac9,range' → acd,lookup_cons → ace,filterMap_cons → acf,map_drop → acg,find?_cons → ach,contains_cons → acj,reverse_cons → acm,drop_zero → acq,getElem?_toArray → acr,any_cons → acs,replicate_succ → acu,reverse_append → acw,getElem?_take_of_lt → acy,map → acz,length_filterMap_le → ad1,nodup_nil → ad3,drop_drop → ad4,getElem_inj → ad5,cons_append → ad6,zipIdx_cons → ad8,take_append_drop → ada,getElem?_reverse → adb,length_filter_le → ade,eraseIdxIfInBounds_toArray → adf,length_nil → adh,zipIdx_nil → adj,nil_append → adl,sum_append → adm,mem_of_mem_drop → adn,zip_cons_cons → adp,sum_cons → ads,map_take → adt,mem_of_find?_eq_some → adv,drop_length → ady,getElem?_replicate → adz,getElem?_cons_succ → ae0,getElem?_set_self → ae1,length_pos_of_mem → ae3,getElem?_set_ne → ae4,length_dropLast → ae5,flatten_cons → aef,ext_getElem? → aeg,nodup_append → aeh,all_eq_true → aej,getElem_map → aem,map_fst_zip → aen,map_reverse → aeo,range'_succ → aep,find?_some → aeq
open Nat renaming le_refl → aa3,lt_of_succ_lt → aae,zero_le → aag,ne_of_lt → aal,lt_of_lt_of_le → aan,le_add_right → aaz,ne_of_gt → ab4,le_trans → ab6,le_succ → ab7,lt_irrefl → abg,zero_add → abn,lt_succ_of_lt → abw,lt_of_le_of_lt → ac0,le_of_lt → ac7,min_eq_left → aca,add_lt_add_left → acv,sub_self → ad0,eq_zero_or_pos → ad2,succ_ne_self → ad7,log2_le_self → ad9,lt_or_ge → adk,add_sub_cancel → ado,le_succ_of_le → adu,add_comm → adx,lt_of_succ_lt_succ → ae2,le_of_eq → ae8,lt_trans → aea,sub_zero → aeb,min_self → aec,le_of_not_lt → aei,lt_succ_self → aek,succ_lt_succ → ael,not_lt_zero → aer
open Option.some renaming inj → aa7
open And renaming intro → aad
open Bool renaming false_ne_true → aap,false_eq_true → abi,and_eq_true → ac3,or_eq_true → aci,eq_iff_iff → acx,or_false → adq,false_or → ae7,or_true → aed
open Array renaming getElem?_eq_getElem → aat,length_toList → abf,getElem?_eq_none → abz,forIn_toList → ac8,getElem?_toList → aco,eq_empty_of_size_eq_zero → adi,toArray_toList → ae6
open Or renaming inr → ab3,inl → ab5
open Int renaming emod_nonneg → ab9,emod_lt_of_pos → abk,toNat_natCast → ack,toNat → aes
open List.cons renaming inj → abh,injEq → acb
open Iff renaming rfl → abu
open Option renaming isSome_map → acn,map_some → adg,getD_none → adw,isSome_some → ae9
open Nat.succ renaming inj → acp
open Exists renaming intro → aee
local macro_rules | `(tactic| omega)=>`(tactic| first | lia | omega +splitNatSub)
open Option renaming some → aA
open PySem.Str renaming ofString → aB,empty → gD
open PySem renaming wpAny_bind → aC,Shared → aE,wpAny_pure → aG,wpAny → aH,mainGlobals → aK,model → aL,sizeLine_eq → aQ,Program → aU,starEach → aZ,World → bA,wpAny_field → bC,Around → bE,wpAny_mono → bG,wpAny_callSpecial?_slot → bI,bindArgs → bJ,wpAny_holding → bK,wpAny_call_entry → bL,bootBuiltins → bM,wpAny_seqItems → bQ,wpAny_setField_rec → bT,wpAny_Call_Name_kw → bW,IsPair → bX,rawInt → bZ,strLen_append → cD,backTo → cF,compareOp → cI,binaryOp → cL,Builtin → cN,wpAny_newObj_type → cO,FuncData → cP,sysModules → cQ,wpAny_pyIter_enum → cT,wpAny_loadPart_at → cU,pyNext → cV,behindInMarks → cY,ZipApart → cZ,wpAny_pyIter_tuple → dA,relabel → dC,builtinLookup_eq_fast → dD,wpAny_truthy_bool → dI,wpAny_attempt → dJ,codeAny → dM,wpAny_isInstance → dN,wpAny_passesOwn → dQ,wpAny_letOwnedTupleGo_enum → dS,wpAny_pyIter_list → dW,typeLookup → dZ,field → eB,codeAny_call_builtin → eF,mem_of_lookup → eN,wpAny_onRaise → eP,letOwnedTupleGo → eQ,tupleKind_room_in1 → eT,wpAny_rule → eU,codeAny_builtin → eV,typeLookup_type → eW,keywordEach → eX,wpAny_nextOf_list_item → eY,codeAny_mono → fE,wpAny_typeOf → fF,wpAny_nextOf_list_end → fG,wpAny_setField → fH,isSubtype_stop → fJ,wpAny_updateSeq_pair → fP,wpAny_standAt → fR,wpAny_FormattedValue_plain → fT,sliceBounds → fV,wpAny_letGo → fW,wpAny_isSubtype_exc → fY,wpAny_specialOf → gA,wpAny_updateSeq → gB,wpAny_ite_split → gC,wpAny_comprehension_free → gH,getItem → gM,wpAny_newTuple → gN,wpAny_pyNext_enum_itemD → gR,foldedSetIterable → gT,wpAny_pyIter_slot → gU,IsPart → gX,plainId_quiet → hV,backToKw → hX,wpAny_execs_nil → iC,assignEach → iD,Result → iE,call_meets → iF,newFunctionEnv → iI,tupleKind → iL,assign → iN,pyIter → iO,attributeBase → iV,frameOf → iW,wpAny_call → iY,atKey → iZ,wpAny_FormattedValue_repr → jB,Keyword → jC,callerA → jD,valueAt → jE,wpAny_execs_cons → jF,noFill_tuple_add → jG,Model → jQ,CmpOp → jR,cellsFrom → jS,updateSeq → jU,codeAny_of_tree → jV,wpAny_JoinedStr → jW,wpAny_stack_any → jY,IsRangeIter → jZ,wpAny_pyNext_range_end → kB,wpAny_pyIter_rangeiter → kH,subscripted → kL,codeAny_compStart_list → kP,meets_dict_get_default → kQ,loadIfAlive → kR,excClassObj → kS,hashStr → kT,spliced → kU,wpAny_isTrue_Compare1 → kW,holding → kX,BindsTo → lB,notedBy → lE,IsEnum → lL,callType_codes → lM,ofString_length → lP,weight_type_call_type → lR,GenState → lT,bindL → lU,bindC → lW,units_type_call_type → mD,seq_tuple_add → mH,sub_enumerate → mK,isTrue → mT,wpAny_Constant_int → mU,swapsWith → mV,wpAny_pyIter_range → mW,concat_meets → mZ,seqIndex? → nB,seqIndex_neg → nC,noteFrame → nD,call_meetsIn → nE,callType_new → nF,getattributeRaised → nH,int_text_length_le → nI,wpAny_assign_Name → nL,wpAny_sequenceKey → nO,seqIndex_of → nR,wpAny_of_eq → nS,NameKind → nU,compEnvC → nV,builtinsNs → nX,wpAny_Name → nY,typeIs_str → oA,PlainAttrs → oC,call → oD
open PySem.Heap renaming get?_push_of_some → aD,get?_push_size → aI,lt_size → aJ,size_push → bB,SameBut → bF,get?_update_other → bO,get?_update_self → bR,get?_push_ne → fC,size_update → iA,IsTuple → jH
open PySem.W renaming Frag → aF,nsIn → aN,keepIn → aO,codeIn → aR,mg_of → aV,fnOf → aW,mg_none_of → bN,findIn → bP,kia_one → cG,methodObj → iX,findIn → jJ,instObj → jP,OpenLaw → jT,cellsFrom_some → kK,lookIn → kZ,callWith_K → mY,kitx_list → nM,kitx_dict → nN
open PySem.F renaming plainAttrs_list → aM,slot_list_append → aS,type_list_append → aT,slot_zip_next → bY,slot_enumerate_next → dE,plain_extend_loop → dF,slot_zip_iter → dH,slot_dict_get → dR,slot_tuple_iterator_next → dU,args_zip_next_1 → dX,entry_zip_next → eJ,slot_list_pop → fM,type_list_pop → fN,excBase_ValueError → fS,args_tuple_add_2 → gF,slot_list_extend → gJ,type_list_extend → gK,entry_tuple_add → gP,args_dict_get_3 → gQ,args_enumerate_next_1 → gS,args_zip_iter_1 → gV,slot_tuple_add → gW,entry_dict_get → gZ,entry_enumerate_next → hJ,entry_zip_iter → hZ,entry_enumerate_new → iB,args_tuple_iterator_next_1 → iJ,entry_tuple_iterator_next → iP,called_enumerate → iQ,entry_extend_loop → jA,args_list_init_2 → jI,plainAttrs_dict → jK,typeCall_list_1 → jL,entry_list_init → jM,type_dict_get → lJ,args_object_init_3 → lY,called_list → mM,entry_object_init → mP,entry_type_call → nQ
open Sum renaming inr → aP,inl → cK
open PySem.Builtin.SmallTypes renaming nextOf → aX,ownedTupleIsFree → bD,ownedTupleHandOut → cS
open PySem.Value renaming ref → aY,none → bV,type → cX,int → iK,str → mQ,bool → nW
open PyProof.Rows renaming callWith_type1 → bH,slot_tuple_getitem → dG,envOfC → gE,AllBare → gL,formatField_str → jX,subscriptTail_builtinR → kN,formatField_int_small → lQ,IsTup → lS,Constant_none → mE,subscriptTail → mJ,entry_tuple_getitem → mL,args_tuple_getitem → nA,zipApart_new → nG,IntsAre → nK,Subscript_ → nZ
open PySem.Builtin.Str renaming strSliceIndices → bS
open PySem.Builtin.List renaming listExtendWith → bU,listSameRef → eL,listItems → eZ,listLengthHint → fO,listTooLong → gG,listUpdate → jN
open Ne renaming symm → cE
open PySem.Builtin.Range renaming rangeFitsLong → cJ,rangeSize → gO,small → mN
open PySem.Obj renaming mapFields → cM,mapSeq → cR,data_mapFields → dP,isFreed_of_fields → fI,cls_mapFields → nP
open PySem.Calls renaming spliced_cons → dO,spliced_nil → fB,callWith_builtin → gY,Constant_str → iM,Name_function_global → iS,evalArgs_plain → lX
open PySem.Builtin.Slice renaming slicePlaces → dY,sliceAdjust → fZ,sliceApplied → iT
open PySem.Builtin.Tuple renaming tupleExact → eG,tupleItemsOf → iU
open PySem.Heap.SameBut renaming refl → fD,update → iH
open PySem.Around renaming under_plainId → fQ,under_plain → nJ
open Sum.inr renaming inj → fU
open PySem.Shared renaming heap → fX
open PySem.Code renaming quiet_builtin → gI
open ForInStep renaming yield → iG
open PySem.Paired renaming length → iR
open PySem.Builtin.Dict renaming updateFrom → jO
open PyProof renaming noPylong_small → kJ
open PySem.StrLaws renaming reprText_len → lZ
open PySem.EntryCells renaming newEntry → mO
open PySem.SeqAt.EqAt renaming int_str → mR,str_int → mS
open PySem.SeqAt renaming EqAt → oB
set_option hygiene false
local macro_rules|`($x:name)=>match x.getName.toString with
|"a"=>`(by decide)
|"b"=>`(by simp)
|"c"=>`(by decide+kernel)
|"d"=>`(aL X.prog X.w)
|"e"=>`(aL prog w)
|"f"=>`(.lst (as.map V.ref))
|"g"=>`(upd H2 s2.heap.objs.size (.lst []))
|"h"=>`(kinds.map V.str)
|"i"=>`(aB "add")
|"j"=>`(.tup [V.ref sa,V.ref da])
|"k"=>`(aB "out")
|"l"=>`(A4 (AG 0) (A4 (AT 0) (A0 0) (A3 0)) (A3 0))
|"m"=>`(.ref s.heap.objs.size)
|"n"=>`(aad (aad rfl (aad rfl rfl)) trivial)
|"o"=>`(.ListComp elt [⟨tg,iter,ifs,0⟩] scope pos)
|"p"=>`(.ref z)
|"q"=>`(AK (AI (AR 0) (A4 (AG 0) (A0 0) (A3 0)) (A3 0) (AF 0)) (A5 (BQ (A4 (AM 0) (A6 (AO 0) (A0 2) (A3 0)) (A3 0)) (C7 (A0 2) (A3 0) (@set_list _))) (A7 (AE (A8 (A1 (AC 0) (A1 (A8 (A1 (A8 (A1 (AC 0) (A1 (A0 3) (A1 (A4 (@gu _) (AC 0) (B0 (@iq _) m_str An (A1 (A6 (AO 0) (A0 2) (A3 0)) (A2 0)))) (A2 0))))) (A2 0))) (A1 (A0 3) (A2 0)))))))) (AL 0))
|"r"=>`(.ref a)
|"s"=>`(AD h_law_draw hr (A1 (A0 0) (A1 (A3 0) (A2 0))))
|"t"=>`(A6 (AA 0) (A0 5) (A3 0))
|"u"=>`(aB "t1")
|"v"=>`(aq kinds r.1.shape)
|"w"=>`(ab0 _ us)
|"x"=>`(arE es)
|"y"=>`(bh kinds v)
|"z"=>`(List V)
|"A"=>`(aB "neg")
|"B"=>`(aB "mul")
|"C"=>`(cxC X scope cl (own++fr) fp s H)
|"D"=>`(.ref l)
|"E"=>`(A6 (AA 0) (A0 0) (A3 0))
|"F"=>`(AB (AB (AB (AX 0))))
|"G"=>`(bxN c (bo r.2).length)
|"H"=>`(.tup [V.ref rl,V.ref t2,V.ref t3])
|"I"=>`(.tup [V.ref d1,V.ref d2,V.ref d3])
|"J"=>`(ns.map V.int)
|"K"=>`(.tup [V.str (wd ns (3+rs.length)),V.str kinds[u],V.int y,V.ref sa,V.ref da])
|"L"=>`(.tup [V.ref d1])
|"M"=>`(aB "sub")
|"N"=>`(.ref t)
|"O"=>`(.inl rfl)
|"P"=>`(cxK X scope cl bn ([bn]++fr) fp s H)
|"Q"=>`(.str z)
|"R"=>`(.ref (s.heap.push (eh l)).objs.size)
|"S"=>`(.lst (as.map V.ref++[V.ref t]))
|"T"=>`(.tup [.int ((i+1:Nat):Int),x])
|"U"=>`(.lst xs)
|"V"=>`(show s.heap.IsTuple a its.toArray from p)
|"W"=>`(aB "put")
|"X"=>`(ar.drop p)
|"Y"=>`(ha pos pins s σ H _ I h)
|"Z"=>`(.ref b)
|"aa"=>`(.int (p:Int))
|"ab"=>`(min (if i < 0 then i+(n:Int) else i) n)
|"ac"=>`(cN.«zip.__next__» ⟨[.ref z],[]⟩)
|"ad"=>`(A6 (AA 0) (A0 6) (A3 0))
|"ae"=>`(.tup [V.str (wd ns (3+j)),V.str kd,V.int x,V.ref sa,V.ref da])
|"af"=>`((ws.drop (if bh kinds v=lH then endAt ws q else q+1)).map arV)
|"ag"=>`(ha pins s σ H _ I h)
|"ah"=>`(.tup [V.int (0+(j:Int)+1),V.int (0+(j:Int))])
|"ai"=>`(.lst [])
|"aj"=>`(.lst [V.str `i,V.str `M,V.str `B])
|"ak"=>`(.tup [V.str `W,V.str `k,V.int 0])
|"al"=>`(.tup [V.str `i,V.str (aB "t2"),V.str (aB "h3"),V.str (aB "h4")])
|"am"=>`(cxK X scope cl bn ([bn]++fr) fp s3 `g)
|"an"=>`(.tup [V.int (0+(j:Int)),V.int (0+(j:Int)+1)])
|"ao"=>`(bp I q `b)
|"ap"=>`(.ref s2.heap.objs.size)
|"aq"=>`(.tup [V.str `i,V.str `u,V.str (aB "h1"),V.str (aB "h2")])
|"ar"=>`(.tup [V.str `i,V.str `u,V.str (aB "h1"),V.str (aB "h1")])
|"as"=>`(.lst [V.str `i,V.str `M,V.str `B,V.str `A])
|"at"=>`(.tup [V.str w,V.str `k,V.str (aB "h1"),V.str (aB "h2")])
|"au"=>`((ws.drop p).map arV)
|"av"=>`(cxC X scope cl (own++fr) fp s3 `g)
|"aw"=>`(aY ((h1.push { cls:=.type "tuple",data:=.seq us.toArray }).push { cls:=.ref C,data:=.fields #[.ref h1.objs.size,.none,.none,.none,.bool false,.none] }).objs.size)
|"ax"=>`(EP X pins σ Q)
|"ay"=>`(.builtin "object.__class__")
|"az"=>`(.Call (.Name x p) (e::es) [] pos)
|"aA"=>`(aad rfl trivial)
|"aB"=>`(I1.hok.fresh (aa3 _))
|"aC"=>`(ji [] [(aP (aB "n"),V.int 1),(aP (aB "v"),V.int 2)])
|"aD"=>`(A1 (AC 0) (A2 0))
|"aE"=>`(dh e iz (bxN (fb p) (bo e.1.2).length))
|"aF"=>`(I.ok.hd hc)
|"aG"=>`(I.hok.fresh (aa3 _))
|"aH"=>`(AJ (AS 0) m_len cm (A1 (A0 0) (A2 0)))
|"aI"=>`(.tup [V.str `i,V.str `k,V.str `u,V.str (aB "t2")])
|"aJ"=>`(.tup [V.str `i,V.str `k,V.str (aB "h1"),V.str `u])
|"aK"=>`(.tup [V.str (aB "load"),V.str `k,V.str (aB "v1")])
|"aL"=>`(.lst (bs.map V.ref))
|"aM"=>`(ah.refl _)
|"aN"=>`(.ref (s.heap.push (ik l)).objs.size)
|"aO"=>`(aA (.builtin "BaseException.__getattribute__"))
|"aP"=>`(A1 (A0 3) (A2 0))
|"aQ"=>`(AI (AR 0) (A4 (AG 0) (A4 (AT 0) (AH 2) (A3 0)) (A3 0)) (A3 0) (AF 0))
|"aR"=>`(chS 104)
|"aS"=>`(aA (.builtin "object.__setattr__"))
|"aT"=>`(A6 (AA 0) (A0 7) (A3 0))
|"aU"=>`(.tup xs)
|"aV"=>`(.ref wt)
|"aW"=>`(ws.getD p .non)
|"aX"=>`(r.next (m.next (l.next c0)))
|"aY"=>`(.ref d)
|"aZ"=>`(.tup [V.str w,l.word,V.str o,m'.word,r.word])
|"a0"=>`(.tup [V.str w,V.str o,l.word,m'.word,r.word])
|"a1"=>`(ig s.heap.objs.size)
|"a2"=>`(.lst (rs.map V.ref))
|"a3"=>`(.dK (gc (((bo e.1.2).map (aP:Str→Key)).zip (bs.map V.int)) []))
|"a4"=>`(.ref p)
|"a5"=>`(.lst (os.map plV++[plV p]))
|"a6"=>`(.tup [V.str `M,V.str `k,V.str `k,V.str `u])
|"a7"=>`(.tup [V.ref d1,V.ref d2,V.ref d3,V.ref d4])
|"a8"=>`(is.map V.int)
|"a9"=>`(A1 (A0 6) (A2 0))
|"ba"=>`(.tup ws)
|"bb"=>`(.ref (s.heap.objs.size+4))
|"bc"=>`(.lst (kc.vs.set 0 (V.int ((kc.h:Int)+1))))
|"bd"=>`(.lst ((as++bs).map V.ref))
|"be"=>`(aB "var")
|"bf"=>`(.tup [V.str `W,V.str `k,V.str (aB "n1")])
|_=>Lean.Macro.throwUnsupported
set_option hygiene true
namespace L2
open PySem PySem.Spec PyProof.Rows
abbrev Key:=Sum Int Str
noncomputable def Au:Key→Value→Bool
 | .inl k,v=>Value.isInt k v
 | .inr x,v=>Value.isStrOf x v
noncomputable def keyH (w:bA):Key→Int
 | .inl k=>hashInt k
 | .inr x=>kT w x
theorem dc:∀{k:Key} {v:Value},Au k v=true→(∃i t,k=cK i∧v=iK i t)∨(∃x t,k=aP x∧v=mQ x t)
 | .inl i,v,h=>by
  obtain ⟨t,e⟩:=Value.isInt_shape (k:=i) (v:=v) h;exact .inl ⟨i,t,rfl,e⟩
 | .inr x,v,h=>by
  obtain ⟨t,e⟩:=Value.isStrOf_shape (x:=x) (v:=v) h;exact .inr ⟨x,t,rfl,e⟩
theorem K3 (i:Int) (t:Tok):Au (.inl i) (.int i t)=true:=by simp[Au,Value.isInt]
theorem L8 (x:Str) (t:Tok):Au (.inr x) (.str x t)=true:=by simp[Au,Value.isStrOf]
theorem key_ll (a b:Int):decide ((cK a:Key)=cK b)=(a==b):=by
 by_cases e:a=b
 ·subst e;simp
 ·have h:¬(cK a:Key)=cK b:=λq=>e (Sum.inl.inj q);rw[decide_eq_false h];exact (beq_eq_false_iff_ne.mpr e).symm
theorem key_rr (a b:Str):decide ((aP a:Key)=aP b)=decide (a=b):=by
 by_cases e:a=b
 ·subst e;simp
 ·have h:¬(aP a:Key)=aP b:=λq=>e (fU q);rw[decide_eq_false h,decide_eq_false e]
theorem key_lr (a:Int) (b:Str):decide ((cK a:Key)=aP b)=false:=decide_eq_false (λq=>nomatch q)
theorem key_rl (a:Str) (b:Int):decide ((aP a:Key)=cK b)=false:=decide_eq_false (λq=>nomatch q)
noncomputable def b9 (prog:aU) (w:bA):PySem.KeyKind prog w Key where
 is:=Au
 hash:=keyH w
 inj:=λv a b ha hb=>by
  rcases dc ha with ⟨i,t,rfl,rfl⟩ | ⟨x,t,rfl,rfl⟩
  ·rcases dc hb with ⟨j,u,rfl,e⟩ | ⟨y,u,rfl,e⟩
   ·injection e with e1 _;rw[e1]
   ·exact nomatch e
  ·rcases dc hb with ⟨j,u,rfl,e⟩ | ⟨y,u,rfl,e⟩
   ·exact nomatch e
   ·injection e with e1 _;rw[e1]
 byValue:=λk v h=>by
  rcases dc h with ⟨i,t,rfl,rfl⟩ | ⟨x,t,rfl,rfl⟩ <;> rfl
 pyHash:=λhv h=>by
  rcases dc hv with ⟨i,t,rfl,rfl⟩ | ⟨x,t,rfl,rfl⟩
  ·exact wpAny_pyHash_int h
  ·exact wpAny_pyHash_str h
 eqBool:=λhu hv h=>by
  rcases dc hu with ⟨i,t,rfl,rfl⟩ | ⟨x,t,rfl,rfl⟩
  ·rcases dc hv with ⟨j,u,rfl,rfl⟩ | ⟨y,u,rfl,rfl⟩
   ·rw[key_ll] at h;exact wpAny_eqBool_int h
   ·rw[key_lr] at h;exact mR i t y u _ _ _ _ h
  ·rcases dc hv with ⟨j,u,rfl,rfl⟩ | ⟨y,u,rfl,rfl⟩
   ·rw[key_rl] at h;exact mS x t j u _ _ _ _ h
   ·rw[key_rr] at h;exact wpAny_eqBool_str h
 «strs»:=λk x t v h=>by
  rcases dc h with ⟨i,u,rfl,e⟩ | ⟨y,u,rfl,e⟩
  ·exact nomatch e
  ·injection e with e1 _
   subst e1;cases v <;> rfl
theorem Ey (prog:aU) (w:bA) (i:Int) (t:Tok):(b9 prog w).is (.inl i) (.int i t)=true:=K3 i t
theorem mf (prog:aU) (w:bA) (x:Str) (t:Tok):(b9 prog w).is (.inr x) (.str x t)=true:=L8 x t
inductive V where
 | non | bl (b:Bool) | int (i:Int) | str (x:Str) | byt (b:Array UInt8) | flt (b:UInt64) | ref (a:Addr) | ty (n:String)
 deriving DecidableEq
def RelV:V→Value→Prop
 | .non,u=>u=bV
 | .bl b,u=>u=nW b
 | .int i,u=>∃t,u=iK i t
 | .str x,u=>∃t,u=mQ x t
 | .byt b,u=>∃t,u=Value.bytes b t
 | .flt b,u=>∃t,u=Value.float b t
 | .ref a,u=>u=aY a
 | .ty n,u=>u=cX n
abbrev Vals:List V→List Value→Prop:=Paired RelV
theorem Vals.length {xs:List V} {us:List Value} (r:Vals xs us):xs.length=us.length:=iR r
theorem Vals.get:∀{xs:List V} {us:List Value} {i:Nat} {x:V},Vals xs us→xs[i]?=aA x→∃u,us[i]?=aA u∧RelV x u
 | _,_,_,_,.nil,e=>by simp at e
 | _,_,0,_,.cons r _,e=>by simp at e;subst e;exact ⟨_,rfl,r⟩
 | _,_,i+1,x,.cons _ t,e=>by
  obtain ⟨u,h1,h2⟩:=Vals.get (i:=i) (x:=x) t (by simpa using e);exact ⟨u,by simpa using h1,h2⟩
theorem Vals.set {x:V} {u:Value} (r:RelV x u):∀{xs:List V} {us:List Value} (i:Nat),Vals xs us→Vals (xs.set i x) (us.set i u)
 | _,_,_,.nil=>.nil
 | _,_,0,.cons _ t=>.cons r t
 | _,_,i+1,.cons q t=>.cons q (Vals.set r i t)
theorem Vals.append:∀{xs ys:List V} {us ws:List Value},Vals xs us→Vals ys ws→Vals (xs++ys) (us++ws)
 | _,_,_,_,.nil,s=>s
 | _,_,_,_,.cons r t,s=>.cons r (Vals.append t s)
theorem Vals.take:∀{xs:List V} {us:List Value} (n:Nat),Vals xs us→Vals (xs.take n) (us.take n)
 | _,_,0,_=>.nil
 | _,_,_+1,.nil=>.nil
 | _,_,n+1,.cons r t=>.cons r (Vals.take n t)
theorem Vals.drop:∀{xs:List V} {us:List Value} (n:Nat),Vals xs us→Vals (xs.drop n) (us.drop n)
 | _,_,0,r=>r
 | _,_,_+1,.nil=>.nil
 | _,_,n+1,.cons _ t=>Vals.drop n t
def qt:Option V→Option Value→Prop
 | some v,aA u=>RelV v u
 | none,none=>True
 | _,_=>False
def KV {κ:Type}:List (κ×V)→List (κ×Value)→Prop:=Paired λ(p:κ×V) (q:κ×Value)=>p.1=q.1∧RelV p.2 q.2
noncomputable def kV:Key→V
 | .inl i=>.int i
 | .inr x=>.str x
inductive HO where
  | lst (xs:List V)
  | tup (xs:List V)
  | dK (kvs:List (Key×V)) | dT (kvs:List (List Key×V))
  | set (S:Int→Bool) (n:Nat)
  | ins (C dx:Addr) (fs:List (Str×V))
  | own (x:Addr)
  | xd (fs:List (Str×V))
  | met (f x:Addr)
  | rng (lo hi:Int)
  | frz (o:Obj) (u:HO)
  | tbl (ps:Array Value)
  | ext (φ:Heap→Prop)
abbrev Hp:=Addr→Option HO
noncomputable def upd (H:Hp) (a:Addr) (o:HO):Hp:=λb=>if b=a then aA o else H b
theorem aa {H:Hp} {a:Addr} {o:HO}:upd H a o a=aA o:=by unfold upd;rw[if_pos rfl]
theorem ak {H:Hp} {a b:Addr} {o:HO} (h:b≠a):upd H a o b=H b:=by unfold upd;rw[if_neg h]
theorem jq {H:Hp} {a b:Addr} {o u:HO} (h:H a=aA o) (h':H b=aA u) (d:o≠u):a≠b:=by
 intro e;subst e;rw[h] at h';exact d (aa7 h')
theorem ao {H:Hp} {a b:Addr} {o:HO} (h:H a=aA o) (h':H b=none):a≠b:=by
 intro e;subst e;rw[h] at h';cases h'
section
variable (P:aU) (w:bA)
def Hh (h:Heap) (a:Addr) (its:Array Value):Prop:=∃o,h.get? a=aA o∧o.cls=.type "tuple"∧∃n,o.data=.seq its n∧o.dict=none
theorem Hh.tup {h:Heap} {a:Addr} {its:Array Value} (x:Hh h a its):lS h a its:=let ⟨o,h1,h2,n,h3,_⟩:=x;⟨o,h1,h2,n,h3⟩
def bw (H:Hp) (h:Heap) (a:Addr):HO→Prop
 | .lst xs=>xs.length≤sizeLine∧∃(its:List Value) (n:Nat),Vals xs its∧h.get? a=aA { cls:=.type "list",data:=.seq its.toArray n }
 | .tup xs=>xs.length≤sizeLine∧∃its:List Value,Vals xs its∧Hh h a its.toArray
 | .dK kvs=>kvs.length≤sizeLine∧(a==cQ)=false∧∃vs,KV kvs vs∧h.DictOf (b9 P w) a vs
 | .dT kvs=>kvs.length≤sizeLine∧(a==cQ)=false∧∃xs:List (List Key×Addr×Value),
   Paired (λ(p:List Key×V) (q:List Key×Addr×Value)=>p.1=q.1∧H q.2.1=aA (.tup (p.1.map kV))∧RelV p.2 q.2.2) kvs xs∧
   ∃o es ep,h.get? a=aA o∧o.ExactDict∧o.data=.dict es ep∧es.toList=xs.map (entryOfKey (iL (b9 P w)))∧(xs.map (·.1)).Nodup
 | .set S n=>h.SetOf (intKind P w) a S n
 | .ins C dx fs=>H dx=aA (.own a)∧fs.length≤1000∧dx≠a∧h.get? a=aA (jP C dx)∧
   ∃mA,h.Ns1 dx mA∧(∀f,qt (fs.lookup f) (mA f))∧PySem.Within mA (fs.map (·.1))
 | .own _=>∃o,h.get? a=aA o
 | .xd fs=>∃mA,h.Ns1 a mA∧∀f,qt (fs.lookup f) (mA f)
 | .rng lo hi=>∃t u v,h.get? a=aA { cls:=.type "range",data:=.fields #[.int lo t,.int hi u,.int 1 v] }
 | .frz o u=>h.get? a=aA o∧bw H h a u
 | .tbl ps=>h.get? a=aA { cls:=.none,data:=.fields ps }
 | .met f x=>h.get? a=aA (iX (.ref f) (.ref x))
 | .ext φ=>φ h∧(∃o,h.get? a=aA o)∧∀h1 h2:Heap,φ h1→(∀o,h1.get? a=aA o→h2.get? a=aA o)→φ h2
def HOk (H:Hp) (h:Heap):Prop:=∀a o,H a=aA o→bw P w H h a o
end
section
variable {P:aU} {w:bA} {H H':Hp} {h h':Heap} {a:Addr} {o:HO}
theorem bw.lt (x:bw P w H h a o):a < h.objs.size:=by
 cases o with
 | lst xs=>obtain ⟨_,_,_,_,e⟩:=x;exact aJ e
 | tup xs=>obtain ⟨_,_,_,p⟩:=x;exact p.tup.lt
 | dK kvs=>obtain ⟨_,_,_,_,o,_,_,e,_⟩:=x;exact aJ e
 | dT kvs=>obtain ⟨_,_,_,_,o,_,_,e,_⟩:=x;exact aJ e
 | set S n=>obtain ⟨o,_,_,_,e,_⟩:=x;exact aJ e
 | ins C dx fs=>obtain ⟨_,_,_,e,_⟩:=x;exact aJ e
 | own y=>obtain ⟨_,e⟩:=x;exact aJ e
 | xd fs=>obtain ⟨_,⟨_,_,_,e,_⟩,_⟩:=x;exact aJ e
 | rng lo hi=>obtain ⟨_,_,_,e⟩:=x;exact aJ e
 | frz ob u=>obtain ⟨e,_⟩:=x;exact aJ e
 | tbl ps=>exact aJ (show h.get? a=aA _ from x)
 | met f y=>exact aJ (show h.get? a=aA _ from x)
 | ext φ=>obtain ⟨_,⟨_,e⟩,_⟩:=x;exact aJ e
theorem Paired.mapP {α β:Type} {F G:α→β→Prop}:∀{l₁:List α} {l₂:List β},Paired F l₁ l₂→(∀a b,F a b→G a b)→Paired G l₁ l₂
 | _,_,.nil,_=>.nil
 | _,_,.cons r t,f=>.cons (f _ _ r) (Paired.mapP t f)
theorem bw.Fj (x:bw P w H h a o) (k:∀b u,(b=a∨H b=aA (.own a))→h.get? b=aA u→h'.get? b=aA u)
  (ho:∀b,H b=aA (.own a)→H' b=aA (.own a)) (ht:∀b xs,H b=aA `aU→H' b=aA `aU):bw P w H' h' a o:=by
 induction o with
 | lst xs=>obtain ⟨z,its,n,r,e⟩:=x;exact ⟨z,its,n,r,k _ _ `O e⟩
 | tup xs=>obtain ⟨z,its,r,ob,e,c⟩:=x;exact ⟨z,its,r,ob,k _ _ `O e,c⟩
 | dK kvs=>obtain ⟨z,y,vs,r,ob,es,ep,e,c⟩:=x;exact ⟨z,y,vs,r,ob,es,ep,k _ _ `O e,c⟩
 | dT kvs=>
  obtain ⟨z,y,xs,r,ob,es,ep,e,c⟩:=x;exact ⟨z,y,xs,Paired.mapP r λp q z=>⟨z.1,ht _ _ z.2.1,z.2.2⟩,ob,es,ep,k _ _ `O e,c⟩
 | set S n=>obtain ⟨ob,es,ep,t,e,c⟩:=x;exact ⟨ob,es,ep,t,k _ _ `O e,c⟩
 | ins C dx fs=>
  obtain ⟨d,z,ne,e,mA,⟨od,es,ep,e2,c⟩,r⟩:=x;exact ⟨ho _ d,z,ne,k _ _ `O e,mA,⟨od,es,ep,k _ _ (.inr d) e2,c⟩,r⟩
 | own y=>obtain ⟨ob,e⟩:=x;exact ⟨ob,k _ _ `O e⟩
 | xd fs=>obtain ⟨mA,⟨od,es,ep,e,c⟩,r⟩:=x;exact ⟨mA,⟨od,es,ep,k _ _ `O e,c⟩,r⟩
 | rng lo hi=>obtain ⟨t,u,v,e⟩:=x;exact ⟨t,u,v,k _ _ `O e⟩
 | frz ob u ih=>obtain ⟨e,q⟩:=x;exact ⟨k _ _ `O e,ih q⟩
 | tbl ps=>
  have e:h.get? a=aA { cls:=.none,data:=.fields ps }:=x;show h'.get? a=aA { cls:=.none,data:=.fields ps }
  exact k a _ `O e
 | met f y=>
  have e:h.get? a=aA (iX (.ref f) (.ref y)):=x;show h'.get? a=aA (iX (.ref f) (.ref y))
  exact k a _ `O e
 | ext φ=>obtain ⟨p,⟨o,e⟩,st⟩:=x;exact ⟨st _ _ p λo q=>k _ _ `O q,⟨o,k _ _ `O e⟩,st⟩
theorem HOk.lt (x:HOk P w H h) (e:H a=aA o):a < h.objs.size:=(x a o e).lt
theorem HOk.fresh (x:HOk P w H h) (e:h.objs.size≤a):H a=none:=by
 cases q:H a with
 | none=>rfl
 | some u=>exact absurd (aan (x.lt q) e) (abg _)
theorem HOk.kept (x:HOk P w H h) (k:∀b u,h.get? b=aA u→h'.get? b=aA u):HOk P w H h':=λa o e=>
 (x a o e).Fj (λb u _ q=>k b u q) (λ_ q=>q) λ_ _ q=>q
theorem HOk.laid (x:HOk P w H h) (k:∀b u,h.get? b=aA u→h'.get? b=aA u) (hp:h.objs.size≤a) (new:bw P w (upd H a o) h' a o):HOk P w (upd H a o) h':=λb u e=>by
 have hn:=x.fresh hp;by_cases hb:b=a
 ·subst hb;rw[aa] at e;cases e;exact new
 ·rw[ak hb] at e;exact (x b u e).Fj (λc v _ q=>k c v q) (λc q=>by rw[ak (ao q hn)];exact q) λc xs q=>by rw[ak (ao q hn)];exact q
end
def Rd (H:Hp) (a:Addr) (u:HO):Prop:=H a=aA u∨∃o,H a=aA (.frz o u)
theorem Rd.ok {P:aU} {w:bA} {H:Hp} {h:Heap} {a:Addr} {u:HO} (r:Rd H a u) (x:HOk P w H h):bw P w H h a u:=by
 rcases r with r | ⟨o,r⟩
 ·exact x a u r
 ·obtain ⟨_,q⟩:=x a _ r;exact q
def Mut:Option HO→Prop
 | some (.lst _)=>True
 | some (.dK _)=>True
 | some (.dT _)=>True
 | some (.set _ _)=>True
 | some (.ins _ _ _)=>True
 | some (.ext _)=>True
 | _=>False
section
variable {P:aU} {w:bA} {H:Hp} {h h':Heap} {x e:Addr} {o':HO}
theorem HOk.write (ok:HOk P w H h) (mu:Mut (H x)) (he:e=x∨H e=aA (.own x)) (k:∀b u,b≠e→h.get? b=aA u→h'.get? b=aA u) (heo:∃u,h'.get? e=aA u)
  (new:bw P w (upd H x o') h' x o'):HOk P w (upd H x o') h':=λb u q=>by
 have nown:∀c y,H c=aA (.own y)→c≠x:=λc y r z=>by subst z;rw[r] at mu;exact mu
 have ntup:∀c xs,H c=aA `aU→c≠x:=λc xs r z=>by subst z;rw[r] at mu;exact mu
 by_cases hb:b=x
 ·subst hb;rw[aa] at q;cases q;exact new
 ·rw[ak hb] at q;by_cases hbe:b=e
  ·have q':H b=aA (.own x):=by
    rcases he with z | z
    ·exact absurd (hbe.trans z) hb
    ·rw[hbe];exact z
   rw[q] at q';cases q';obtain ⟨v,hv⟩:=heo;exact ⟨v,by rw[hbe];exact hv⟩
  ·refine (ok b u q).Fj (λc v hc r=>k c v ?_ r) (λc r=>by rw[ak (nown c b r)];exact r) λc xs r=>by rw[ak (ntup c xs r)];exact r
   rcases hc with rfl | hc
   ·exact hbe
   ·rintro rfl;rcases he with z | z
    ·exact nown c b hc z
    ·rw[hc] at z;cases z;exact hb rfl
end
structure Un (fs ex:List Addr) (H H':Hp) (h h':Heap):Prop where
 keep:∀b o,h.get? b=aA o→H b=none→b∉fs→b∉ex→h'.get? b=aA o
 slot:∀b o,h.get? b=aA o→H b=none→b∈fs→b∉ex→∃sl,h'.get? b=aA { o with slots:=sl }
 free:∀b o,h.get? b=aA o→H b=none→b∉ex→H' b=none
 there:∀b o,h.get? b=aA o→b∉ex→∃o',h'.get? b=aA o'
 tups:∀b xs,H b=aA `aU→H' b=aA `aU
 frzs:∀b o u,H b=aA (.frz o u)→H' b=aA (.frz o u)
 tbls:∀b ps,H b=aA (.tbl ps)→∃more,H' b=aA (.tbl (ps++more))
section
variable {fs fs' ex ex':List Addr} {H H1 H2:Hp} {h h1 h2 h':Heap} {a x e:Addr} {o:HO}
theorem Un.any (u:Un fs ex H H1 h h1) {b:Addr} {ob:Obj} (q:h.get? b=aA ob) (n:H b=none) (hx:b∉ex):∃sl,h1.get? b=aA { ob with slots:=sl }:=by
 by_cases hb:b∈fs
 ·exact u.slot b ob q n hb hx
 ·exact ⟨ob.slots,u.keep b ob q n hb hx⟩
theorem Un.kept (k:∀b u,h.get? b=aA u→h'.get? b=aA u):Un fs ex H H h h':=
 ⟨λb ob q _ _ _=>k b ob q,λb ob q _ _ _=>⟨ob.slots,k b ob q⟩,λ_ _ _ n _=>n,λb ob q _=>⟨ob,k b ob q⟩,λ_ _ q=>q,λ_ _ _ q=>q,λ_ ps q=>⟨#[],by rw[q];simp⟩⟩
theorem Un.refl:Un fs ex H H h h:=Un.kept λ_ _ q=>q
theorem Un.laid (k:∀b u,h.get? b=aA u→h'.get? b=aA u) (hp:h.objs.size≤a) (hn:H a=none):Un fs ex H (upd H a o) h h' where
 keep:=λb u q _ _ _=>k b u q
 slot:=λb u q _ _ _=>⟨u.slots,k b u q⟩
 free:=λb u q n _=>by rw[ak (aal (aan (aJ q) hp))];exact n
 there:=λb u q _=>⟨u,k b u q⟩
 tups:=λb xs q=>by rw[ak (ao q hn)];exact q
 frzs:=λb u xs q=>by rw[ak (ao q hn)];exact q
 tbls:=λb ps q=>⟨#[],by rw[ak (ao q hn),q];simp⟩
theorem Un.write (mu:Mut (H x)) (he:e=x∨H e=aA (.own x)) (k:∀b u,b≠e→h.get? b=aA u→h'.get? b=aA u) (heo:∃u,h'.get? e=aA u):Un fs ex H (upd H x o) h h':=by
 have hx:∀b,H b=none→b≠x:=λb n z=>by subst z;rw[n] at mu;exact mu
 have hb:∀b,H b=none→b≠e:=λb n z=>by
  subst z;rcases he with r | r
  ·exact hx b n r
  ·rw[n] at r;cases r
 have hm:∀b u,H b=aA u→¬Mut (aA u)→b≠x:=λb u q nm z=>by subst z;rw[q] at mu;exact nm mu
 refine ⟨λb u q n _ _=>k b u (hb b n) q,λb u q n _ _=>⟨u.slots,k b u (hb b n) q⟩,λb u q n _=>by rw[ak (hx b n)];exact n,λb u q _=>?_,
  λb xs q=>by rw[ak (hm b _ q λz=>z)];exact q,λb u xs q=>by rw[ak (hm b _ q λz=>z)];exact q,λb ps q=>⟨#[],by rw[ak (hm b _ q λz=>z),q];simp⟩⟩
 by_cases hbe:b=e
 ·subst hbe;exact heo
 ·exact ⟨u,k b u hbe q⟩
end
noncomputable def trk (h:Heap) (H:Hp):List Addr:=(abl h.objs.size).filter λa=>(H a).isSome
noncomputable def Cn (h:Heap) (H:Hp):Heap:=PySem.W.hideAll h (trk h H)
theorem L1 (h:Heap) (H:Hp):(Cn h H).objs.size=h.objs.size:=PySem.W.hideAll_size _ _
theorem Of {h:Heap} {H:Hp} {b:Addr} {o:Obj} (e:h.get? b=aA o) (n:H b=none):(Cn h H).get? b=aA o:=
 PySem.W.hideAll_get _ e λhm=>by
  have q:(H b).isSome=true:=(List.mem_filter.mp hm).2;rw[n] at q;simp at q
theorem So {h:Heap} {H:Hp} {b:Addr} {o:Obj} (e:(Cn h H).get? b=aA o):h.get? b=aA o∧H b=none:=by
 have e':h.get? b=aA o:=PySem.W.of_hideAll (trk h H) e;refine ⟨e',?_⟩;cases q:H b with
 | none=>rfl
 | some x=>
  have hm:b∈trk h H:=List.mem_filter.mpr ⟨List.mem_range.mpr (aJ e'),by simp[q]⟩;have z:(Cn h H).get? b=none:=PySem.W.hideAll_none (trk h H) hm;rw[z] at e;cases e
noncomputable def Uy (g h:Heap) (L:Addr):List (Addr×Obj):=(abl h.objs.size).filterMap λa=>if a=L∨(g.get? a).isSome=true then none else (h.get? a).map λo=>(a,o)
noncomputable def rest (g h:Heap) (L d:Addr):List (Addr×Obj):=(Uy g h L).filter λp=>decide (p.1≠d)
structure Mod (K:aF) (mg:Str→Option Value) (base:Heap):Prop where
 kin:K.In base
 glob:base.Ns aK mg
 blt:∃mb,base.Ns nX mb∧∀x:Str,x≠"__name__"→mb x=bM x
 nolimit:base.NoLimit
structure Cx where
 prog:aU
 w:bA
 K:aF
 mg:Str→Option Value
 base:Heap
 A:bE
 N:List Str
 s₀:aE
 H₀:Hp
 env:Env
 outer:List Env
 stack:List Env
 ex:List Addr
 fn:Str→Bool
 calm:Bool
 pn:List (Addr×Obj)
 xe:Value→aE→Prop
noncomputable def frs (l:List Env):List Addr:=l.filterMap (·.frame)
noncomputable abbrev Cx.fs (X:Cx):List Addr:=frs X.outer
def Vis (sc:Scope) (x:Str):Prop:=sc.names.lookup x=aA .local∨sc.names.lookup x=aA .cell∨sc.names.lookup x=aA .free
def Loc (sc:Scope) (x:Str):Prop:=sc.names.lookup x=aA .local∨sc.names.lookup x=aA .cell
def Look (env:Env) (h:Heap) (m:Str→Option Value) (x:Str) (u:Value):Prop:=
 (env.kindOf x=aA .local∧m x=aA u)∨((env.kindOf x=aA .cell∨env.kindOf x=aA .free)∧∃c,env.cells.lookup x=aA c∧h.IsCell c (aA u))
structure Cx.Ok (X:Cx):Prop where
 mod:Mod X.K X.mg X.base
 kind:X.env.scope.kind=.function
 glob:X.env.globals=aK
 blt:X.env.builtins=nX
 above:X.s₀.heap.objs.size≤X.env.locals
 inj:∀x y c,X.env.cells.lookup x=aA c→X.env.cells.lookup y=aA c→x=y
 has:∀x,(X.env.kindOf x=aA .cell∨X.env.kindOf x=aA .free)→∃c,X.env.cells.lookup x=aA c
 cab:∀x c,X.fn x=true→X.env.cells.lookup x=aA c→X.s₀.heap.objs.size≤c
 hd:X.calm=true→X.A.handled=none
 frames:X.A.frames=aA X.stack
 stk:X.stack=X.outer∨(X.stack=X.env::X.outer∧X.env.frame=aA X.env.locals)
 exf:∀b∈X.ex,b≠X.env.locals∧∀x c,X.env.cells.lookup x=aA c→c≠b
 bs:∀b o,X.base.get? b=aA o→X.s₀.heap.get? b=aA o∧X.H₀ b=none
 bsz:X.base.objs.size≤X.s₀.heap.objs.size
 noex:∀b o,X.base.get? b=aA o→b∉X.ex
 exfs:∀b∈X.ex,b∉X.fs
 uz:X.s₀.heap.FunFrames X.base X.outer
 frf:∀b∈X.fs,X.H₀ b=none
structure Inv (X:Cx) (pins:List (Addr×Obj)) (σ:List (Option V)) (H:Hp) (s:aE):Prop where
 ok:X.Ok
 os:s.os=X.s₀.os
 bare:gL s.gens
 base:Un X.fs X.ex X.H₀ H X.s₀.heap s.heap
 loc:∃m,s.heap.Ns X.env.locals m∧∀(i:Nat) (x:Str) (v:V),X.N[i]?=aA x→σ[i]?=aA (aA v)→Vis X.env.scope x→∃u,RelV v u∧Look X.env s.heap m x u
 cell:∀x c,X.env.cells.lookup x=aA c→∃v,s.heap.IsCell c v
 free:H X.env.locals=none
 freeC:∀x c,X.env.cells.lookup x=aA c→H c=none
 pin:∀p∈X.pn++pins,s.heap.get? p.1=aA p.2∧H p.1=none∧p.1≠X.env.locals∧p.1∉X.fs∧∀v,p.2.data≠.cell v
 hok:HOk X.prog X.w H s.heap
 len:σ.length=X.N.length
section
variable {X:Cx} {pins:List (Addr×Obj)} {σ:List (Option V)} {H H':Hp} {s:aE} {h':Heap}
theorem Cx.Ok.nofr (ok:X.Ok) {b:Addr} {o:Obj} (e:X.base.get? b=aA o):b∉X.fs:=λhb=>by
 have:=(ok.uz.mem hb).1;rw[e] at this;cases this
theorem Inv.bs (I:Inv X pins σ H s):∀b o,X.base.get? b=aA o→s.heap.get? b=aA o∧H b=none:=λb o e=>
 ⟨I.base.keep b o (I.ok.bs b o e).1 (I.ok.bs b o e).2 (I.ok.nofr e) (I.ok.noex b o e),I.base.free b o (I.ok.bs b o e).1 (I.ok.bs b o e).2 (I.ok.noex b o e)⟩
theorem Inv.bk (I:Inv X pins σ H s):∀b o,X.base.get? b=aA o→s.heap.get? b=aA o:=λb o e=>(I.bs b o e).1
theorem Inv.mod (I:Inv X pins σ H s):Mod X.K X.mg X.base:=I.ok.mod
theorem Inv.kIn (I:Inv X pins σ H s):X.K.In s.heap:=I.ok.mod.kin.keeps I.bk
theorem Inv.lt (I:Inv X pins σ H s):X.env.locals < s.heap.objs.size:=let ⟨_,hn,_⟩:=I.loc;hn.lt
theorem Inv.sz (I:Inv X pins σ H s):X.s₀.heap.objs.size≤s.heap.objs.size:=ab6 I.ok.above (ac7 I.lt)
theorem Inv.nofs (I:Inv X pins σ H s) {a:Addr} (h:s.heap.objs.size≤a):a∉X.fs:=λhb=>by
 obtain ⟨_,o,ho,_⟩:=I.ok.uz.mem hb;exact absurd (aan (aJ ho) (ab6 I.sz h)) (abg _)
theorem Inv.cne (I:Inv X pins σ H s):∀x c,X.env.cells.lookup x=aA c→c≠X.env.locals:=λx c e z=>by
 obtain ⟨v,o,ho,hd⟩:=I.cell x c e;obtain ⟨m,⟨o',es,ep,ho',hd',_⟩,_⟩:=I.loc;rw[z,ho'] at ho;cases ho;rw[hd'] at hd;cases hd
theorem Inv.uz (I:Inv X pins σ H s):s.heap.FunFrames X.base X.outer:=by
 have all:∀(l:List Env),(∀b∈frs l,b∈X.fs)→X.s₀.heap.FunFrames X.base l→s.heap.FunFrames X.base l:=by
  intro l;induction l with
  | nil=>intro _ _;trivial
  | cons env r ih=>
   intro hs hl;obtain ⟨hk,⟨L,o,hf,hn,ho,hd⟩,hr⟩:=hl;have hL:L∈X.fs:=hs L (by unfold frs;rw[acf,hf];exact aa6);obtain ⟨sl,e⟩:=I.base.slot L o ho (I.ok.frf L hL) hL λz=>I.ok.exfs L z hL;exact ⟨hk,⟨L,_,hf,hn,e,hd⟩,ih (λb hb=>hs b (by unfold frs;rw[acf,hf];exact aab _ hb)) hr⟩
 exact all X.outer (λ_ hb=>hb) I.ok.uz
theorem Inv.stack (I:Inv X pins σ H s):s.heap.FunFrames X.base X.stack:=by
 rcases I.ok.stk with e | ⟨e,hf⟩
 ·rw[e];exact I.uz
 ·rw[e];obtain ⟨m,hn,_⟩:=I.loc;refine .cons (by rw[I.ok.kind];decide) hf hn ?_ I.uz;exact Heap.get?_none_of_le (ab6 I.ok.bsz I.ok.above)
theorem Inv.Ci (I:Inv X pins σ H s):∀b∈frs X.stack,b∈X.env.locals::X.fs:=λb hb=>by
 rcases I.ok.stk with e | ⟨e,hf⟩
 ·rw[e] at hb;exact aab _ hb
 ·rw[e] at hb;unfold frs at hb;rw[acf,hf] at hb;exact hb
theorem Inv.wu (I:Inv X pins σ H s):∀b∈frs X.stack,H b=none:=λb hb=>by
 rcases List.mem_cons.mp (I.Ci b hb) with e | hb
 ·rw[e];exact I.free
 ·obtain ⟨_,o,ho,_⟩:=I.ok.uz.mem hb;exact I.base.free b o ho (I.ok.frf b hb) λz=>I.ok.exfs b z hb
theorem Inv.step {g':Array lT} {t':Nat} {d':Drawn} {ch:List Addr} (I:Inv X pins σ H s)
  (hch:∀b∈ch,(b∈X.ex∨X.s₀.heap.objs.size≤b)∧b≠X.env.locals∧(∀x c,X.env.cells.lookup x=aA c→c≠b)∧∀p∈X.pn++pins,p.1≠b)
  (keep:∀b o,b≠X.env.locals→b∉X.fs→b∉ch→s.heap.get? b=aA o→H b=none→h'.get? b=aA o)
  (slot:∀b o,b≠X.env.locals→b∈X.fs→b∉ch→s.heap.get? b=aA o→H b=none→∃sl,h'.get? b=aA { o with slots:=sl }) (free:∀b o,b∉ch→s.heap.get? b=aA o→H b=none→H' b=none)
  (there:∀b o,b∉ch→s.heap.get? b=aA o→∃o',h'.get? b=aA o')
  (tups:∀b xs,H b=aA `aU→H' b=aA `aU) (frzs:∀b o u,H b=aA (.frz o u)→H' b=aA (.frz o u)) (tbls:∀b ps,H b=aA (.tbl ps)→∃more,H' b=aA (.tbl (ps++more)))
  (ns:∀m,s.heap.Ns X.env.locals m→h'.Ns X.env.locals m) (hok:HOk X.prog X.w H' h') (hg:gL g'):
  Inv X pins σ H' { s with heap:=h',gens:=g',drawn:=d',toks:=t' }:=by
 have neL:∀b o,X.s₀.heap.get? b=aA o→b≠X.env.locals:=λb o e=>aal (aan (aJ e) I.ok.above);have neC:∀b o,X.s₀.heap.get? b=aA o→b∉X.ex→b∉ch:=λb o e hx hb=>by
  rcases (hch b hb).1 with z | z
  ·exact hx z
  ·exact absurd (aan (aJ e) z) (abg _)
 have cellK:∀x c,X.env.cells.lookup x=aA c→∀v,s.heap.IsCell c v→h'.IsCell c v:=λx c e v ⟨o,ho,hd⟩=>by
  have nch:c∉ch:=λz=>(hch c z).2.2.1 x c e rfl;by_cases hc:c∈X.fs
  ·obtain ⟨sl,q⟩:=slot c o (I.cne x c e) hc nch ho (I.freeC x c e);exact ⟨_,q,hd⟩
  ·exact ⟨o,keep c o (I.cne x c e) hc nch ho (I.freeC x c e),hd⟩
 refine ⟨I.ok,I.os,hg,⟨λb o e n hb hx=>?_,λb o e n hb hx=>?_,λb o e n hx=>?_,λb o e hx=>?_,λb xs e=>tups b xs (I.base.tups b xs e),λb o xs e=>frzs b o xs (I.base.frzs b o xs e),λb ps e=>?_⟩,?_,λx c e=>?_,?_,λx c e=>?_,λp hp=>?_,hok,I.len⟩
 ·exact keep b o (neL b o e) hb (neC b o e hx) (I.base.keep b o e n hb hx) (I.base.free b o e n hx)
 ·obtain ⟨sl,e1⟩:=I.base.slot b o e n hb hx;obtain ⟨sl',e2⟩:=slot b _ (neL b o e) hb (neC b o e hx) e1 (I.base.free b o e n hx);exact ⟨sl',e2⟩
 ·obtain ⟨o',e1⟩:=I.base.there b o e hx;exact free b o' (neC b o e hx) e1 (I.base.free b o e n hx)
 ·obtain ⟨o',e1⟩:=I.base.there b o e hx;exact there b o' (neC b o e hx) e1
 ·obtain ⟨m1,e1⟩:=I.base.tbls b ps e;obtain ⟨m2,e2⟩:=tbls b _ e1;exact ⟨m1++m2,by rw[e2,Array.append_assoc]⟩
 ·obtain ⟨m,hn,hl⟩:=I.loc;refine ⟨m,ns m hn,λi x v e1 e2 e3=>?_⟩;obtain ⟨u,r,l⟩:=hl i x v e1 e2 e3;refine ⟨u,r,?_⟩;rcases l with l | ⟨k,c,e,z⟩
  ·exact .inl l
  ·exact .inr ⟨k,c,e,cellK x c e _ z⟩
 ·obtain ⟨v,z⟩:=I.cell x c e;exact ⟨v,cellK x c e v z⟩
 ·obtain ⟨m,⟨o,_,_,ho,_⟩,_⟩:=I.loc;exact free _ o (λz=>(hch _ z).2.1 rfl) ho I.free
 ·obtain ⟨v,o,ho,hd⟩:=I.cell x c e;exact free c o (λz=>(hch c z).2.2.1 x c e rfl) ho (I.freeC x c e)
 ·obtain ⟨e,n,ne,nf,d⟩:=I.pin p hp;have nch:p.1∉ch:=λz=>(hch p.1 z).2.2.2 p hp rfl;exact ⟨keep p.1 p.2 ne nf nch e n,free p.1 p.2 nch e n,ne,nf,d⟩
theorem Inv.un {t':Nat} (I:Inv X pins σ H s) (u:Un X.fs [] H H' s.heap h') (hok:HOk X.prog X.w H' h'):Inv X pins σ H' { s with heap:=h',toks:=t' }:=by
 obtain ⟨m,⟨o,es,ep,ho,r⟩,_⟩:=id I.loc;obtain ⟨sl,hL⟩:=u.any ho I.free `b;exact I.step (g':=s.gens) (d':=s.drawn) (ch:=[]) (λ_ z=>nomatch z) (λb o _ hb _ e n=>u.keep b o e n hb `b) (λb o _ hb _ e n=>u.slot b o e n hb `b) (λb o _ e n=>u.free b o e n `b) (λb o _ e=>u.there b o e `b) u.tups u.frzs u.tbls (λm' hm=>by
  obtain ⟨o',es',ep',ho',r'⟩:=hm;rw[ho] at ho';cases ho';exact ⟨_,es',ep',hL,r'⟩) hok I.bare
theorem Inv.call {g':Array lT} {t':Nat} {d':Drawn} {ch:List Addr} (I:Inv X pins σ H s) (u:Un (frs X.stack) ch H H' s.heap h') (hok:HOk X.prog X.w H' h') (hg:gL g')
  (hch:∀b∈ch,(b∈X.ex∨X.s₀.heap.objs.size≤b)∧b≠X.env.locals∧(∀x c,X.env.cells.lookup x=aA c→c≠b)∧∀p∈X.pn++pins,p.1≠b):
  Inv X pins σ H' { s with heap:=h',gens:=g',drawn:=d',toks:=t' }:=by
 obtain ⟨m,⟨o,es,ep,ho,r⟩,_⟩:=id I.loc;obtain ⟨sl,hL⟩:=u.any ho I.free λz=>(hch _ z).2.1 rfl;exact I.step (ch:=ch) hch (λb o hL hb hc e n=>u.keep b o e n (λz=>(List.mem_cons.mp (I.Ci b z)).elim hL hb) hc) (λb o _ _ hc e n=>u.any e n hc) (λb o hc e n=>u.free b o e n hc) (λb o hc e=>u.there b o e hc) u.tups u.frzs u.tbls (λm' hm=>by
  obtain ⟨o',es',ep',ho',r'⟩:=hm;rw[ho] at ho';cases ho';exact ⟨_,es',ep',hL,r'⟩) hok hg
theorem Inv.turned {t':Nat} {it:Addr} (I:Inv X pins σ H s) (k:∀b o,b≠it→s.heap.get? b=aA o→h'.get? b=aA o) (hn:H it=none) (hL:it≠X.env.locals)
  (h1:it∈X.ex∨X.s₀.heap.objs.size≤it) (h2:∀x c,X.env.cells.lookup x=aA c→c≠it) (h3:∀p∈X.pn++pins,p.1≠it):Inv X pins σ H { s with heap:=h',toks:=t' }:=by
 have nit:∀b u,H b=aA u→b≠it:=λb u e z=>by rw[z,hn] at e;cases e
 refine I.step (g':=s.gens) (d':=s.drawn) (ch:=[it]) (λb hb=>?_) (λb o _ _ hc e _=>k b o (λz=>hc (by simp[z])) e) (λb o _ _ hc e _=>⟨o.slots,k b o (λz=>hc (by simp[z])) e⟩) (λ_ _ _ _ n=>n)
  (λb o hc e=>⟨o,k b o (λz=>hc (by simp[z])) e⟩) (λ_ _ e=>e) (λ_ _ _ e=>e) (λb ps e=>⟨#[],by rw[e];simp⟩) (λm hm=>?_) (λb u e=>?_) I.bare
 ·have e:b=it:=by simpa using hb
  subst e;exact ⟨h1,hL,h2,h3⟩
 ·obtain ⟨o,es,ep,ho,r⟩:=hm;exact ⟨o,es,ep,k _ o (cE hL) ho,r⟩
 ·refine (I.hok b u e).Fj (λc v hc q=>k c v ?_ q) (λ_ q=>q) λ_ _ q=>q;rcases hc with z | z
  ·rw[z];exact nit b u e
  ·exact nit c _ z
theorem Inv.tok (I:Inv X pins σ H s) (t:Nat):Inv X pins σ H { s with toks:=t }:=I.un (h':=s.heap) (t':=t) Un.refl I.hok
theorem Inv.kept {t':Nat} (I:Inv X pins σ H s) (k:∀b u,s.heap.get? b=aA u→h'.get? b=aA u):Inv X pins σ H { s with heap:=h',toks:=t' }:=I.un (Un.kept k) (I.hok.kept k)
theorem Inv.laid {a:Addr} {o:HO} {t':Nat} (I:Inv X pins σ H s) (k:∀b u,s.heap.get? b=aA u→h'.get? b=aA u) (hp:s.heap.objs.size≤a) (new:bw X.prog X.w (upd H a o) h' a o):
  Inv X pins σ (upd H a o) { s with heap:=h',toks:=t' }:=I.un (Un.laid k hp (I.hok.fresh hp)) (I.hok.laid k hp new)
theorem Inv.write {x e:Addr} {o:HO} {t':Nat} (I:Inv X pins σ H s) (mu:Mut (H x)) (he:e=x∨H e=aA (.own x)) (k:∀b u,b≠e→s.heap.get? b=aA u→h'.get? b=aA u) (heo:∃u,h'.get? e=aA u)
  (new:bw X.prog X.w (upd H x o) h' x o):Inv X pins σ (upd H x o) { s with heap:=h',toks:=t' }:=I.un (Un.write mu he k heo) (I.hok.write mu he k heo new)
theorem Inv.J6 {pins':List (Addr×Obj)} (I:Inv X pins σ H s) (h:∀p∈pins',s.heap.get? p.1=aA p.2∧H p.1=none∧p.1≠X.env.locals∧p.1∉X.fs∧∀v,p.2.data≠.cell v):Inv X pins' σ H s:=
 ⟨I.ok,I.os,I.bare,I.base,I.loc,I.cell,I.free,I.freeC,λp hp=>(List.mem_append.mp hp).elim (λz=>I.pin p (abe _ z)) (h p),I.hok,I.len⟩
theorem Eh {N:List Str} (hN:N.Nodup) {i j:Nat} {x:Str} (a:N[i]?=aA x) (b:N[j]?=aA x):i=j:=by
 obtain ⟨h1,e1⟩:=List.getElem?_eq_some_iff.mp a;obtain ⟨h2,e2⟩:=List.getElem?_eq_some_iff.mp b;exact (ad5 hN).mp (e1.trans e2.symm)
theorem Aw {M:jQ} {A:bE} {E:Value→aE→Prop} {i:Nat} {x:Str} {v:V} {u:Value} {Q:Unit→aE→Prop} (I:Inv X pins σ H s) (hN:X.N.Nodup) (hi:X.N[i]?=aA x) (hx:Loc X.env.scope x) (r:RelV v u)
  (h:∀s',Inv X pins (σ.set i (aA v)) H s'→(∃a,bF a s.heap s'.heap∧(a=X.env.locals∨X.env.cells.lookup x=aA a))→Q () s') (hf:X.fn x=true∨X.env.scope.names.lookup x=aA .local:=by first | exact .inl rfl | exact .inr rfl | assumption):aH M A (storeName X.env x u) Q E s:=by
 obtain ⟨m,hn,hl⟩:=id I.loc;have hcls:(X.env.scope.kind==.class||(X.env.scope.kind==.module&&X.env.locals !=X.env.globals))=false:=by rw[I.ok.kind];rfl
 have hiσ:i < σ.length:=by rw[I.len];exact (List.getElem?_eq_some_iff.mp hi).1
 have cne:=I.cne;have tracked:∀{a:Addr} {h':Heap},(∃o,s.heap.get? a=aA o∧H a=none)→bF a s.heap h'→HOk X.prog X.w H h':=λ{a h'} ha hs b ob e=>by
  obtain ⟨_,_,hfree⟩:=ha;refine (I.hok b ob e).Fj (λc w' hc q=>(hs.2 c ?_).trans q) (λ_ q=>q) λ_ _ q=>q;rintro rfl;rcases hc with rfl | hc
  ·rw[hfree] at e;cases e
  ·rw[hfree] at hc;cases hc
 rcases hx with hk | hk
 ·refine wpAny_storeName_local hk hn (λh' hn' hs=>?_) hcls;obtain ⟨oL,_,_,hoL,_⟩:=id hn;refine h _ ⟨I.ok,I.os,I.bare,⟨λb o e n hb hx=>?_,λb o e n hb hx=>?_,I.base.free,λb o e hx=>?_,I.base.tups,I.base.frzs,I.base.tbls⟩,⟨_,hn',λj y v' e1 e2 e3=>?_⟩,λy c e=>?_,I.free,I.freeC,λp hp=>?_,tracked ⟨oL,hoL,I.free⟩ hs,by simpa using I.len⟩ ⟨_,hs,.inl rfl⟩
  ·exact (hs.2 b (aal (aan (aJ e) I.ok.above))).trans (I.base.keep b o e n hb hx)
  ·obtain ⟨sl,e1⟩:=I.base.slot b o e n hb hx;exact ⟨sl,(hs.2 b (aal (aan (aJ e) I.ok.above))).trans e1⟩
  ·obtain ⟨o',e1⟩:=I.base.there b o e hx;exact ⟨o',(hs.2 b (aal (aan (aJ e) I.ok.above))).trans e1⟩
  ·by_cases hj:j=i
   ·subst hj;rw[hi] at e1;cases e1;rw[ae1 hiσ] at e2;cases e2
    exact ⟨u,r,.inl ⟨hk,by simp⟩⟩
   ·rw[ae4 (cE hj)] at e2;obtain ⟨u',r',q⟩:=hl j y v' e1 e2 e3;refine ⟨u',r',?_⟩;rcases q with ⟨k,e⟩ | ⟨k,c,e,z⟩
    ·refine .inl ⟨k,?_⟩;have:y≠x:=λe=>hj (Eh hN e1 (e ▸ hi));simp[this,e]
    ·exact .inr ⟨k,c,e,z.sameBut hs (cne y c e)⟩
  ·obtain ⟨w',z⟩:=I.cell y c e;exact ⟨w',z.sameBut hs (cne y c e)⟩
  ·obtain ⟨e,n,ne,nf,d⟩:=I.pin p hp;exact ⟨(hs.2 p.1 ne).trans e,n,ne,nf,d⟩
 ·have hfn:X.fn x=true:=by
   rcases hf with z | z
   ·exact z
   ·rw[z] at hk;cases hk
  obtain ⟨c,hc⟩:=I.ok.has x (.inl hk);obtain ⟨w',z⟩:=I.cell x c hc;refine wpAny_storeName_cell I.ok.kind hk hc z (λh' hc' hs=>?_);obtain ⟨oc,hoc,hocd⟩:=id z;refine h { s with heap:=h' } ⟨I.ok,I.os,I.bare,⟨λb o e n hb hx=>?_,λb o e n hb hx=>?_,I.base.free,λb o e hx=>?_,I.base.tups,I.base.frzs,I.base.tbls⟩,⟨m,hn.sameBut hs (cE (cne x c hc)),λj y v' e1 e2 e3=>?_⟩,λy c' e=>?_,I.free,I.freeC,λp hp=>?_,tracked ⟨oc,hoc,I.freeC x c hc⟩ hs,by simpa using I.len⟩ ⟨c,hs,.inr hc⟩
  ·exact (hs.2 b (aal (aan (aJ e) (I.ok.cab x c hfn hc)))).trans (I.base.keep b o e n hb hx)
  ·obtain ⟨sl,e1⟩:=I.base.slot b o e n hb hx;exact ⟨sl,(hs.2 b (aal (aan (aJ e) (I.ok.cab x c hfn hc)))).trans e1⟩
  ·obtain ⟨o',e1⟩:=I.base.there b o e hx;exact ⟨o',(hs.2 b (aal (aan (aJ e) (I.ok.cab x c hfn hc)))).trans e1⟩
  ·by_cases hj:j=i
   ·subst hj;rw[hi] at e1;cases e1;rw[ae1 hiσ] at e2;cases e2
    exact ⟨u,r,.inr ⟨.inl hk,c,hc,hc'⟩⟩
   ·rw[ae4 (cE hj)] at e2;obtain ⟨u',r',q⟩:=hl j y v' e1 e2 e3;refine ⟨u',r',?_⟩;rcases q with q | ⟨k,c',e,z'⟩
    ·exact .inl q
    ·refine .inr ⟨k,c',e,z'.sameBut hs ?_⟩;rintro rfl;exact hj (Eh hN e1 (I.ok.inj _ _ _ e hc ▸ hi))
  ·by_cases hcc:c'=c
   ·subst hcc;exact ⟨_,hc'⟩
   ·obtain ⟨w2,z2⟩:=I.cell y c' e;exact ⟨w2,z2.sameBut hs hcc⟩
  ·obtain ⟨e,n,ne,nf,d⟩:=I.pin p hp;refine ⟨(hs.2 p.1 ?_).trans e,n,ne,nf,d⟩;intro q;rw[q,hoc] at e;have q':oc=p.2:=aa7 e;exact d w' (by rw[←q'];exact hocd)
theorem Gh {M:jQ} {A:bE} {E:Value→aE→Prop} {i:Nat} {x:Str} {v:V} {u:Value} {Q:Unit→aE→Prop} (I:Inv X pins σ H s) (hN:X.N.Nodup) (hi:X.N[i]?=aA x) (hx:Loc X.env.scope x) (r:RelV v u)
  (h:∀s',Inv X pins (σ.set i (aA v)) H s'→Q () s') (hf:X.fn x=true∨X.env.scope.names.lookup x=aA .local:=by first | exact .inl rfl | exact .inr rfl | assumption):aH M A (storeName X.env x u) Q E s:=
 Aw I hN hi hx r (λs' I' _=>h s' I') hf
theorem Inv.N5 {s':aE} {ch:List Addr} (I:Inv X pins σ H s) (ho:s'.os=s.os) (u:Un (frs X.stack) ch H H' s.heap s'.heap) (hok:HOk X.prog X.w H' s'.heap) (hg:gL s'.gens)
  (hch:∀b∈ch,(b∈X.ex∨X.s₀.heap.objs.size≤b)∧b≠X.env.locals∧(∀x c,X.env.cells.lookup x=aA c→c≠b)∧∀p∈X.pn++pins,p.1≠b):Inv X pins σ H' s':=by
 obtain ⟨h',g',d',t',o'⟩:=s';have e:o'=s.os:=ho;subst e;exact I.call (g':=g') (t':=t') (d':=d') u hok hg hch
end
abbrev XK:=Value→Option Addr→Hp→Prop
abbrev St:=List (Option V)
abbrev VK:=V→Hp→Prop
abbrev TE:=St→Hp→VK→Prop
abbrev TT:=St→Hp→(Bool→Hp→Prop)→Prop
abbrev TA:=St→Hp→(List V→Hp→Prop)→Prop
structure Ends where
 nx:St→Hp→Prop
 rt:VK
 bk:St→Hp→Prop:=λ_ _=>False
 ct:St→Hp→Prop:=λ_ _=>False
abbrev TS:=Ends→St→Hp→Prop
def EP (X:Cx) (pins:List (Addr×Obj)) (σ:St) (Q:VK) (u:Value) (s':aE):Prop:=∃v H',Inv X pins σ H' s'∧RelV v u∧Q v H'
def TP (X:Cx) (pins:List (Addr×Obj)) (σ:St) (Q:Bool→Hp→Prop) (b:Bool) (s':aE):Prop:=∃H',Inv X pins σ H' s'∧Q b H'
def AP (X:Cx) (pins:List (Addr×Obj)) (σ:St) (Q:List V→Hp→Prop) (us:List Value) (s':aE):Prop:=∃vs H',Inv X pins σ H' s'∧Vals vs us∧Q vs H'
def SP (X:Cx) (pins:List (Addr×Obj)) (D:Ends) (f:Flow) (s':aE):Prop:=
 match f with
 | .next=>∃σ' H',Inv X pins σ' H' s'∧D.nx σ' H'
 | .brk=>∃σ' H',Inv X pins σ' H' s'∧D.bk σ' H'
 | .cont=>∃σ' H',Inv X pins σ' H' s'∧D.ct σ' H'
 | .ret u=>∃v σ' H',Inv X pins σ' H' s'∧RelV v u∧D.rt v H'
def PE (X:Cx) (e:Expr) (t:TE):Prop:=
 ∀(pins:List (Addr×Obj)) (s:aE) (σ:St) (H:Hp) (Q:VK),Inv X pins σ H s→t σ H Q→aH `d X.A (eval e X.env) `ax X.xe s
def PT (X:Cx) (e:Expr) (t:TT):Prop:=
 ∀(pins:List (Addr×Obj)) (s:aE) (σ:St) (H:Hp) (Q:Bool→Hp→Prop),Inv X pins σ H s→t σ H Q→aH `d X.A (mT e X.env (eval e X.env)) (TP X pins σ Q) X.xe s
def PW (X:Cx) (e:Expr) (t:TT):Prop:=
 ∀(whole:Sem Value) (pins:List (Addr×Obj)) (s:aE) (σ:St) (H:Hp) (Q:Bool→Hp→Prop),Inv X pins σ H s→t σ H Q→aH `d X.A (mT e X.env whole) (TP X pins σ Q) X.xe s
theorem PW.pt {X:Cx} {e:Expr} {t:TT} (h:PW X e t):PT X e t:=h _
def PA (X:Cx) (es:List Expr) (t:TA):Prop:=
 ∀(pos:Pos) (pins:List (Addr×Obj)) (s:aE) (σ:St) (H:Hp) (Q:List V→Hp→Prop),Inv X pins σ H s→t σ H Q→aH `d X.A (kU (cF pos (aZ es X.env))) (AP X pins σ Q) X.xe s
def PS (X:Cx) (st:Stmt) (t:TS):Prop:=
 ∀(pins:List (Addr×Obj)) (s:aE) (σ:St) (H:Hp) (D:Ends),Inv X pins σ H s→t D σ H→aH `d X.A (exec st X.env) (SP X pins D) X.xe s
def PSs (X:Cx) (st:List Stmt) (t:TS):Prop:=
 ∀(pins:List (Addr×Obj)) (s:aE) (σ:St) (H:Hp) (D:Ends),Inv X pins σ H s→t D σ H→aH `d X.A (execs st X.env) (SP X pins D) X.xe s
theorem thn {α:Type} {t:Sem α} {Q Q':α→aE→Prop} {M:jQ} {A:bE} {E:Value→aE→Prop} {s:aE} (h:aH M A t Q E s) (hQ:∀a s,Q a s→Q' a s):aH M A t Q' E s:=bG h hQ λ_ _ x=>x
section
variable {X:Cx}
def tVar (i:Nat):TE:=λσ H Q=>∃v,σ[i]?=aA (aA v)∧Q v H
def tC (v:V):TE:=λ_ H Q=>Q v H
theorem pe_var {i:Nat} {x:Str} {pos:Pos} (hN:X.N[i]?=aA x) (hv:Vis X.env.scope x) (hd:(x==("__debug__":Str))=false:=by decide) (hcd:(x==("__classdict__":Str))=false:=by decide):PE X (.Name x pos) (tVar i):=by
 intro pins s σ H Q I h;obtain ⟨v,e,h⟩:=h;obtain ⟨m,hn,hl⟩:=I.loc;obtain ⟨u,r,l⟩:=hl i x v hN e hv;have fin:EP X pins σ Q u s:=⟨v,H,I,r,h⟩;rcases l with ⟨hk,hm⟩ | ⟨hk,c,hc,hcell⟩
 ·exact nY (wpAny_loadName_local I.ok.kind hk hn hm fin) hd
 ·rcases hk with hk | hk
  ·exact nY (wpAny_loadName_cell I.ok.kind hk hc hcell fin) hd
  ·exact nY (wpAny_loadName_free I.ok.kind hk hc hcell fin hcd) hd
theorem N1 {i j pos}:PE X (.Constant (.int i) j pos) (tC (.int i)):=λ_ _ _ H _ I h=>mU ⟨.int i,H,I.tok _,⟨_,rfl⟩,h⟩
theorem pe_bl {b j pos}:PE X (.Constant (.bool b) j pos) (tC (.bl b)):=λ_ _ _ H _ I h=>Constant_bool ⟨.bl b,H,I,rfl,h⟩
theorem He {j pos}:PE X (.Constant .none j pos) (tC .non):=λ_ _ _ H _ I h=>mE ⟨.non,H,I,rfl,h⟩
theorem Ox {x j pos}:PE X (.Constant (.str x) j pos) (tC (.str x)):=λ_ _ _ H _ I h=>iM ⟨.str x,H,I.tok _,⟨_,rfl⟩,h⟩
def Gl (X:Cx) (x:Str):Prop:=X.env.kindOf x=aA .globalImplicit
theorem Cb {E:Value→aE→Prop} {pins:List (Addr×Obj)} {s:aE} {σ:St} {H:Hp} {x:Str} {u:Value} {pos:Pos} {Q:Value→aE→Prop} (I:Inv X pins σ H s) (hg:Gl X x) (hm:X.mg x=aA u) (h:Q u s)
  (hd:(x==("__debug__":Str))=false:=by decide):aH `d X.A (eval (.Name x pos) X.env) Q E s:=
 iS I.ok.kind hg (Calls.loadGlobal_global (by rw[I.ok.glob];exact I.mod.glob.keeps I.bk) hm h) hd
theorem gb {E:Value→aE→Prop} {pins:List (Addr×Obj)} {s:aE} {σ:St} {H:Hp} {x:Str} {u:Value} {pos:Pos} {Q:Value→aE→Prop} (I:Inv X pins σ H s) (hg:Gl X x) (hm:X.mg x=none) (hv:bM x=aA u) (h:Q u s)
  (hn:x≠"__name__":=by decide) (hd:(x==("__debug__":Str))=false:=by decide):aH `d X.A (eval (.Name x pos) X.env) Q E s:=by
 obtain ⟨mb,h1,h2⟩:=I.mod.blt;exact iS I.ok.kind hg (Calls.loadGlobal_builtin (by rw[I.ok.glob];exact I.mod.glob.keeps I.bk) hm (by rw[I.ok.blt];exact h1.keeps I.bk) ((h2 x hn).trans hv) h) hd
theorem Tp {x:Str} {v:V} {u:Value} {pos:Pos} (hg:Gl X x) (hm:X.mg x=aA u) (r:RelV v u) (hd:(x==("__debug__":Str))=false:=by decide):PE X (.Name x pos) (tC v):=
 λ_ _ _ H _ I h=>Cb I hg hm ⟨v,H,I,r,h⟩ hd
theorem Uu {x:Str} {v:V} {u:Value} {pos:Pos} (hg:Gl X x) (hm:X.mg x=none) (hv:bM x=aA u) (r:RelV v u) (hn:x≠"__name__":=by decide) (hd:(x==("__debug__":Str))=false:=by decide):PE X (.Name x pos) (tC v):=
 λ_ _ _ H _ I h=>gb I hg hm hv ⟨v,H,I,r,h⟩ hn hd
variable {a b:Expr} {ta tb:TE} {pos:Pos}
def PC (X:Cx) (op:jR) (a b:Expr) (t:TE):Prop:=
 ∀(pins:List (Addr×Obj)) (s:aE) (σ:St) (H:Hp) (Q:VK),Inv X pins σ H s→t σ H Q→
  aH `d X.A (eval a X.env) (λv s₁=>aH `d X.A (eval b X.env) (λu s₂=>aH `d X.A (cI op v u) `ax X.xe s₂) X.xe s₁) X.xe s
theorem gk (b:Expr) {op:jR} (h:op≠.In) (h2:op≠.NotIn):cY op b=false:=by
 have e1:(op==CmpOp.In)=false:=by cases op <;> first | rfl | exact absurd rfl h
 have e2:(op==CmpOp.NotIn)=false:=by cases op <;> first | rfl | exact absurd rfl h2
 cases b <;> simp[cY,e1,e2]
def tIsN (ta:TE):TE:=λσ H Q=>ta σ H λx H1=>Q (.bl (decide (x=.non))) H1
def Gp (ta:TE):TE:=λσ H Q=>ta σ H λx H1=>Q (.bl (!decide (x=.non))) H1
theorem RelV.Gw {x:V} {v:Value} (r:RelV x v):(v==bV)=decide (x=.non):=by
 cases x with
 | non=>cases r;rfl
 | bl _=>cases r;rfl
 | int _=>obtain ⟨t,rfl⟩:=r;rfl
 | str _=>obtain ⟨t,rfl⟩:=r;rfl
 | byt _=>obtain ⟨t,rfl⟩:=r;rfl
 | flt _=>obtain ⟨t,rfl⟩:=r;rfl
 | ref _=>cases r;rfl
 | ty _=>cases r;rfl
theorem pc_isN {j pos'} (ha:PE X a ta):PC X .Is a (.Constant .none j pos') (tIsN ta):=by
 intro pins s σ H Q I h;refine thn `ag λv s1 ⟨x,H1,I1,r1,q1⟩=>?_;exact mE (is_none_gen ⟨.bl _,H1,I1,by rw[r1.Gw];rfl,q1⟩)
theorem Jj {j pos'} (ha:PE X a ta):PC X .IsNot a (.Constant .none j pos') (Gp ta):=by
 intro pins s σ H Q I h;refine thn `ag λv s1 ⟨x,H1,I1,r1,q1⟩=>?_;exact mE (isnot_none_gen ⟨.bl _,H1,I1,by rw[r1.Gw];rfl,q1⟩)
def tB (t:TE):TT:=λσ H Q=>t σ H λx H1=>∃c,x=.bl c∧Q c H1
theorem pe_cmp {op:jR} {t:TE} (h:PC X op a b t) (h1:cY op b=false:=by first | exact gk _ (by decide) (by decide) | rfl):PE X (.Compare a [op] [b] pos) t:=λpins s σ H Q I hw=>wpAny_Compare1 (h pins s σ H Q I hw) h1
theorem pt_cmp {op:jR} {t:TE} (h:PC X op a b t) (h1:cY op b=false:=by first | exact gk _ `a `a | rfl):PT X (.Compare a [op] [b] pos) (tB t):=by
 intro pins s σ H Q I hw;refine kW (thn (h pins s σ H _ I hw) λv s1 h1=>thn h1 λu s2 h2=>thn h2 λc s3 ⟨x,H1,I1,r1,q1⟩=>?_) h1;obtain ⟨d,rfl,q⟩:=q1;cases r1
 exact dI ⟨H1,I1,q⟩
theorem pt_val {e:Expr} {t:TE} (h:PE X e t) (he:∀whole,mT e X.env whole=(do let v ←whole;standAt e.pos;kX [v] (truthy v)):=by intro _;rfl):PT X e (tB t):=by
 intro pins s σ H Q I hw;refine isTrue_plain (thn (h pins s σ H _ I hw) λv s1 ⟨x,H1,I1,r1,q1⟩=>?_) (he _);obtain ⟨d,rfl,q⟩:=q1;cases r1
 exact dI ⟨H1,I1,q⟩
variable {tA tB':TT} {rest:List Expr}
def tAnd (t u:TT):TT:=λσ H Q=>t σ H λc H1=>if c=true then u σ H1 Q else Q false H1
def tOr (t u:TT):TT:=λσ H Q=>t σ H λc H1=>if c=true then Q true H1 else u σ H1 Q
def tNot (t:TT):TT:=λσ H Q=>t σ H λc H1=>Q (!c) H1
theorem wx (ha:PT X a tA):PW X (.BoolOp .And [a] pos) tA:=by
 intro wh pins s σ H Q I h;refine isTrue_and (thn (ha pins s σ H Q I h) λc s1 e=>?_);cases c with
 | true=>exact isTrue_and_nil e
 | false=>exact e
theorem pw_or1 (ha:PT X a tA):PW X (.BoolOp .Or [a] pos) tA:=by
 intro wh pins s σ H Q I h;refine isTrue_or (thn (ha pins s σ H Q I h) λc s1 e=>?_);cases c with
 | false=>exact isTrue_or_nil e
 | true=>exact e
theorem pw_and (ha:PT X a tA) (hb:PW X (.BoolOp .And (b::rest) pos) tB'):PW X (.BoolOp .And (a::b::rest) pos) (tAnd tA tB'):=by
 intro wh pins s σ H Q I h;refine isTrue_and (thn `ag λc s1 ⟨H1,I1,q1⟩=>?_);cases c with
 | true=>exact hb wh pins s1 σ H1 Q I1 q1
 | false=>exact ⟨H1,I1,q1⟩
theorem pw_or (ha:PT X a tA) (hb:PW X (.BoolOp .Or (b::rest) pos) tB'):PW X (.BoolOp .Or (a::b::rest) pos) (tOr tA tB'):=by
 intro wh pins s σ H Q I h;refine isTrue_or (thn `ag λc s1 ⟨H1,I1,q1⟩=>?_);cases c with
 | true=>exact ⟨H1,I1,q1⟩
 | false=>exact hb wh pins s1 σ H1 Q I1 q1
theorem pt_not (ha:PT X a tA):PT X (.UnaryOp .Not a pos) (tNot tA):=by
 intro pins s σ H Q I h;exact isTrue_not (ha pins s σ H (λc H1=>Q (!c) H1) I h)
def tAndV (ta tb:TE):TE:=λσ H Q=>ta σ H λx H1=>∃c,x=.bl c∧if c=true then tb σ H1 Q else Q (.bl false) H1
def tOrV (ta tb:TE):TE:=λσ H Q=>ta σ H λx H1=>∃c,x=.bl c∧if c=true then Q (.bl true) H1 else tb σ H1 Q
def tNotV (ta:TE):TE:=λσ H Q=>ta σ H λx H1=>∃c,x=.bl c∧Q (.bl (!c)) H1
theorem Pm {op} {t:TE} (h:PE X a t):PE X (.BoolOp op [a] pos) t:=λpins s σ H Q I hw=>BoolOp_one (h pins s σ H Q I hw)
theorem Hl (ha:PE X a ta) (hb:PE X (.BoolOp .And (b::rest) pos) tb):PE X (.BoolOp .And (a::b::rest) pos) (tAndV ta tb):=by
 intro pins s σ H Q I h;refine BoolOp_and (thn `ag λv s1 ⟨x,H1,I1,r1,q1⟩=>?_);obtain ⟨c,rfl,q1⟩:=q1;cases r1
 refine dI ?_;cases c with
 | true=>exact hb pins s1 σ H1 Q I1 q1
 | false=>exact ⟨.bl false,H1,I1,rfl,q1⟩
theorem Pk (ha:PE X a ta):PE X (.UnaryOp .Not a pos) (tNotV ta):=by
 intro pins s σ H Q I h;refine UnaryOp_ (thn `ag λv s1 ⟨x,H1,I1,r1,q1⟩=>?_);obtain ⟨c,rfl,q1⟩:=q1;cases r1
 exact not_of (dI ⟨.bl (!c),H1,I1,rfl,q1⟩)
def tIf (t:TT) (ta tb:TE):TE:=λσ H Q=>t σ H λc H1=>if c=true then ta σ H1 Q else tb σ H1 Q
theorem Qo {c:Expr} (hc:PT X c tA) (ha:PE X a ta) (hb:PE X b tb):PE X (.IfExp c a b pos) (tIf tA ta tb):=by
 intro pins s σ H Q I h;refine wpAny_IfExp (thn (hc pins s σ H _ I h) λd s1 ⟨H1,I1,q1⟩=>?_);cases d with
 | true=>exact ha pins s1 σ H1 Q I1 q1
 | false=>exact hb pins s1 σ H1 Q I1 q1
end
def SqL (K:aF) (H:Hp) (a:Addr) (xs:List V):Prop:=
 Rd H a `U∨
  ∃(o:Obj) (its:Array Value) (n:Nat),K.lookup a=aA o∧o.cls=.type "list"∧o.dict=none∧o.data=.seq its n∧its.size≤sizeLine∧Vals xs its.toList
def SqT (K:aF) (H:Hp) (a:Addr) (xs:List V):Prop:=
 Rd H a `aU∨
  ∃(o:Obj) (its:Array Value) (n:Nat),K.lookup a=aA o∧o.cls=.type "tuple"∧o.data=.seq its n∧its.size≤sizeLine∧Vals xs its.toList
noncomputable def absV:Value→Option V
 | .none=>aA .non
 | .bool b=>aA (.bl b)
 | .int i _=>aA (.int i)
 | .str x _=>aA (.str x)
 | .bytes b _=>aA (.byt b)
 | .float b _=>aA (.flt b)
 | .ref a=>aA `r
 | .type n=>aA (.ty n)
 | _=>none
theorem RelV.abs {x:V} {u:Value} (r:RelV x u):absV u=aA x:=by
 cases x with
 | non=>cases r;rfl
 | bl _=>cases r;rfl
 | int _=>obtain ⟨t,rfl⟩:=r;rfl
 | str _=>obtain ⟨t,rfl⟩:=r;rfl
 | byt _=>obtain ⟨t,rfl⟩:=r;rfl
 | flt _=>obtain ⟨t,rfl⟩:=r;rfl
 | ref _=>cases r;rfl
 | ty _=>cases r;rfl
theorem RelV.inj {x y:V} {u:Value} (r:RelV x u) (q:RelV y u):x=y:=aa7 (r.abs.symm.trans q.abs)
theorem Vals.inj:∀{xs ys:List V} {us:List Value},Vals xs us→Vals ys us→xs=ys
 | _,_,_,.nil,.nil=>rfl
 | _,_,_,.cons r t,.cons r' t'=>by rw[r.inj r',Vals.inj t t']
section
variable {X:Cx} {pins:List (Addr×Obj)} {σ:St} {H:Hp} {s:aE} {a:Addr} {xs ys:List V}
theorem SqL.of {K:aF} (h:H a=aA `U):SqL K H a xs:=.inl (.inl h)
theorem SqT.of {K:aF} (h:H a=aA `aU):SqT K H a xs:=.inl (.inl h)
theorem Inv.list (I:Inv X pins σ H s) (h:SqL X.K H a xs):∃its:List Value,Vals xs its∧PlainL s.heap a its.toArray∧xs.length≤sizeLine:=by
 rcases h with h | ⟨o,its,n,hk,hc,hd,hs,hz,r⟩
 ·obtain ⟨z,its,n,r,e⟩:=h.ok I.hok;exact ⟨its,r,⟨_,n,e,rfl,rfl,rfl⟩,z⟩
 ·refine ⟨its.toList,r,⟨o,n,I.kIn a o hk,hc,hd,by simpa using hs⟩,?_⟩;have e:=r.length;simp only[abf] at e;omega
theorem Inv.tuple (I:Inv X pins σ H s) (h:SqT X.K H a xs):∃its:List Value,Vals xs its∧lS s.heap a its.toArray∧xs.length≤sizeLine:=by
 rcases h with h | ⟨o,its,n,hk,hc,hs,hz,r⟩
 ·obtain ⟨z,its,r,p⟩:=h.ok I.hok;exact ⟨its,r,p.tup,z⟩
 ·refine ⟨its.toList,r,⟨o,I.kIn a o hk,hc,n,by simpa using hs⟩,?_⟩;have e:=r.length;simp only[abf] at e;omega
theorem Inv.sf (I:Inv X pins σ H s) (h:SqL X.K H a xs) (h':SqL X.K H a ys):xs=ys:=by
 obtain ⟨its,r,⟨o,n,e,_,_,d⟩,_⟩:=I.list h;obtain ⟨its',r',⟨o',n',e',_,_,d'⟩,_⟩:=I.list h';rw[e] at e';cases e';rw[d] at d';injection d' with d1 _
 have:its=its':=by simpa using congrArg Array.toList d1
 subst this;exact r.inj r'
theorem Inv.om (I:Inv X pins σ H s) (h:SqT X.K H a xs) (h':SqT X.K H a ys):xs=ys:=by
 obtain ⟨its,r,⟨o,e,_,n,d⟩,_⟩:=I.tuple h;obtain ⟨its',r',⟨o',e',_,n',d'⟩,_⟩:=I.tuple h';rw[e] at e';cases e';rw[d] at d';injection d' with d1 _
 have:its=its':=by simpa using congrArg Array.toList d1
 subst this;exact r.inj r'
end
noncomputable abbrev Cx.wa (X:Cx) (E:Value→aE→Prop):Cx:={ X with xe:=E }
noncomputable abbrev Cx.nox (X:Cx):Cx:=X.wa λ_ _=>False
theorem Cx.Ok.wa {X:Cx} (ok:X.Ok) (E:Value→aE→Prop):(X.wa E).Ok:=
 ⟨ok.mod,ok.kind,ok.glob,ok.blt,ok.above,ok.inj,ok.has,ok.cab,ok.hd,ok.frames,ok.stk,ok.exf,ok.bs,ok.bsz,ok.noex,ok.exfs,ok.uz,ok.frf⟩
theorem Cx.Ok.ib {X:Cx} {E:Value→aE→Prop} (ok:(X.wa E).Ok):X.Ok:=
 ⟨ok.mod,ok.kind,ok.glob,ok.blt,ok.above,ok.inj,ok.has,ok.cab,ok.hd,ok.frames,ok.stk,ok.exf,ok.bs,ok.bsz,ok.noex,ok.exfs,ok.uz,ok.frf⟩
section
variable {X:Cx} {pins:List (Addr×Obj)} {σ:St} {H:Hp} {s:aE} {E:Value→aE→Prop}
theorem Inv.wa (I:Inv X pins σ H s) (E:Value→aE→Prop):Inv (X.wa E) pins σ H s:=⟨I.ok.wa E,I.os,I.bare,I.base,I.loc,I.cell,I.free,I.freeC,I.pin,I.hok,I.len⟩
theorem Inv.ib (I:Inv (X.wa E) pins σ H s):Inv X pins σ H s:=⟨I.ok.ib,I.os,I.bare,I.base,I.loc,I.cell,I.free,I.freeC,I.pin,I.hok,I.len⟩
theorem SP.ib {D:Ends} {f:Flow} {s':aE} (h:SP (X.wa E) pins D f s'):SP X pins D f s':=by
 cases f with
 | next=>obtain ⟨σ',H',I,q⟩:=h;exact ⟨σ',H',I.ib,q⟩
 | brk=>obtain ⟨σ',H',I,q⟩:=h;exact ⟨σ',H',I.ib,q⟩
 | cont=>obtain ⟨σ',H',I,q⟩:=h;exact ⟨σ',H',I.ib,q⟩
 | ret u=>obtain ⟨v,σ',H',I,r,q⟩:=h;exact ⟨v,σ',H',I.ib,r,q⟩
theorem PSs.nox {st:List Stmt} {t:TS} (h:PSs X.nox st t):PSs X st t:=λpins s σ H D I hw=>
 bG (h pins s σ H D (I.wa _) hw) (λ_ _ q=>q.ib) λ_ _ z=>False.elim z
end
section
variable {X:Cx} {st:Stmt} {rest:List Stmt} {t u:TS} {e:Expr} {te:TE} {pos:Pos}
def tNext:TS:=λD σ H=>D.nx σ H
def tSeq (t u:TS):TS:=λD σ H=>t { D with nx:=u D } σ H
theorem Tc:PSs X [] tNext:=λ_ _ σ H _ I h=>iC ⟨σ,H,I,h⟩
theorem Pt (h1:PS X st t) (h2:PSs X rest u):PSs X (st::rest) (tSeq t u):=by
 intro pins s σ H D I h;refine jF (thn (h1 pins s σ H { D with nx:=u D } I h) λf s1 q=>?_);cases f with
 | next=>
  obtain ⟨σ',H',I',q⟩:=q;exact h2 pins s1 σ' H' D I' q
 | ret v=>exact q
 | brk=>exact q
 | cont=>exact q
theorem Vb (h1:PS X st t):PSs X [st] t:=by
 intro pins s σ H D I h;refine jF (thn (h1 pins s σ H D I h) λf s1 q=>?_);cases f with
 | next=>exact iC q
 | ret v=>exact q
 | brk=>exact q
 | cont=>exact q
def tCont:TS:=λD σ H=>D.ct σ H
theorem E5:PS X (.Continue pos) tCont:=λ_ _ σ H _ I h=>wpAny_Continue ⟨σ,H,I,h⟩
theorem Inv.quiet {pins:List (Addr×Obj)} {σ:St} {H:Hp} {s:aE} (I:Inv X pins σ H s):interactive X.env=false:=by simp[interactive,I.ok.kind]
def tDrop (te:TE):TS:=λD σ H=>te σ H λ_ H1=>D.nx σ H1
theorem R0 (he:PE X e te) (hs:mV e none pos.line X.env=pure false:=by rfl):PS X (.Expr e pos) (tDrop te):=by
 intro pins s σ H D I h;exact wpAny_Expr_any (thn (he pins s σ H _ I h) λv s1 ⟨x,H1,I1,r1,q1⟩=>⟨σ,H1,I1,q1⟩) I.quiet hs
def tRet (te:TE):TS:=λD σ H=>te σ H D.rt
theorem ps_ret (he:PE X e te):PS X (.Return (aA e) pos) (tRet te):=by
 intro pins s σ H D I h;exact wpAny_Return_some (thn (he pins s σ H _ I h) λv s1 ⟨x,H1,I1,r1,q1⟩=>⟨x,σ,H1,I1,r1,q1⟩)
def tRetN:TS:=λD _ H=>D.rt .non H
def tIfS (c:TT) (t u:TS):TS:=λD σ H=>c σ H λb H1=>if b=true then t D σ H1 else u D σ H1
theorem ps_if {c:Expr} {a b:List Stmt} {tc:TT} (hc:PT X c tc) (ha:PSs X a t) (hb:PSs X b u):PS X (.If c a b pos) (tIfS tc t u):=by
 intro pins s σ H D I h;refine wpAny_If (thn (hc pins s σ H _ I h) λd s1 ⟨H1,I1,q1⟩=>?_);cases d with
 | true=>exact ha pins s1 σ H1 D I1 q1
 | false=>exact hb pins s1 σ H1 D I1 q1
end
abbrev TG:=V→St→Hp→(St→Hp→Prop)→Prop
abbrev TGs:=List V→St→Hp→(St→Hp→Prop)→Prop
def PG (X:Cx) (target:Expr) (t:TG):Prop:=
 ∀(pins:List (Addr×Obj)) (s:aE) (σ:St) (H:Hp) (v:V) (u:Value) (Q:St→Hp→Prop),Inv X pins σ H s→RelV v u→t v σ H Q→
  aH `d X.A (iN target X.env u) (λ_ s'=>∃σ' H',Inv X pins σ' H' s'∧Q σ' H') X.xe s
def PGs (X:Cx) (ts:List Expr) (t:TGs):Prop:=
 ∀(pins:List (Addr×Obj)) (s:aE) (σ:St) (H:Hp) (vs:List V) (us:List Value) (Q:St→Hp→Prop),Inv X pins σ H s→Vals vs us→t vs σ H Q→
  aH `d X.A (assignInOrder ((iD ts X.env).map (·.2)) us) (λ_ s'=>∃σ' H',Inv X pins σ' H' s'∧Q σ' H') X.xe s
abbrev TSet:=V→V→V→Hp→(Hp→Prop)→Prop
def PSet (X:Cx) (t:TSet):Prop:=
 ∀(pins:List (Addr×Obj)) (s:aE) (σ:St) (H:Hp) (o i v:V) (ov iv u:Value) (Q:Hp→Prop),Inv X pins σ H s→RelV o ov→RelV i iv→RelV v u→t o i v H Q→
  aH `d X.A (setItem ov iv u) (λ_ s'=>∃H',Inv X pins σ H' s'∧Q H') X.xe s
section
variable {X:Cx} {pos:Pos}
def i5 (i:Nat):TG:=λv σ H Q=>Q (σ.set i (aA v)) H
theorem Dq {i:Nat} {x:Str} (hN:X.N.Nodup) (hi:X.N[i]?=aA x) (hx:Loc X.env.scope x) (hf:X.fn x=true∨X.env.scope.names.lookup x=aA .local:=by first | exact .inl rfl | exact .inr rfl | assumption):PG X (.Name x pos) (i5 i):=by
 intro pins s σ H v u Q I r h;exact nL (Gh I hN hi hx r (λs' I'=>⟨_,H,I',h⟩) hf)
def gNil:TGs:=λvs σ H Q=>vs=[]∧Q σ H
def yw (t:TG) (u:TGs):TGs:=λvs σ H Q=>∃v r,vs=v::r∧t v σ H λσ' H'=>u r σ' H' Q
theorem Uq:PGs X [] gNil:=by
 intro pins s σ H vs us Q I r h;obtain ⟨e,h⟩:=h;subst e;cases r
 exact assignInOrder_nil ⟨σ,H,I,h⟩
theorem Nq {e:Expr} {es:List Expr} {t:TG} {u:TGs} (h1:PG X e t) (h2:PGs X es u)
  (hs:(iD (e::es) X.env).map (·.2)=iN e X.env::(iD es X.env).map (·.2):=by rfl):PGs X (e::es) (yw t u):=by
 intro pins s σ H vs us Q I r h;obtain ⟨v,vr,e1,h⟩:=h;subst e1;cases r with
 | cons r rr=>
  rw[hs];refine assignInOrder_cons (thn (h1 pins s σ H _ _ _ I r h) λ_ s1 ⟨σ1,H1,I1,q1⟩=>?_);exact h2 pins s1 σ1 H1 _ _ Q I1 rr q1
def gTup (K:aF) (n:Nat) (t:TGs):TG:=λv σ H Q=>∃a xs,v=.ref a∧SqT K H a xs∧xs.length=n∧t xs σ H Q
theorem pg_tup {es:List Expr} {k:Nat} {t:TGs} {n:Nat} (hc:X.calm=true) (h:PGs X es t)
  (hn:(iD es X.env).length=n:=by rfl) (hst:(iD es X.env).findIdx? (·.1)=none:=by rfl):PG X (.Tuple es k pos) (gTup X.K n t):=by
 intro pins s σ H v u Q I r hw;obtain ⟨a,xs,e1,hq,hl,hw⟩:=hw;subst e1;cases r
 obtain ⟨its,rv,ht,hz⟩:=I.tuple hq;refine assign_Tuple_tuple `aF ht (by simp[hn,←hl,rv.length]) hst λh' hx=>?_;have I1:Inv X pins σ H { s with heap:=h' }:=I.kept (t':=s.toks) λb o e=>hx b o (aal (aJ e)) e;exact h pins _ σ H xs _ Q I1 (by simpa using rv) hw
def gSub (to ti:TE) (t:TSet):TG:=λv σ H Q=>to σ H λo H1=>ti σ H1 λi H2=>t o i v H2 λH3=>Q σ H3
theorem pg_sub {o i:Expr} {to ti:TE} {t:TSet} (ho:PE X o to) (hi:PE X i ti) (hs:PSet X t)
  (ha:∀v,iN (.Subscript o i pos) X.env v=(do
   let ov ←kX [v] (eval o X.env)
   let iv ←kX [v,ov] (eval i X.env)
   standAt pos
   kX [v,ov,iv] (setItem ov iv v)
   release [v,ov,iv] []):=by intro _;rfl):PG X (.Subscript o i pos) (gSub to ti t):=by
 intro pins s σ H v u Q I r h;rw[ha];refine aC (bK (thn (ho pins s σ H _ I h) λov s1 ⟨x,H1,I1,r1,q1⟩=>?_));refine aC (bK (thn (hi pins s1 σ H1 _ I1 q1) λiv s2 ⟨y,H2,I2,r2,q2⟩=>?_));refine aC (fR (aC (bK (thn (hs pins s2 σ H2 x y v ov iv u _ I2 r1 r2 r q2) λ_ s3 ⟨H3,I3,q3⟩=>?_))));exact wpAny_release ⟨σ,H3,I3,q3⟩
def tAsg (te:TE) (g:TG):TS:=λD σ H=>te σ H λx H1=>g x σ H1 D.nx
theorem ps_asg {tg e:Expr} {te:TE} {g:TG} (he:PE X e te) (hg:PG X tg g) (hs:swapsWithSole [tg] e pos.line X.env=pure false:=by rfl) (hw:swappedStores [tg] e X.env=pure none:=by rfl)
  (h1:(iD [tg] X.env).map (·.2)=[iN tg X.env]:=by rfl):PS X (.Assign [tg] e pos) (tAsg te g):=by
 intro pins s σ H D I h;refine wpAny_Assign_stores (thn (he pins s σ H _ I h) λv s1 ⟨x,H1,I1,r1,q1⟩=>?_) hs hw;rw[h1];exact thn (hg pins s1 σ H1 x v _ I1 r1 q1) λ_ s2 q=>q
theorem Nw {i:Nat} {x:Str} {e:Expr} {te:TE} {pos':Pos} (hN:X.N.Nodup) (hi:X.N[i]?=aA x) (hx:Loc X.env.scope x) (he:PE X e te) (hs:mV e (aA (.Name x pos')) pos.line X.env=pure false:=by rfl) (hf:X.fn x=true∨X.env.scope.names.lookup x=aA .local:=by first | exact .inl rfl | exact .inr rfl | assumption):
  PS X (.Assign [.Name x pos'] e pos) (tAsg te (i5 i)):=by
 intro pins s σ H D I h;refine wpAny_Assign_Name (thn (he pins s σ H _ I h) λv s1 ⟨y,H1,I1,r1,q1⟩=>?_) hs;exact Gh I1 hN hi hx r1 (λs2 I2=>⟨_,H1,I2,q1⟩) hf
end
section
variable {X:Cx} {pos:Pos}
def Qg (c:TT) (tb:TS):TS:=λD σ H=>∃W:Nat→St→Hp→Prop,(∃m,W m σ H)∧∀m σ H,W m σ H→
 c σ H λb H1=>if b=true then ∃N:St→Hp→Prop,(∀σ' H',N σ' H'→∃m',m' < m∧W m' σ' H')∧tb { D with nx:=N,ct:=N,bk:=D.nx } σ H1 else D.nx σ H1
theorem O3 {c:Expr} {body:List Stmt} {tc:TT} {tb:TS} (hp:PassesOwn `d X.A X.env X.xe) (hc:PT X c tc) (hb:PSs X body tb):PS X (.While c body [] pos) (Qg tc tb):=by
 intro pins s σ H D I h;obtain ⟨W,⟨m0,w0⟩,turn⟩:=h;refine wpAny_While (codeAny_whileLoop (λn s'=>∃σ' H',Inv X pins σ' H' s'∧W n σ' H') ?_ m0 ⟨σ,H,I,w0⟩);rintro n s1 ⟨σ1,H1,I1,w1⟩;refine dQ hp (thn (hc pins s1 σ1 H1 _ I1 (turn n σ1 H1 w1)) λb s2 ⟨H2,I2,q2⟩=>?_);cases b with
 | true=>
  obtain ⟨N,hN,q2⟩:=q2;rw[if_pos rfl];refine dQ hp (thn (hb pins s2 σ1 H2 _ I2 q2) λf s3 q3=>?_);cases f with
  | next=>
   obtain ⟨σ3,H3,I3,n3⟩:=q3;obtain ⟨m',hm,w3⟩:=hN σ3 H3 n3;exact ⟨m',hm,σ3,H3,I3,w3⟩
  | cont=>
   obtain ⟨σ3,H3,I3,n3⟩:=q3;obtain ⟨m',hm,w3⟩:=hN σ3 H3 n3;exact ⟨m',hm,σ3,H3,I3,w3⟩
  | brk=>exact q3
  | ret v=>exact q3
 | false=>
  rw[if_neg aap];exact iC ⟨σ1,H2,I2,q2⟩
end
structure It where
 go:Nat→Hp→Prop
 yld:Nat→Hp→V→Hp→Prop
 stop:Nat→Hp→Prop
def ke (X:Cx) (pins:List (Addr×Obj)) (H:Hp) (b:Addr):Prop:=
 H b=none∧b≠X.env.locals∧b∉X.fs∧(b∈X.ex∨X.s₀.heap.objs.size≤b)∧(∀x c,X.env.cells.lookup x=aA c→c≠b)∧∀p∈X.pn++pins,p.1≠b
theorem Inv.kh {X:Cx} {pins:List (Addr×Obj)} {σ:St} {H H':Hp} {s:aE} {b:Addr} (I:Inv X pins σ H s) (hb:s.heap.objs.size≤b) (hn:H' b=none):ke X pins H' b:=by
 refine ⟨hn,ab4 (aan I.lt hb),I.nofs hb,.inr (ab6 I.sz hb),λx c e z=>?_,λp hp z=>?_⟩
 ·obtain ⟨v,q⟩:=I.cell x c e;exact absurd (aan q.lt (by rw[z];exact hb)) (abg _)
 ·exact absurd (aan (aJ (I.pin p hp).1) (by rw[z];exact hb)) (abg _)
structure Turn (P:aU) (w:bA) (K:aF) (tg:Expr) (J:It) (fp:List Addr) (it:Addr) (tn:Nat→Heap→Prop):Prop where
 mem:it∈fp
 obj:∀i h,tn i h→∀b∈fp,∃o,h.get? b=aA o∧∀v,o.data≠.cell v
 keep:∀i h h',tn i h→(∀b∈fp,∀o,h.get? b=aA o→h'.get? b=aA o)→tn i h'
 item:∀(X:Cx),X.prog=P→X.w=w→X.K=K→X.calm=true→∀(i:Nat) (pins:List (Addr×Obj)) (s:aE) (σ:St) (H:Hp) (E:Value→aE→Prop),Inv X pins σ H s→(∀b∈fp,ke X pins H b)→tn i s.heap→J.go i H→
  aH (aL P w) X.A (cV (.ref it)) (λr s1=>∃u,r=aA u∧
   aH (aL P w) X.A (eQ tg (.ref it) u) (λ_ s2=>∃x H',Inv X pins σ H' s2∧RelV x u∧J.yld i H x H'∧tn (i+1) s2.heap∧∀b∈fp,H' b=none) E s1) E s
 done:∀(X:Cx),X.prog=P→X.w=w→X.K=K→X.calm=true→∀(i:Nat) (pins:List (Addr×Obj)) (s:aE) (σ:St) (H:Hp) (E:Value→aE→Prop),Inv X pins σ H s→(∀b∈fp,ke X pins H b)→tn i s.heap→J.stop i H→
  aH (aL P w) X.A (cV (.ref it)) (λr s1=>r=none∧Inv X pins σ H s1) E s
 self:∀(A:bE) (i:Nat) (s:aE) (Q:Value→aE→Prop) (E:Value→aE→Prop),tn i s.heap→Q (.ref it) s→aH (aL P w) A (iO (.ref it)) Q E s
abbrev TI:=St→Hp→(It→Hp→Prop)→Prop
def PIE (X:Cx) (pins:List (Addr×Obj)) (σ:St) (tg:Expr) (R:It→Hp→Prop) (itv:Value) (s2:aE):Prop:=
 ∃(it:Addr) (fp:List Addr) (tn:Nat→Heap→Prop) (J:It) (H':Hp),itv=.ref it∧Inv X pins σ H' s2∧Turn X.prog X.w X.K tg J fp it tn∧tn 0 s2.heap∧(∀b∈fp,ke X pins H' b)∧R J H'
def PI (X:Cx) (tg iter:Expr) (wi:TI):Prop:=
 ∀(pins:List (Addr×Obj)) (s:aE) (σ:St) (H:Hp) (R:It→Hp→Prop),Inv X pins σ H s→wi σ H R→
  aH `d X.A (eval iter X.env) (λv s1=>aH `d X.A (iO v) (PIE X pins σ tg R) X.xe s1) X.xe s
theorem Jc {M:jQ} {A:bE} {E:Value→aE→Prop} {s:aE} {tg:Expr} {it:Addr} {u:Value} {o:Obj} {n:String} {vs:Array Value} {Q:Unit→aE→Prop} (ho:s.heap.get? it=aA o) (hc:o.cls=.type n) (hd:o.data=.fields vs)
    (hn:["enumerate","zip","dict_itemiterator","dict_reverseitemiterator","odict_iterator","itertools.zip_longest","itertools.pairwise"].contains n=false) (hQ:Q () s):aH M A (eQ tg (.ref it) u) Q E s:=by
  unfold eQ;cases tg <;> first
    | exact aG hQ
    | (cases u <;> first
        | exact aG hQ
        | (refine aC (wpAny_load ho ?_)
           rw[hc,hd];show aH M A (if (["enumerate","zip","dict_itemiterator","dict_reverseitemiterator","odict_iterator","itertools.zip_longest","itertools.pairwise"].contains n&&vs[0]?==aA (bZ _))=true then _ else _) Q E s
           rw[if_neg (by intro h;rw[hn,Bool.false_and] at h;cases h)];exact aG hQ))
noncomputable def Itl (K:aF) (a:Addr):It:=
 ⟨λi H=>∃xs x,SqL K H a xs∧xs[i]?=aA x,λi H x H'=>H'=H∧∀xs,SqL K H a xs→xs[i]?=aA x,λi H=>∃xs,SqL K H a xs∧xs.length≤i⟩
noncomputable def Itt (K:aF) (a:Addr):It:=
 ⟨λi H=>∃xs x,SqT K H a xs∧xs[i]?=aA x,λi H x H'=>H'=H∧∀xs,SqT K H a xs→xs[i]?=aA x,λi H=>∃xs,SqT K H a xs∧xs.length≤i⟩
noncomputable def Itr (lo:Int) (n:Nat):It:=⟨λi _=>i < n,λi H x H'=>H'=H∧x=.int (lo+i),λi _=>n≤i⟩
theorem Kt {P:aU} {w:bA} {K:aF} {tg:Expr} (a it:Addr):Turn P w K tg (Itl K a) [it] it (λi h=>h.IsListIter it a i) where
 mem:=by simp
 obj:=λi h st b hb=>by
  have e:b=it:=by simpa using hb
  subst e;obtain ⟨o,e,c,d⟩:=st;exact ⟨o,e,λv z=>by rw[d] at z;cases z⟩
 keep:=λi h h' st k=>st.at λo e=>k it `b o e
 item:=by
  intro X hP hw hK hc i pins s σ H E I hf st hg;subst hP hw hK;obtain ⟨xs,x,hq,hx⟩:=hg;obtain ⟨its,rv,p,hz⟩:=I.list hq;obtain ⟨u,hu,ru⟩:=rv.get hx;obtain ⟨f0,f1,f2,f3,f4,f5⟩:=hf it `b;refine wpAny_pyNext_list_item st p.isList (x:=u) (by simpa using hu) λh' st' sb=>?_;have I1:Inv X pins σ H { s with heap:=h' }:=I.turned (t':=s.toks) (λb o hb e=>(sb.2 b hb).trans e) f0 f1 f3 f4 f5;obtain ⟨o,e,c,d⟩:=id st';exact ⟨u,rfl,Jc (s:={ s with heap:=h' }) e c d `a ⟨x,H,I1,ru,⟨rfl,λys hy=>by rw[I.sf hy hq];exact hx⟩,st',λb hb=>(hf b hb).1⟩⟩
 done:=by
  intro X hP hw hK hc i pins s σ H E I hf st hg;subst hP hw hK;obtain ⟨xs,hq,hx⟩:=hg;obtain ⟨its,rv,p,hz⟩:=I.list hq;obtain ⟨f0,f1,f2,f3,f4,f5⟩:=hf it `b;have hl:=rv.length;exact wpAny_pyNext_list_end `aF st p.isList (by simp;omega) λh' eb=>⟨rfl,I.turned (t':=s.toks) (λb o hb e=>eb b o hb e) f0 f1 f3 f4 f5⟩
 self:=λ_ _ _ _ _ st h=>wpAny_pyIter_listiter st h
theorem Gz {P:aU} {w:bA} {K:aF} {tg:Expr} (a it:Addr):Turn P w K tg (Itt K a) [it] it (λi h=>h.IsTupleIter it a i) where
 mem:=by simp
 obj:=λi h st b hb=>by
  have e:b=it:=by simpa using hb
  subst e;obtain ⟨o,e,c,d⟩:=st;exact ⟨o,e,λv z=>by rw[d] at z;cases z⟩
 keep:=λi h h' st k=>st.at λo e=>k it `b o e
 item:=by
  intro X hP hw hK hc i pins s σ H E I hf st hg;subst hP hw hK;obtain ⟨xs,x,hq,hx⟩:=hg;obtain ⟨its,rv,p,hz⟩:=I.tuple hq;obtain ⟨u,hu,ru⟩:=rv.get hx;obtain ⟨f0,f1,f2,f3,f4,f5⟩:=hf it `b;refine wpAny_pyNext_tuple_item st `V (x:=u) (by simpa using hu) λh' st' sb=>?_;have I1:Inv X pins σ H { s with heap:=h' }:=I.turned (t':=s.toks) (λb o hb e=>(sb.2 b hb).trans e) f0 f1 f3 f4 f5;obtain ⟨o,e,c,d⟩:=id st';exact ⟨u,rfl,Jc (s:={ s with heap:=h' }) e c d `a ⟨x,H,I1,ru,⟨rfl,λys hy=>by rw[I.om hy hq];exact hx⟩,st',λb hb=>(hf b hb).1⟩⟩
 done:=by
  intro X hP hw hK hc i pins s σ H E I hf st hg;subst hP hw hK;obtain ⟨xs,hq,hx⟩:=hg;obtain ⟨its,rv,p,hz⟩:=I.tuple hq;obtain ⟨f0,f1,f2,f3,f4,f5⟩:=hf it `b;have hl:=rv.length;exact wpAny_pyNext_tuple_end `aF st `V (by simp;omega) λh' eb=>⟨rfl,I.turned (t':=s.toks) (λb o hb e=>eb b o hb e) f0 f1 f3 f4 f5⟩
 self:=λ_ _ _ _ _ st h=>wpAny_pyIter_tupleiter st h
theorem Gy {P:aU} {w:bA} {K:aF} {tg:Expr} (it:Addr) (lo:Int) (n:Nat):Turn P w K tg (Itr lo n) [it] it (λi h=>jZ h it (lo+(i:Nat)*1) ((n:Int) - (i:Nat)) 1) where
 mem:=by simp
 obj:=λi h st b hb=>by
  have e:b=it:=by simpa using hb
  subst e;exact ⟨_,st,λv z=>by
   have z':Data.fields _=Data.cell v:=z;cases z'⟩
 keep:=λi h h' st k=>k it `b _ st
 item:=by
  intro X hP hw hK hc i pins s σ H E I hf st hg;subst hP hw hK;obtain ⟨f0,f1,f2,f3,f4,f5⟩:=hf it `b;have W:=Walks.range (prog:=X.prog) (w:=X.w) `aF it lo 1 n;refine W.item i s _ _ hg st λv h' tk hv st' kk=>?_;obtain ⟨t,rfl⟩:=hv;have I1:Inv X pins σ H { s with heap:=h',toks:=tk }:=I.turned (λb o hb e=>kk b o (by simpa using hb) e) f0 f1 f3 f4 f5;refine ⟨_,rfl,Jc (s:={ s with heap:=h',toks:=tk }) (n:="range_iterator") st' rfl rfl `a ⟨.int (lo+i),H,I1,⟨t,?_⟩,⟨rfl,rfl⟩,st',λb hb=>(hf b hb).1⟩⟩;rw[Int.mul_one]
 done:=by
  intro X hP hw hK hc i pins s σ H E I hf st hg;subst hP hw hK;obtain ⟨f0,f1,f2,f3,f4,f5⟩:=hf it `b;exact kB `aF st (by have:n≤i:=hg;omega) λh' eb=>⟨rfl,I.turned (t':=s.toks) (λb o hb e=>eb b o hb e) f0 f1 f3 f4 f5⟩
 self:=λ_ _ _ _ _ st h=>kH st h
section
variable {X:Cx} {tg:Expr}
def Qr (K:aF) (tl:TE):TI:=λσ H R=>tl σ H λx H1=>∃a,x=.ref a∧(∃xs,SqL K H1 a xs)∧R (Itl K a) H1
def iTup (K:aF) (tl:TE):TI:=λσ H R=>tl σ H λx H1=>∃a,x=.ref a∧(∃xs,SqT K H1 a xs)∧R (Itt K a) H1
theorem Kk {l:Expr} {tl:TE} (hl:PE X l tl):PI X tg l (Qr X.K tl):=by
 intro pins s σ H R I h;refine thn (hl pins s σ H _ I h) λv s1 ⟨x,H1,I1,r1,q1⟩=>?_;obtain ⟨a,e,⟨xs,hq⟩,q⟩:=q1;subst e;cases r1
 obtain ⟨its,rv,p,hz⟩:=I1.list hq;refine dW p.isList ?_;refine ⟨s1.heap.objs.size,[s1.heap.objs.size],_,_,H1,rfl,I1.kept (t':=s1.toks) λb o e=>aD _ e,Kt a _,⟨_,aI _ rfl,rfl,rfl⟩,λb hb=>?_,q⟩;have e:b=s1.heap.objs.size:=by simpa using hb
 subst e;exact I1.kh (aa3 _) `aB
theorem Pp {l:Expr} {tl:TE} (hl:PE X l tl):PI X tg l (iTup X.K tl):=by
 intro pins s σ H R I h;refine thn (hl pins s σ H _ I h) λv s1 ⟨x,H1,I1,r1,q1⟩=>?_;obtain ⟨a,e,⟨xs,hq⟩,q⟩:=q1;subst e;cases r1
 obtain ⟨its,rv,p,hz⟩:=I1.tuple hq;refine dA (show s1.heap.IsTuple a its.toArray from p) ?_;refine ⟨s1.heap.objs.size,[s1.heap.objs.size],_,_,H1,rfl,I1.kept (t':=s1.toks) λb o e=>aD _ e,Gz a _,⟨_,aI _ rfl,rfl,rfl⟩,λb hb=>?_,q⟩;have e:b=s1.heap.objs.size:=by simpa using hb
 subst e;exact I1.kh (aa3 _) `aB
theorem Ov {pins:List (Addr×Obj)} {σ:St} {H:Hp} {s:aE} {R:It→Hp→Prop} {E:Value→aE→Prop} {lo hi:Int} {t u v:Tok} {tk:Nat} (I:Inv X pins σ H s) (h1:-(2 ^ 62)≤lo) (h2:lo < 2 ^ 62) (h3:-(2 ^ 62)≤hi) (h4:hi < 2 ^ 62)
  (q:R (Itr lo (hi - lo).toNat) H):aH `d X.A (iO `m) (PIE X pins σ tg R) E { s with heap:=s.heap.push { cls:=.type "range",data:=.fields #[.int lo t,.int hi u,.int 1 v] },toks:=tk }:=by
 refine mW (IsRange.new ..) (small_one h1 h2 h3 h4) ?_;have I1:Inv X pins σ H { s with heap:=s.heap.push { cls:=.type "range",data:=.fields #[.int lo t,.int hi u,.int 1 v] },toks:=tk }:=I.kept λb o e=>aD _ e;refine ⟨(s.heap.push { cls:=.type "range",data:=.fields #[.int lo t,.int hi u,.int 1 v] }).objs.size,[(s.heap.push { cls:=.type "range",data:=.fields #[.int lo t,.int hi u,.int 1 v] }).objs.size],_,_,H,rfl,
  I1.kept (t':=tk) λb o e=>aD _ e,Gy _ lo (hi - lo).toNat,?_,λb hb=>?_,q⟩
 ·have e1:lo+((0:Nat):Int)*1=lo:=by simp
  have e2:(((hi - lo).toNat:Nat):Int) - ((0:Nat):Int)=gO lo hi 1:=by rw[rangeSize_one];split <;> omega
  show jZ _ _ (lo+((0:Nat):Int)*1) ((((hi - lo).toNat:Nat):Int) - ((0:Nat):Int)) 1
  rw[e1,e2];exact aI _ rfl
 ·have e:b=(s.heap.push { cls:=.type "range",data:=.fields #[.int lo t,.int hi u,.int 1 v] }).objs.size:=by simpa using hb
  subst e;exact I1.kh (aa3 _) `aB
def iRng1 (ta:TA):TI:=λσ H R=>ta σ H λvs H1=>∃j:Int,vs=[.int j]∧-(2 ^ 62)≤j∧j < 2 ^ 62∧R (Itr 0 j.toNat) H1
def iRng2 (ta:TA):TI:=λσ H R=>ta σ H λvs H1=>∃i j:Int,vs=[.int i,.int j]∧(-(2 ^ 62)≤i∧i < 2 ^ 62∧-(2 ^ 62)≤j∧j < 2 ^ 62)∧R (Itr i (j - i).toNat) H1
theorem Kz {a:Expr} {ta:TA} {p pos:Pos} (hg:Gl X "range") (hm:X.mg "range"=none) (ha:PA X [a] ta) (hs:aZ [a] X.env=[(false,eval a X.env)]:=by rfl):PI X tg (.Call (.Name "range" p) [a] [] pos) (iRng1 ta):=by
 intro pins s σ H R I h;refine Call_ (gb I hg hm boot_range (bH (thn `Y λus s1 ⟨vs,H1,I1,r1,q1⟩=>?_) hs rfl));obtain ⟨j,e,q1,q2,q⟩:=q1;subst e;cases r1 with
 | cons r rr=>
  cases rr
  obtain ⟨t,rfl⟩:=r;exact call_range_1 (Ov I1 (by omega) (by omega) q1 q2 (by simpa using q))
def tFor (wi:TI) (g:TG) (tb:TS):TS:=λD σ H=>wi σ H λJ H1=>∃W:Nat→Nat→St→Hp→Prop,(∃m,W 0 m σ H1)∧∀i m σ H,W i m σ H→
 (J.stop i H∧D.nx σ H)∨(J.go i H∧∃N:St→Hp→Prop,(∀σ' H',N σ' H'→∃m',m' < m∧W (i+1) m' σ' H')∧∀x H',J.yld i H x H'→g x σ H' λσ2 H2=>tb { D with nx:=N,ct:=N,bk:=D.nx } σ2 H2)
noncomputable def vd (fp:List Addr) (h:Heap):List (Addr×Obj):=fp.filterMap λb=>(h.get? b).map λo=>(b,o)
theorem gy {fp:List Addr} {h:Heap} {b:Addr} {o:Obj} (hb:b∈fp) (e:h.get? b=aA o):(b,o)∈vd fp h:=List.mem_filterMap.mpr ⟨b,hb,by rw[e];rfl⟩
theorem Lr {fp:List Addr} {h:Heap} {p:Addr×Obj} (hp:p∈vd fp h):p.1∈fp∧h.get? p.1=aA p.2:=by
 obtain ⟨b,hb,e⟩:=List.mem_filterMap.mp hp;cases q:h.get? b with
 | none=>rw[q] at e;cases e
 | some o=>
  rw[q] at e;have e':(b,o)=p:=aa7 e;subst e';exact ⟨hb,q⟩
theorem Inv.pinned {pins:List (Addr×Obj)} {σ:St} {H:Hp} {s:aE} {fp:List Addr} (I:Inv X pins σ H s) (hf:∀b∈fp,ke X pins H b) (ho:∀b∈fp,∃o,s.heap.get? b=aA o∧∀v,o.data≠.cell v):Inv X (pins++vd fp s.heap) σ H s:=
 I.J6 λp hp=>(List.mem_append.mp hp).elim (λz=>I.pin p (aao _ z)) λz=>by
  obtain ⟨hb,e⟩:=Lr z;obtain ⟨f0,f1,f2,_⟩:=hf p.1 hb;obtain ⟨o,e',d⟩:=ho p.1 hb;rw[e] at e';cases e';exact ⟨e,f0,f1,f2,d⟩
theorem Inv.mq {pins pl:List (Addr×Obj)} {σ:St} {H:Hp} {s:aE} (I:Inv X (pins++pl) σ H s):Inv X pins σ H s:=I.J6 λp hp=>I.pin p (aao _ (abe _ hp))
theorem Ip {iter:Expr} {body:List Stmt} {wi:TI} {g:TG} {tb:TS} {pos:Pos} (hp:PassesOwn `d X.A X.env X.xe) (hc:X.calm=true) (hi:PI X tg iter wi) (hg:PG X tg g) (hb:PSs X body tb)
  (hs:∀x,gT iter X.env x=pure x:=by intro _;rfl):PS X (.For tg iter body [] pos) (tFor wi g tb):=by
 intro pins s σ H D I h;refine wpAny_For (thn (hi pins s σ H _ I h) λv s1 h1=>thn h1 λitv s2 h2=>?_) hs;obtain ⟨it,fp,tn,J,H2,e,I2,T,st2,f2,W,⟨m0,w0⟩,turn⟩:=h2;subst e;have stat:∀{H':Hp},(∀b∈fp,H' b=none)→∀b∈fp,ke X pins H' b:=λhn b hb=>⟨hn b hb,(f2 b hb).2⟩;refine codeAny_forLoop_any (λn s'=>∃i σ' H',Inv X pins σ' H' s'∧tn i s'.heap∧(∀b∈fp,H' b=none)∧W i n σ' H') ?_ m0 ⟨0,σ,H2,I2,st2,λb hb=>(f2 b hb).1,w0⟩;rintro n s3 ⟨i,σ3,H3,I3,st3,fr3,w3⟩;rcases turn i n σ3 H3 w3 with ⟨stop,qn⟩ | ⟨go,N,hN,step⟩
 ·refine dQ hp (thn (T.done X rfl rfl rfl hc i pins s3 σ3 H3 X.xe I3 (stat fr3) st3 stop) λr s4 ⟨hr,I4⟩=>?_);subst hr;exact iC ⟨σ3,H3,I4,qn⟩
 ·refine dQ hp (thn (T.item X rfl rfl rfl hc i pins s3 σ3 H3 X.xe I3 (stat fr3) st3 go) λr s4 ⟨u,hr,h4⟩=>?_);subst hr;refine dQ hp (thn h4 λ_ s5 ⟨x,H5,I5,r5,y5,st5,fr5⟩=>?_);have I5':=I5.pinned (stat fr5) (T.obj _ _ st5);refine dQ hp (thn (hg _ s5 σ3 H5 x u _ I5' r5 (step x H5 y5)) λ_ s6 ⟨σ6,H6,I6,q6⟩=>?_);refine dQ hp (thn (hb _ s6 σ6 H6 _ I6 q6) λf s7 q7=>?_);have again:∀{σ7:St} {H7:Hp},Inv X (pins++vd fp s5.heap) σ7 H7 s7→N σ7 H7→∃m,m < n∧∃i σ' H',Inv X pins σ' H' s7∧tn i s7.heap∧(∀b∈fp,H' b=none)∧W i m σ' H':=λ{σ7 H7} I7 n7=>by
   obtain ⟨m',hm,w7⟩:=hN σ7 H7 n7;refine ⟨m',hm,i+1,σ7,H7,I7.mq,T.keep _ _ _ st5 λb hb o e=>(I7.pin (b,o) (aao _ (aao _ (gy hb e)))).1,λb hb=>?_,w7⟩;obtain ⟨o,e,d⟩:=T.obj _ _ st5 b hb;exact (I7.pin (b,o) (aao _ (aao _ (gy hb e)))).2.1
  cases f with
  | next=>obtain ⟨σ7,H7,I7,n7⟩:=q7;exact again I7 n7
  | cont=>obtain ⟨σ7,H7,I7,n7⟩:=q7;exact again I7 n7
  | brk=>obtain ⟨σ7,H7,I7,q7⟩:=q7;exact ⟨σ7,H7,I7.mq,q7⟩
  | ret v=>obtain ⟨x7,σ7,H7,I7,r7,q7⟩:=q7;exact ⟨x7,σ7,H7,I7.mq,r7,q7⟩
end
theorem Q7 {K:aF} {a:Addr} {xs:List V} {g:TG} {tb:TS} {D:Ends} {σ:St} {H:Hp} (Pv:Nat→St→Hp→Prop) (h0:Pv 0 σ H) (hl:∀i σ H,i≤xs.length→Pv i σ H→SqL K H a xs)
  (hs:∀i x σ H,xs[i]?=aA x→Pv i σ H→g x σ H λσ2 H2=>tb { D with nx:=Pv (i+1),ct:=Pv (i+1),bk:=D.nx } σ2 H2) (hd:∀σ H,Pv xs.length σ H→D.nx σ H):
  ∃W:Nat→Nat→St→Hp→Prop,(∃m,W 0 m σ H)∧∀i m σ H,W i m σ H→
   ((Itl K a).stop i H∧D.nx σ H)∨((Itl K a).go i H∧∃N:St→Hp→Prop,(∀σ' H',N σ' H'→∃m',m' < m∧W (i+1) m' σ' H')∧∀x H',(Itl K a).yld i H x H'→g x σ H' λσ2 H2=>tb { D with nx:=N,ct:=N,bk:=D.nx } σ2 H2):=by
 refine ⟨λi m σ H=>m=xs.length - i∧i≤xs.length∧Pv i σ H,⟨xs.length,by simp,aag _,h0⟩,?_⟩;rintro i m σ H ⟨rfl,hi,p⟩;have q:=hl i σ H hi p;by_cases hlt:i < xs.length
 ·refine .inr ⟨⟨xs,xs[i],q,by simp[hlt]⟩,Pv (i+1),λσ' H' p'=>⟨xs.length - (i+1),by omega,rfl,hlt,p'⟩,λx H' y=>?_⟩;obtain ⟨e,y⟩:=y;subst e;exact hs i x σ _ (y xs q) p
 ·have e:i=xs.length:=by omega
  subst e;exact .inl ⟨⟨xs,q,aa3 _⟩,hd σ H p⟩
theorem Se {K:aF} {a:Addr} {xs:List V} {g:TG} {tb:TS} {D:Ends} {σ:St} {H:Hp} (Pv:Nat→St→Hp→Prop) (h0:Pv 0 σ H) (hl:∀i σ H,i≤xs.length→Pv i σ H→SqT K H a xs)
  (hs:∀i x σ H,xs[i]?=aA x→Pv i σ H→g x σ H λσ2 H2=>tb { D with nx:=Pv (i+1),ct:=Pv (i+1),bk:=D.nx } σ2 H2) (hd:∀σ H,Pv xs.length σ H→D.nx σ H):
  ∃W:Nat→Nat→St→Hp→Prop,(∃m,W 0 m σ H)∧∀i m σ H,W i m σ H→
   ((Itt K a).stop i H∧D.nx σ H)∨((Itt K a).go i H∧∃N:St→Hp→Prop,(∀σ' H',N σ' H'→∃m',m' < m∧W (i+1) m' σ' H')∧∀x H',(Itt K a).yld i H x H'→g x σ H' λσ2 H2=>tb { D with nx:=N,ct:=N,bk:=D.nx } σ2 H2):=by
 refine ⟨λi m σ H=>m=xs.length - i∧i≤xs.length∧Pv i σ H,⟨xs.length,by simp,aag _,h0⟩,?_⟩;rintro i m σ H ⟨rfl,hi,p⟩;have q:=hl i σ H hi p;by_cases hlt:i < xs.length
 ·refine .inr ⟨⟨xs,xs[i],q,by simp[hlt]⟩,Pv (i+1),λσ' H' p'=>⟨xs.length - (i+1),by omega,rfl,hlt,p'⟩,λx H' y=>?_⟩;obtain ⟨e,y⟩:=y;subst e;exact hs i x σ _ (y xs q) p
 ·have e:i=xs.length:=by omega
  subst e;exact .inl ⟨⟨xs,q,aa3 _⟩,hd σ H p⟩
theorem Ku {lo:Int} {n:Nat} {g:TG} {tb:TS} {D:Ends} {σ:St} {H:Hp} (Pv:Nat→St→Hp→Prop) (h0:Pv 0 σ H)
  (hs:∀i σ H,i < n→Pv i σ H→g (.int (lo+i)) σ H λσ2 H2=>tb { D with nx:=Pv (i+1),ct:=Pv (i+1),bk:=D.nx } σ2 H2) (hd:∀σ H,Pv n σ H→D.nx σ H):
  ∃W:Nat→Nat→St→Hp→Prop,(∃m,W 0 m σ H)∧∀i m σ H,W i m σ H→
   ((Itr lo n).stop i H∧D.nx σ H)∨((Itr lo n).go i H∧∃N:St→Hp→Prop,(∀σ' H',N σ' H'→∃m',m' < m∧W (i+1) m' σ' H')∧∀x H',(Itr lo n).yld i H x H'→g x σ H' λσ2 H2=>tb { D with nx:=N,ct:=N,bk:=D.nx } σ2 H2):=by
 refine ⟨λi m σ H=>m=n - i∧i≤n∧Pv i σ H,⟨n,by simp,aag _,h0⟩,?_⟩;rintro i m σ H ⟨rfl,hi,p⟩;by_cases hlt:i < n
 ·refine .inr ⟨hlt,Pv (i+1),λσ' H' p'=>⟨n - (i+1),by omega,rfl,hlt,p'⟩,λx H' y=>?_⟩;obtain ⟨e,y⟩:=y;subst e y;exact hs i σ _ hlt p
 ·have e:i=n:=by omega
  subst e;exact .inl ⟨aa3 _,hd σ H p⟩
theorem m9 {c:TT} {tb:TS} {D:Ends} {σ:St} {H:Hp} (Pv:St→Hp→Prop) (μ:St→Hp→Nat) (h0:Pv σ H)
  (hs:∀σ H,Pv σ H→c σ H λb H1=>if b=true then tb { D with nx:=λσ' H'=>Pv σ' H'∧μ σ' H' < μ σ H,ct:=λσ' H'=>Pv σ' H'∧μ σ' H' < μ σ H,bk:=D.nx } σ H1 else D.nx σ H1)
  (mono:∀σ H Q Q',(∀b H1,Q b H1→Q' b H1)→c σ H Q→c σ H Q'):Qg c tb D σ H:=by
 refine ⟨λm σ H=>m=μ σ H∧Pv σ H,⟨_,rfl,h0⟩,?_⟩;rintro m σ H ⟨rfl,p⟩;refine mono σ H _ _ (λb H1 q=>?_) (hs σ H p);cases b with
 | true=>exact ⟨_,λσ' H' ⟨p',l⟩=>⟨_,l,rfl,p'⟩,q⟩
 | false=>exact q
abbrev R2:=V→V→Hp→VK→Prop
def OpR (X:Cx) (f:Value→Value→Sem Value) (r:R2):Prop:=
 ∀(pins:List (Addr×Obj)) (s:aE) (σ:St) (H:Hp) (x y:V) (v u:Value) (Q:VK),Inv X pins σ H s→RelV x v→RelV y u→r x y H Q→
  aH `d X.A (f v u) `ax X.xe s
def UnR (X:Cx) (f:Value→Sem Value) (r:V→Hp→VK→Prop):Prop:=
 ∀(pins:List (Addr×Obj)) (s:aE) (σ:St) (H:Hp) (x:V) (v:Value) (Q:VK),Inv X pins σ H s→RelV x v→r x H Q→
  aH `d X.A (f v) `ax X.xe s
def fo (X:Cx) (f:Value) (r:List V→Hp→VK→Prop):Prop:=
 ∀(pins:List (Addr×Obj)) (s:aE) (σ:St) (H:Hp) (xs:List V) (us:List Value) (Q:VK),Inv X pins σ H s→Vals xs us→r xs H Q→
  aH `d X.A (call f us) `ax X.xe s
def tOp (r:R2) (ta tb:TE):TE:=λσ H Q=>ta σ H λx H1=>tb σ H1 λy H2=>r x y H2 Q
def tUn (r:V→Hp→VK→Prop) (ta:TE):TE:=λσ H Q=>ta σ H λx H1=>r x H1 Q
def rI (C:Int→Int→Prop) (g:Int→Int→V):R2:=λx y H Q=>∃i j,x=.int i∧y=.int j∧C i j∧Q (g i j) H
def rI0 (g:Int→Int→V):R2:=λx y H Q=>∃i j,x=.int i∧y=.int j∧Q (g i j) H
def rU (g:Int→V):V→Hp→VK→Prop:=λx H Q=>∃i,x=.int i∧Q (g i) H
section
variable {X:Cx} {a b c:Expr} {ta tb tc:TE} {pos:Pos}
theorem binT (ha:PE X a ta) (hb:PE X b tb) {pins:List (Addr×Obj)} {s:aE} {σ:St} {H:Hp} {R:V→V→Hp→Prop} (I:Inv X pins σ H s)
  (h:ta σ H λx H1=>tb σ H1 λy H2=>R x y H2) {Q:Value→aE→Prop} {f:Value→Value→Sem Value}
  (hf:∀v u s2 x y H2,Inv X pins σ H2 s2→RelV x v→RelV y u→R x y H2→aH `d X.A (f v u) Q X.xe s2):
  aH `d X.A (eval a X.env) (λv s₁=>aH `d X.A (eval b X.env) (λu s₂=>aH `d X.A (f v u) Q X.xe s₂) X.xe s₁) X.xe s:=by
 refine thn `ag λv s1 ⟨x,H1,I1,r1,q1⟩=>?_;refine thn (hb pins s1 σ H1 _ I1 q1) λu s2 ⟨y,H2,I2,r2,q2⟩=>?_;exact hf v u s2 x y H2 I2 r1 r2 q2
theorem pe_op {op:Operator} {r:R2} (ho:OpR X (cL op) r) (ha:PE X a ta) (hb:PE X b tb):PE X (.BinOp a op b pos) (tOp r ta tb):=by
 intro pins s σ H Q I h;exact wpAny_BinOp (binT ha hb I h λv u s2 x y H2 I2 rx ry q=>ho pins s2 σ H2 x y v u Q I2 rx ry q)
theorem pe_un {op:UnaryOp} {r:V→Hp→VK→Prop} (ho:UnR X (unaryOp op) r) (ha:PE X a ta):PE X (.UnaryOp op a pos) (tUn r ta):=by
 intro pins s σ H Q I h;exact UnaryOp_ (thn `ag λv s1 ⟨x,H1,I1,r1,q1⟩=>ho pins s1 σ H1 x v Q I1 r1 q1)
theorem opI {f:Value→Value→Sem Value} {C:Int→Int→Prop} {g:Int→Int→Int}
  (rule:∀(i j:Int) (t u:Tok) (s:aE) (Q:Value→aE→Prop) (E:Value→aE→Prop),C i j→Q (.int (g i j) s.toks) { s with toks:=s.toks+1 }→aH `d X.A (f (.int i t) (.int j u)) Q E s):
  OpR X f (rI C λi j=>.int (g i j)):=by
 intro pins s σ H x y v u Q I rx ry h;obtain ⟨i,j,rfl,rfl,hc,q⟩:=h;obtain ⟨t,rfl⟩:=rx;obtain ⟨t',rfl⟩:=ry;exact rule i j t t' s _ _ hc ⟨.int (g i j),H,I.tok _,⟨_,rfl⟩,q⟩
theorem opI0 {f:Value→Value→Sem Value} {g:Int→Int→Int}
  (rule:∀(i j:Int) (t u:Tok) (s:aE) (Q:Value→aE→Prop) (E:Value→aE→Prop),Q (.int (g i j) s.toks) { s with toks:=s.toks+1 }→aH `d X.A (f (.int i t) (.int j u)) Q E s):
  OpR X f (rI0 λi j=>.int (g i j)):=by
 intro pins s σ H x y v u Q I rx ry h;obtain ⟨i,j,rfl,rfl,q⟩:=h;obtain ⟨t,rfl⟩:=rx;obtain ⟨t',rfl⟩:=ry;exact rule i j t t' s _ _ ⟨.int (g i j),H,I.tok _,⟨_,rfl⟩,q⟩
theorem opB0 {f:Value→Value→Sem Value} {g:Int→Int→Bool}
  (rule:∀(i j:Int) (t u:Tok) (s:aE) (Q:Value→aE→Prop) (E:Value→aE→Prop),Q (.bool (g i j)) s→aH `d X.A (f (.int i t) (.int j u)) Q E s):
  OpR X f (rI0 λi j=>.bl (g i j)):=by
 intro pins s σ H x y v u Q I rx ry h;obtain ⟨i,j,rfl,rfl,q⟩:=h;obtain ⟨t,rfl⟩:=rx;obtain ⟨t',rfl⟩:=ry;exact rule i j t t' s _ _ ⟨.bl (g i j),H,I,rfl,q⟩
def CDiv (i j:Int):Prop:=0 < j∧j < 1073741824
def CPow (i j:Int):Prop:=0≤j∧j≤1000000∧i.natAbs < 2 ^ 64
def yr (i j:Int):Prop:=(-(2 ^ 64) < i∧i < 2 ^ 64)∨(-(2 ^ 64) < j∧j < 2 ^ 64)
theorem yr.ok {i j:Int} (h:yr i j):IntMulOk i j:=by
 rcases h with ⟨h1,h2⟩ | ⟨h1,h2⟩
 ·exact .of_left (intBits_le_64 h1 h2)
 ·exact .of_right (intBits_le_64 h1 h2)
theorem op_add:OpR X (cL .Add) (rI0 λi j=>.int (i+j)):=opI0 λ_ _ _ _ _ _ _ q=>add_int q
theorem op_sub:OpR X (cL .Sub) (rI0 λi j=>.int (i - j)):=opI0 λ_ _ _ _ _ _ _ q=>sub_int q
theorem op_mul:OpR X (cL .Mult) (rI yr λi j=>.int (i*j)):=opI λ_ _ _ _ _ _ _ hc q=>mul_int q hc.ok
theorem Rm:OpR X (cL .FloorDiv) (rI CDiv λi j=>.int (i / j)):=opI λi j _ _ _ _ _ hc q=>by
 have h1:(0:Int) < j:=hc.1;have h2:j < 1073741824:=hc.2;exact floordiv_int (by omega) (by rw[Int.fdiv_eq_ediv_of_nonneg i (by omega)];exact q) (.inl (kJ (by omega)))
theorem op_mod:OpR X (cL .Mod) (rI (λ_ j=>0 < j) λi j=>.int (i % j)):=opI λi j _ _ _ _ _ hc q=>by
 have h1:(0:Int) < j:=hc;exact mod_int' (by omega) (by rw[Int.fmod_eq_emod_of_nonneg i (by omega)];exact q)
theorem op_pow:OpR X (cL .Pow) (rI CPow λi j=>.int (i ^ j.toNat)):=opI λ_ _ _ _ _ _ _ hc q=>pow_int_small hc.1 hc.2.1 hc.2.2 q
theorem unI {f:Value→Sem Value} {g:Int→Int}
  (rule:∀(i:Int) (t:Tok) (s:aE) (Q:Value→aE→Prop) (E:Value→aE→Prop),Q (.int (g i) s.toks) { s with toks:=s.toks+1 }→aH `d X.A (f (.int i t)) Q E s):
  UnR X f (rU λi=>.int (g i)):=by
 intro pins s σ H x v Q I rx h;obtain ⟨i,rfl,q⟩:=h;obtain ⟨t,rfl⟩:=rx;exact rule i t s _ _ ⟨.int (g i),H,I.tok _,⟨_,rfl⟩,q⟩
theorem un_neg:UnR X (unaryOp .USub) (rU λi=>.int (-i)):=unI λ_ _ _ _ _ q=>neg_int q
end
noncomputable def scal:V→V→Bool
 | .non,.non=>true | .non,.int _=>true | .int _,.non=>true | .non,.bl _=>true | .bl _,.non=>true | .non,.str _=>true | .str _,.non=>true
 | .int _,.int _=>true | .bl _,.bl _=>true | .str _,.str _=>true | .byt _,.byt _=>true
 | .int _,.str _=>true | .str _,.int _=>true | .bl _,.str _=>true | .str _,.bl _=>true
 | _,_=>false
def rEq:R2:=λx y H Q=>scal x y=true∧Q (.bl (decide (x=y))) H
def rNe:R2:=λx y H Q=>scal x y=true∧Q (.bl (!decide (x=y))) H
theorem Kd {i j:Int}:decide (V.int i=V.int j)=(i==j):=by
 rw[acx];simp
theorem P8 {i j:Bool}:decide (V.bl i=V.bl j)=(i==j):=by
 rw[acx];simp
theorem Kp {i j:Str}:decide (V.str i=V.str j)=(i==j):=by
 rw[acx];simp
theorem Jd {i j:Array UInt8}:decide (V.byt i=V.byt j)=(i.toList==j.toList):=by
 rw[acx];cases i
 cases j
 simp
section
variable {X:Cx} {a b c:Expr} {ta tb tc:TE} {pos:Pos}
theorem bp {pins:List (Addr×Obj)} {σ:St} {H:Hp} {s:aE} {Q:VK} {k k':Bool} (I:Inv X pins σ H s) (q:Q (.bl k) H) (e:k=k'):EP X pins σ Q (.bool k') s:=by
 subst e;exact ⟨.bl k,H,I,rfl,q⟩
theorem op_eq:OpR X (cI .Eq) rEq:=by
 intro pins s σ H x y v u Q I rx ry h;obtain ⟨hs,q⟩:=h;cases x with
 | non=>
  cases rx
  cases y with
  | non=>cases ry;exact PySem.EqNone.eq_none_none `ao
  | bl j=>cases ry;exact PySem.EqNone.eq_none_bool `ao
  | int j=>obtain ⟨t',rfl⟩:=ry;exact PySem.EqNone.eq_none_int `ao
  | str j=>obtain ⟨t',rfl⟩:=ry;exact PySem.EqNone.eq_none_str `ao
  | _=>exact absurd (show false=true from hs) aap
 | bl i=>
  cases rx
  cases y with
  | non=>cases ry;exact PySem.EqNone.eq_bool_none `ao
  | bl j=>cases ry;exact eq_bool (bp I q P8)
  | str j=>obtain ⟨t',rfl⟩:=ry;exact PySem.EqMixed.eq_bool_str `ao
  | _=>exact absurd (show false=true from hs) aap
 | int i=>
  obtain ⟨t,rfl⟩:=rx;cases y with
  | non=>cases ry;exact PySem.EqNone.eq_int_none `ao
  | int j=>obtain ⟨t',rfl⟩:=ry;exact eq_int (bp I q Kd)
  | str j=>obtain ⟨t',rfl⟩:=ry;exact PySem.EqMixed.eq_int_str `ao
  | _=>exact absurd (show false=true from hs) aap
 | str i=>
  obtain ⟨t,rfl⟩:=rx;cases y with
  | non=>cases ry;exact PySem.EqNone.eq_str_none `ao
  | bl j=>cases ry;exact PySem.EqMixed.eq_str_bool `ao
  | int j=>obtain ⟨t',rfl⟩:=ry;exact PySem.EqMixed.eq_str_int `ao
  | str j=>obtain ⟨t',rfl⟩:=ry;exact eq_str (bp I q Kp)
  | _=>exact absurd (show false=true from hs) aap
 | byt i=>
  obtain ⟨t,rfl⟩:=rx;cases y with
  | byt j=>obtain ⟨t',rfl⟩:=ry;exact PySem.W.eq_bytes (bp I q Jd)
  | _=>exact absurd (show false=true from hs) aap
 | _=>cases y <;> exact absurd (show false=true from hs) aap
theorem Jb:OpR X (cI .NotEq) rNe:=by
 intro pins s σ H x y v u Q I rx ry h;obtain ⟨hs,q⟩:=h;cases x with
 | non=>
  cases rx
  cases y with
  | non=>cases ry;exact PySem.EqNone.ne_none_none `ao
  | bl j=>cases ry;exact PySem.EqNone.ne_none_bool `ao
  | int j=>obtain ⟨t',rfl⟩:=ry;exact PySem.EqNone.ne_none_int `ao
  | str j=>obtain ⟨t',rfl⟩:=ry;exact PySem.EqNone.ne_none_str `ao
  | _=>exact absurd (show false=true from hs) aap
 | bl i=>
  cases rx
  cases y with
  | non=>cases ry;exact PySem.EqNone.ne_bool_none `ao
  | bl j=>cases ry;exact ne_bool (bp I q (congrArg not P8))
  | str j=>obtain ⟨t',rfl⟩:=ry;exact PySem.EqMixed.ne_bool_str `ao
  | _=>exact absurd (show false=true from hs) aap
 | int i=>
  obtain ⟨t,rfl⟩:=rx;cases y with
  | non=>cases ry;exact PySem.EqNone.ne_int_none `ao
  | int j=>obtain ⟨t',rfl⟩:=ry;exact ne_int (bp I q (congrArg not Kd))
  | str j=>obtain ⟨t',rfl⟩:=ry;exact PySem.EqMixed.ne_int_str `ao
  | _=>exact absurd (show false=true from hs) aap
 | str i=>
  obtain ⟨t,rfl⟩:=rx;cases y with
  | non=>cases ry;exact PySem.EqNone.ne_str_none `ao
  | bl j=>cases ry;exact PySem.EqMixed.ne_str_bool `ao
  | int j=>obtain ⟨t',rfl⟩:=ry;exact PySem.EqMixed.ne_str_int `ao
  | str j=>obtain ⟨t',rfl⟩:=ry;exact ne_str (bp I q (congrArg not Kp))
  | _=>exact absurd (show false=true from hs) aap
 | byt i=>
  obtain ⟨t,rfl⟩:=rx;cases y with
  | byt j=>obtain ⟨t',rfl⟩:=ry;exact PySem.W.ne_bytes (bp I q (congrArg not Jd))
  | _=>exact absurd (show false=true from hs) aap
 | _=>cases y <;> exact absurd (show false=true from hs) aap
theorem op_lt:OpR X (cI .Lt) (rI0 λi j=>.bl (decide (i < j))):=opB0 λ_ _ _ _ _ _ _ q=>lt_int q
theorem op_gt:OpR X (cI .Gt) (rI0 λi j=>.bl (decide (j < i))):=opB0 λ_ _ _ _ _ _ _ q=>gt_int q
theorem op_ge:OpR X (cI .GtE) (rI0 λi j=>.bl (decide (j≤i))):=opB0 λ_ _ _ _ _ _ _ q=>ge_int q
theorem nomark (b:Expr) {op:jR} (h:op≠.In:=by decide) (h2:op≠.NotIn:=by decide):cY op b=false:=by
 have e1:(op==CmpOp.In)=false:=by cases op <;> first | rfl | exact absurd rfl h
 have e2:(op==CmpOp.NotIn)=false:=by cases op <;> first | rfl | exact absurd rfl h2
 cases b <;> simp[cY,e1,e2]
theorem Df {op:jR} {r:R2} (ho:OpR X (cI op) r) (ha:PE X a ta) (hb:PE X b tb) (hm:cY op b=false):PE X (.Compare a [op] [b] pos) (tOp r ta tb):=by
 intro pins s σ H Q I h;exact wpAny_Compare1 (binT ha hb I h λv u s2 x y H2 I2 rx ry q=>ho pins s2 σ H2 x y v u Q I2 rx ry q) hm
def Ei (t:TE):TT:=λσ H Q=>t σ H λx H'=>∃k,x=.bl k∧Q k H'
theorem Tb {op:jR} {r:R2} (ho:OpR X (cI op) r) (ha:PE X a ta) (hb:PE X b tb) (hm:cY op b=false):PT X (.Compare a [op] [b] pos) (Ei (tOp r ta tb)):=by
 intro pins s σ H Q I h;refine kW (thn `ag λv s1 ⟨x,H1,I1,r1,q1⟩=>thn (hb pins s1 σ H1 _ I1 q1) λu s2 ⟨y,H2,I2,r2,q2⟩=>
  thn (ho pins s2 σ H2 x y v u _ I2 r1 r2 q2) λc s3 ⟨z,H3,I3,r3,k,e,q3⟩=>?_) hm
 subst e;cases r3
 exact dI ⟨H3,I3,q3⟩
theorem zt:(sizeLine:Nat) < 2 ^ 63:=by rw[aQ];decide
theorem gu:OpR X (cL .Add) (λx y H Q=>∃i j,x=.str i∧y=.str j∧i.length+j.length≤sizeLine∧Q (.str (i++j)) H):=by
 intro pins s σ H x y v u Q I rx ry h;obtain ⟨i,j,rfl,rfl,hz,q⟩:=h;obtain ⟨t,rfl⟩:=rx;obtain ⟨t',rfl⟩:=ry;exact add_str (λt' tk=>⟨.str (i++j),H,I.tok _,⟨_,rfl⟩,q⟩) hz
theorem vals1 {x:V} {us:List Value} (r:Vals [x] us):∃u,us=[u]∧RelV x u:=by
 cases r with
 | cons r1 r2=>cases r2;exact ⟨_,rfl,r1⟩
theorem vals2 {x y:V} {us:List Value} (r:Vals [x,y] us):∃u w',us=[u,w']∧RelV x u∧RelV y w':=by
 cases r with
 | cons r1 r2=>
  cases r2 with
  | cons r3 r4=>cases r4;exact ⟨_,_,rfl,r1,r3⟩
theorem Mb (hc:X.calm=true):fo X (.builtin "max") (λxs H Q=>∃i j,xs=[.int i,.int j]∧Q (.int (if j > i then j else i)) H):=by
 intro pins s σ H xs us Q I r h;obtain ⟨i,j,rfl,q⟩:=h;obtain ⟨u,w',rfl,⟨t,rfl⟩,⟨t',rfl⟩⟩:=vals2 r;refine max_two_ints `aF λh' tk k=>⟨_,H,I.kept k,?_,q⟩;by_cases hj:j > i
 ·rw[if_pos hj,if_pos hj];exact ⟨_,rfl⟩
 ·rw[if_neg hj,if_neg hj];exact ⟨_,rfl⟩
theorem Li:fo X (.type "int") (λxs H Q=>(∃i,xs=[.int i]∧Q (.int i) H)∨∃k,xs=[.bl k]∧Q (.int (if k then 1 else 0)) H):=by
 intro pins s σ H xs us Q I r h;rcases h with ⟨i,rfl,q⟩ | ⟨k,rfl,q⟩
 ·obtain ⟨u,rfl,t,rfl⟩:=vals1 r;exact call_int_int ⟨.int i,H,I,⟨_,rfl⟩,q⟩
 ·obtain ⟨u,rfl,r1⟩:=vals1 r;cases r1
  exact call_int_bool ⟨.int (if k then 1 else 0),H,I.tok _,⟨_,rfl⟩,q⟩
end
structure ObjM (h:Heap) (x dx C:Addr) (mA:Str→Option Value):Prop where
 obj:h.get? x=aA (jP C dx)
 ns:h.Ns1 dx mA
 ne:dx≠x
theorem Me {h:Heap} {dx:Addr} {mA:Str→Option Value} (n:h.Ns1 dx mA):∃od,h.get? dx=aA od∧∀name,kZ name od=aA (mA name):=by
 obtain ⟨o,es,ep,ho,hd,hk,_,hm⟩:=n;refine ⟨o,ho,λname=>?_⟩;have e:=hm name;unfold nsFind findBy at e;rw[←Array.find?_toList] at e;unfold kZ;rw[hd];dsimp only;split
 ·rename_i y q
  rw[q] at e;exact congrArg aA e
 ·rename_i q
  rw[q] at e;have a:es.toList.any (·.refKey)=false:=by
   rw[List.any_eq_false];intro y hy;obtain ⟨z,t,hkey⟩:=hk y (Array.mem_toList_iff.mp hy);simp[DictEntry.refKey,hkey]
  have a':¬es.toList.any (·.refKey)=true:=by rw[a];exact aap
  rw[if_neg a'];exact congrArg aA e
theorem ObjM.look {h:Heap} {x dx C:Addr} {mA:Str→Option Value} (I:ObjM h x dx C mA):∃od,PySem.W.InstAt h x (jP C dx) C (aA od)∧∀name,kZ name od=aA (mA name):=
 let ⟨od,ho,hl⟩:=Me I.ns
 ⟨od,⟨I.obj,rfl,rfl,ho⟩,hl⟩
theorem qt.some_of {v:V} {o:Option Value} (r:qt (aA v) o):∃u,o=aA u∧RelV v u:=by
 cases o with
 | none=>exact (show False from r).elim
 | some u=>exact ⟨u,rfl,r⟩
section
variable {P:aU} {w:bA} {H H':Hp} {h h':Heap} {a C dx:Addr} {fs fs':List (Str×V)}
theorem Rx (hok:HOk P w H h) (e:H a=aA (.ins C dx fs)):∃mA,ObjM h a dx C mA∧(∀f,qt (fs.lookup f) (mA f))∧PySem.Within mA (fs.map (·.1))∧fs.length≤1000∧H dx=aA (.own a):=by
 obtain ⟨d,z,ne,ob,mA,n,r,q⟩:=(show bw P w H h a (.ins C dx fs) from hok a _ e);exact ⟨mA,⟨ob,n,ne⟩,r,q,z,d⟩
end
structure Cls (K:aF) (C:Addr):Prop where
 pg:PySem.W.plainGet K C gD=true
 hd:PySem.W.hasDictIn K C=true
 po:PySem.W.plainOver K C=true
 sa:bP K (.ref C) "__setattr__"=aA `aS
theorem Cls.get {K:aF} {C:Addr} (c:Cls K C) (f:Str):PySem.W.plainGet K C f=true:=c.pg
section
variable {X:Cx} {pins:List (Addr×Obj)} {σ:St} {H:Hp} {s:aE} {A:bE} {E:Value→aE→Prop} {Q:Value→aE→Prop} {c:Value} {b:Bool}
inductive uu (K:aF) (H:Hp):V→Value→Prop where
 | non:uu K H .non (.type "NoneType")
 | bl (x:Bool):uu K H (.bl x) (.type "bool")
 | int (i:Int):uu K H (.int i) (.type "int")
 | str (x:Str):uu K H (.str x) (.type "str")
 | flt (x:UInt64):uu K H (.flt x) (.type "float")
 | lst {a:Addr} {xs:List V} (e:H a=aA `U):uu K H `r (.type "list")
 | frz {a:Addr} {o:Obj} {xs:List V} (e:H a=aA (.frz o `U)):uu K H `r (.type "list")
 | tup {a:Addr} {xs:List V} (e:H a=aA `aU):uu K H `r (.type "tuple")
 | dK {a:Addr} {kvs:List (Key×V)} (e:H a=aA (.dK kvs)):uu K H `r (.type "dict")
 | dT {a:Addr} {kvs:List (List Key×V)} (e:H a=aA (.dT kvs)):uu K H `r (.type "dict")
 | ins {a C dx:Addr} {fs:List (Str×V)} (e:H a=aA (.ins C dx fs)) (cl:Cls K C) (ha:bP K (.ref C) "__class__"=aA (aA `ay))
   (hn:PySem.W.specialIn K `ay "__get__"=aA (aA (.builtin "getset_descriptor.__get__"))) (htk:PySem.W.takesIn K `ay=aA true)
   (hm:PySem.W.mroIn K C (.type "object")=aA true):uu K H `r (.ref C)
theorem Ld {x:V} {u t:Value} (I:Inv X pins σ H s) (rx:RelV x u) (ty:uu X.K H x t) (e:PySem.W.kitOne X.K t c=aA b) (h:∀tk,Q (.bool b) { s with toks:=tk }):
  aH `d A (call (.builtin "isinstance") [u,c]) Q E s:=by
 cases ty with
 | non=>cases (show u=bV from rx);exact cG PySem.W.kitx_none I.kIn True.intro e (λz=>nomatch z) h
 | bl y=>cases (show u=nW y from rx);exact cG PySem.W.kitx_bool I.kIn True.intro e (λz=>nomatch z) h
 | int i=>obtain ⟨t,q⟩:=(show ∃t,u=iK i t from rx);cases q;exact cG PySem.W.kitx_int I.kIn True.intro e (λz=>nomatch z) h
 | str y=>obtain ⟨t,q⟩:=(show ∃t,u=mQ y t from rx);cases q;exact cG PySem.W.kitx_str I.kIn True.intro e (λz=>nomatch z) h
 | flt y=>obtain ⟨t,q⟩:=(show ∃t,u=Value.float y t from rx);cases q;exact cG PySem.W.kitx_float I.kIn True.intro e (λz=>nomatch z) h
 | @lst a xs ea=>
  cases (show u=aY a from rx)
  obtain ⟨_,_,n,_,h1⟩:=(show bw X.prog X.w H s.heap a `U from I.hok a _ ea);exact cG nM I.kIn ⟨_,h1,rfl⟩ e (λz=>nomatch z) h
 | @frz a ob xs ea=>
  cases (show u=aY a from rx)
  obtain ⟨_,_,_,n,_,h1⟩:=(show bw X.prog X.w H s.heap a (.frz ob `U) from I.hok a _ ea);exact cG nM I.kIn ⟨_,h1,rfl⟩ e (λz=>nomatch z) h
 | @tup a xs ea=>
  cases (show u=aY a from rx)
  obtain ⟨_,_,_,p⟩:=(show bw X.prog X.w H s.heap a `aU from I.hok a _ ea);obtain ⟨o,h1,h2,_⟩:=p;exact cG PySem.W.kitx_tuple I.kIn ⟨o,h1,h2⟩ e (λz=>nomatch z) h
 | @dK a kvs ea=>
  cases (show u=aY a from rx)
  obtain ⟨_,_,vs,_,p⟩:=(show bw X.prog X.w H s.heap a (.dK kvs) from I.hok a _ ea);obtain ⟨o,es,ep,h1,h2,_⟩:=p;exact cG nN I.kIn ⟨o,h1,h2.1⟩ e (λz=>nomatch z) h
 | @dT a kvs ea=>
  cases (show u=aY a from rx)
  obtain ⟨_,_,xs,_,o,es,ep,h1,h2,_⟩:=(show bw X.prog X.w H s.heap a (.dT kvs) from I.hok a _ ea);exact cG nN I.kIn ⟨o,h1,h2.1⟩ e (λz=>nomatch z) h
 | @ins a C dx fs ea cl ha hn htk hm=>
  cases (show u=aY a from rx)
  obtain ⟨mA,O,_⟩:=Rx I.hok ea;obtain ⟨od,J,_⟩:=O.look;exact cG (PySem.W.kitx_own (cl.get _) cl.hd ha hn htk hm) I.kIn J e (λz=>nomatch z) h
end
structure ie (k:Nat) (A:bE):Prop where
 hd:A.handled=none
 dp:A.depth+3*k+5 < recursionLimit
 un:A.units+16*k+200 < cLine
theorem ie.mono {j k:Nat} {A:bE} (r:ie k A) (h:j≤k):ie j A:=⟨r.hd,by have:=r.dp;omega,by have:=r.un;omega⟩
theorem ie.deeper {k:Nat} {A:bE} (r:ie (k+1) A) (env:Env):ie k (A.deeper env):=
 ⟨r.hd,by have:=r.dp;show A.depth+1+3*k+5 < _;omega,by have:=r.un;show A.units+3+16*k+200 < _;omega⟩
theorem ie.depth {k:Nat} {A:bE} (r:ie k A):A.depth < recursionLimit:=by have:=r.dp;omega
theorem ie.units {k:Nat} {A:bE} (r:ie k A):A.units+64 < cLine:=by have:=r.un;omega
def tNil:TA:=λ_ H Q=>Q [] H
def Dx (ta:TE) (tr:TA):TA:=λσ H Q=>ta σ H λx H1=>tr σ H1 λxs H2=>Q (x::xs) H2
section
variable {X:Cx} {e:Expr} {es:List Expr} {te:TE} {t:TA} {pos:Pos}
theorem Nm:PA X [] tNil:=λ_ _ _ _ H Q I h=>fB ⟨[],H,I,.nil,h⟩
theorem Ce (ha:PE X e te) (hr:PA X es t) (hs:aZ (e::es) X.env=(false,eval e X.env)::aZ es X.env:=by rfl):PA X (e::es) (Dx te t):=by
 intro pos pins s σ H Q I h;rw[hs];show aH _ _ (kU ((false,eval e X.env)::cF pos (aZ es X.env))) _ _ s
 refine dO (thn `ag λu s1 ⟨x,H1,I1,r1,q1⟩=>?_);exact thn (hr pos pins s1 σ H1 _ I1 q1) λus s2 ⟨xs,H2,I2,r2,q2⟩=>⟨x::xs,H2,I2,.cons r1 r2,q2⟩
def tTup (t:TA):TE:=λσ H Q=>t σ H λxs H1=>xs.length≤sizeLine∧∀p,H1 p=none→Q `a4 (upd H1 p `aU)
def tLst (t:TA):TE:=λσ H Q=>t σ H λxs H1=>xs.length≤sizeLine∧∀p,H1 p=none→Q `a4 (upd H1 p `U)
theorem pe_tup {x1} (h:PA X es t):PE X (.Tuple es x1 pos) (tTup t):=by
 intro pins s σ H Q I hq;refine wpAny_Tuple_spliced (thn (h pos pins s σ H _ I hq) λus s1 ⟨xs,H1,I1,r,z,q⟩=>⟨by rw[←r.length];exact z,?_⟩);have hf:H1 s1.heap.objs.size=none:=I1.hok.fresh (aa3 _);refine ⟨.ref s1.heap.objs.size,upd H1 s1.heap.objs.size `aU,I1.laid (t':=s1.toks) (λb u e=>aD _ e) (aa3 _) ?_,rfl,q _ hf⟩;exact ⟨z,us,r,⟨_,aI _ rfl,rfl,_,rfl,rfl⟩⟩
theorem pe_lst (h:PA X es t):PE X (.List es pos) (tLst t):=by
 intro pins s σ H Q I hq;refine wpAny_List_spliced (thn (h pos pins s σ H _ I hq) λus s1 ⟨xs,H1,I1,r,z,q⟩=>⟨by rw[←r.length];exact z,?_⟩);have hf:H1 s1.heap.objs.size=none:=I1.hok.fresh (aa3 _);refine ⟨.ref s1.heap.objs.size,upd H1 s1.heap.objs.size `U,I1.laid (t':=s1.toks) (λb u e=>aD _ e) (aa3 _) ?_,rfl,q _ hf⟩;exact ⟨z,us,0,r,aI _ rfl⟩
end
abbrev Sp:=List V→Hp→VK→XK→Prop
abbrev CXT:=List Env→Hp→aE→XK→Value→aE→Prop
structure Env0 (P:aU) (w:bA) (K:aF) (mg:Str→Option Value) (base:Heap) (A:bE) (outer:List Env) (s:aE) (H:Hp):Prop where
 frames:A.frames=aA outer
 mod:Mod K mg base
 bs:∀b o,base.get? b=aA o→s.heap.get? b=aA o∧H b=none
 bsz:base.objs.size≤s.heap.objs.size
 uz:s.heap.FunFrames base outer
 frf:∀b∈frs outer,H b=none
 hok:HOk P w H s.heap
 bare:gL s.gens
def CE (outer:List Env) (P:aU) (w:bA) (H:Hp) (s:aE) (Q:VK) (u:Value) (s':aE):Prop:=
 ∃v H',s'.os=s.os∧gL s'.gens∧Un (frs outer) [] H H' s.heap s'.heap∧HOk P w H' s'.heap∧RelV v u∧Q v H'
def CR (CX:CXT) (outer:List Env) (P:aU) (w:bA) (H:Hp) (s:aE) (Q:VK) (E:XK) (r:iE) (s':aE):Prop:=
 match r with
 | .ok (.ret u)=>CE outer P w H s Q u s'
 | .ok _=>False
 | .error e=>CX outer H s E e s'
structure ox (P:aU) (w:bA) (K:aF) (mg:Str→Option Value) (base:Heap) (CX:CXT) (k:Nat) (f:Addr) (fd:cP) (ps:List Str) (sp:Sp):Prop where
 len:∀vs H Q E,sp vs H Q E→vs.length=ps.length
 run:∀(A:bE) (outer:List Env) (s:aE) (H:Hp) (args:Args) (us:List Value) (vs:List V) (Q:VK) (E:XK),ie k A→Env0 P w K mg base A outer s H→lB s fd args (ps.zip us)→Vals vs us→sp vs H Q E→
  dM (aL P w) A (.call (.ref f) args) (CR CX outer P w H s Q E) s
theorem ox.mono {P:aU} {w:bA} {K:aF} {mg:Str→Option Value} {base:Heap} {CX:CXT} {j k:Nat} {f:Addr} {fd:cP} {ps:List Str} {sp:Sp} (F:ox P w K mg base CX j f fd ps sp) (h:j≤k):
  ox P w K mg base CX k f fd ps sp:=⟨F.len,λA outer s H args us vs Q E hr=>F.run A outer s H args us vs Q E (hr.mono h)⟩
section
variable {X:Cx} {pins:List (Addr×Obj)} {σ:St} {H:Hp} {s s':aE}
theorem Inv.j7 (I:Inv X pins σ H s):Env0 X.prog X.w X.K X.mg X.base X.A X.stack s H:=
 ⟨I.ok.frames,I.ok.mod,I.bs,ab6 I.ok.bsz I.sz,I.stack,I.wu,I.hok,I.bare⟩
theorem Inv.after {Q:VK} {u:Value} (I:Inv X pins σ H s) (h:CE X.stack X.prog X.w H s Q u s'):EP X pins σ Q u s':=by
 obtain ⟨v,H',os,bare,un,hok,r,q⟩:=h;obtain ⟨hh,g,d,t,os'⟩:=s';obtain rfl:os'=s.os:=os;exact ⟨v,H',I.call (h':=hh) (g':=g) (d':=d) (t':=t) (ch:=[]) un hok bare (λb z=>absurd z `b),r,q⟩
end
def E9 (sp:Sp) (dvs:List V) (E:XK) (t:TA):TE:=λσ H Q=>t σ H λvs H1=>sp (vs++dvs) H1 Q E
def Binds (K:aF) (fd:cP) (ps:List Str) (ds:List Value):Prop:=
 ∀(s:aE) (us:List Value),K.In s.heap→(us++ds).length=ps.length→lB s fd ⟨us,[]⟩ (ps.zip (us++ds))
theorem Binds.all {K:aF} {fd:cP} {ps:List Str} (h:∀us:List Value,us.length=ps.length→bJ fd ⟨us,[]⟩=pure (ps.zip us)):Binds K fd ps []:=λs us _ hl=>by
 rw[ab1] at hl ⊢;exact .of_eq (h us hl)
def Passes (CX:CXT) (X:Cx) (E:XK):Prop:=∀(pins:List (Addr×Obj)) (σ:St) (H:Hp) (s:aE) (e:Value) (s':aE),Inv X pins σ H s→CX X.stack H s E e s'→X.xe e s'
section
variable {X:Cx} {CX:CXT} {k:Nat} {f C:Addr} {fd:cP} {ps:List Str} {sp:Sp} {dvs:List V} {ds:List Value} {E:XK} {x m:Str} {p pos apos:Pos} {e o:Expr} {es:List Expr} {ta:TE} {t:TA}
theorem run_fn {pins:List (Addr×Obj)} {σ:St} {H:Hp} {s:aE} {Q:VK} {us:List Value} {vs:List V} (F:ox X.prog X.w X.K X.mg X.base CX k f fd ps sp) (hr:ie k X.A) (hb:Binds X.K fd ps ds) (hd:Vals dvs ds) (hx:Passes CX X E)
  (I:Inv X pins σ H s) (r:Vals vs us) (h:sp (vs++dvs) H Q E):aH `d X.A (call (.ref f) us) `ax X.xe s:=by
 have r2:Vals (vs++dvs) (us++ds):=r.append hd;have hl:(us++ds).length=ps.length:=by rw[←r2.length];exact F.len _ _ _ _ h
 refine iY (fE (F.run X.A X.stack s H ⟨us,[]⟩ (us++ds) (vs++dvs) Q E hr I.j7 (hb s us I.kIn hl) r2 h) λr s' hq=>?_);cases r with
 | error e=>exact hx pins σ H s e s' I hq
 | ok fl=>
  cases fl with
  | ret u=>exact I.after hq
  | next=>exact False.elim hq
  | brk=>exact False.elim hq
  | cont=>exact False.elim hq
theorem Dr (F:ox X.prog X.w X.K X.mg X.base CX k f fd ps sp) (hr:ie k X.A) (hg:Gl X x) (hm:X.mg x=aA (.ref f)) (hk:aO X.K (.ref f)=true) (hb:Binds X.K fd ps ds) (hd:Vals dvs ds) (hx:Passes CX X E)
  (ha:PA X (e::es) t) (hdb:(x==("__debug__":Str))=false:=by decide) (he:aZ (e::es) X.env=(false,eval e X.env)::aZ es X.env:=by rfl) (hpl:(cF pos (aZ es X.env)).any (·.1)=false:=by rfl):
  PE X `az (E9 sp dvs E t):=by
 intro pins s σ H Q I h;refine bW (Cb I hg hm ?_ hdb);refine mY (h₀:=X.base) I.ok.mod.kin hk (thn `Y λus s1 ⟨vs,H1,I1,r,q⟩=>⟨I1.kIn,?_⟩) he hpl;exact run_fn F hr hb hd hx I1 r q
end
structure av (N P:List Str) (sc:Scope):Prop where
 kind:sc.kind=.function
 co:sc.isCoroutine=false
 gen:sc.isGenerator=false
 nd:N.Nodup
 pre:N.take P.length=P
 par:∀x∈P,sc.names.lookup x=aA .local∨sc.names.lookup x=aA .cell
 nofree:∀y∈sc.names,y.2≠.free
theorem Bn {kindOf:Str→Option nU} {x:Str}:∀{binds:List (Str×Value)} {m:Str→Option Value},(∀v,(x,v)∉binds)→lU kindOf binds m x=m x
 | [],_,_=>rfl
 | (n,v)::r,m,h=>by
  unfold lU;rw[Bn λw hw=>h w (aab _ hw)];split
  ·have:x≠n:=by rintro rfl;exact h v aa6
   simp[this]
  ·rfl
theorem Bp {kindOf:Str→Option nU} {x:Str}:∀{binds:List (Str×Value)} {m:Str→Option Value},(∀v,(x,v)∉binds)→lW kindOf binds m x=m x
 | [],_,_=>rfl
 | (n,v)::r,m,h=>by
  unfold lW;rw[Bp λw hw=>h w (aab _ hw)];split
  ·rfl
  ·have:x≠n:=by rintro rfl;exact h v aa6
   simp[this]
theorem Bf {kindOf:Str→Option nU} {x:Str} {v:Value}:∀{P:List Str} {vs:List Value} {i:Nat} {m:Str→Option Value},P.Nodup→P[i]?=aA x→vs[i]?=aA v→kindOf x=aA .local→
  lU kindOf (P.zip vs) m x=aA v
 | [],_,_,_,_,h,_,_=>by simp at h
 | _::_,[],_,_,_,_,h,_=>by simp at h
 | p::P,w::vs,0,m,nd,h1,h2,hk=>by
  simp at h1 h2;subst h1;subst h2;show lU kindOf ((p,w)::P.zip vs) m p=_
  unfold lU;rw[Bn λv hv=>(List.nodup_cons.mp nd).1 (ac9 hv).1,if_pos hk];simp
 | p::P,w::vs,i+1,m,nd,h1,h2,hk=>by
  show lU kindOf ((p,w)::P.zip vs) m x=_
  unfold lU;exact Bf (i:=i) (List.nodup_cons.mp nd).2 (by simpa using h1) (by simpa using h2) hk
theorem Aj {kindOf:Str→Option nU} {x:Str} {v:Value}:∀{P:List Str} {vs:List Value} {i:Nat} {m:Str→Option Value},P.Nodup→P[i]?=aA x→vs[i]?=aA v→kindOf x≠aA .local→
  lW kindOf (P.zip vs) m x=aA v
 | [],_,_,_,_,h,_,_=>by simp at h
 | _::_,[],_,_,_,_,h,_=>by simp at h
 | p::P,w::vs,0,m,nd,h1,h2,hk=>by
  simp at h1 h2;subst h1;subst h2;show lW kindOf ((p,w)::P.zip vs) m p=_
  unfold lW;rw[Bp λv hv=>(List.nodup_cons.mp nd).1 (ac9 hv).1,if_neg hk];simp
 | p::P,w::vs,i+1,m,nd,h1,h2,hk=>by
  show lW kindOf ((p,w)::P.zip vs) m x=_
  unfold lW;exact Aj (i:=i) (List.nodup_cons.mp nd).2 (by simpa using h1) (by simpa using h2) hk
noncomputable def start (N:List Str) (vs:List V):St:=vs.map aA++aba (N.length - vs.length) none
noncomputable def qr (CX:CXT) (P:aU) (w:bA) (K:aF) (mg:Str→Option Value) (base:Heap) (N:List Str) (qual:Str) (scope:Scope) (f:Addr) (cd:Value) (A:bE) (outer:List Env) (s:aE) (H:Hp) (E:XK):Cx where
 prog:=P
 w:=w
 K:=K
 mg:=mg
 base:=base
 A:=A.deeper (gE qual scope s.heap.objs.size f cd)
 N:=N
 s₀:=s
 H₀:=H
 env:=gE qual scope s.heap.objs.size f cd
 outer:=outer
 stack:=gE qual scope s.heap.objs.size f cd::outer
 ex:=[]
 calm:=true
 fn:=λ_=>true
 pn:=[]
 xe:=λe s'=>aH (aL P w) (A.deeper (gE qual scope s.heap.objs.size f cd)) (leaving (gE qual scope s.heap.objs.size f cd) e) (λ_ s''=>CX outer H s E e s'') (λe' s''=>CX outer H s E e' s'') s'
theorem Dz {sc:Scope} {n:Nat} {x:Str} (h:sc.names.lookup x=aA .cell):∃c,(jS n sc.names []).lookup x=aA c:=by
 have q:=kK sc.names n [] (.inl h);exact Option.isSome_iff_exists.mp q
theorem K9 {CX:CXT} {P:aU} {w:bA} {K:aF} {mg:Str→Option Value} {base:Heap} {N ps:List Str} {qual:Str} {scope:Scope} {f:Addr} {cd:Value} {A:bE} {outer:List Env} {s s1:aE} {H:Hp} {E:XK} {us:List Value} {vs:List V}
  (S:av N ps scope) (hd:A.handled=none) (e0:Env0 P w K mg base A outer s H) (hl:vs.length=ps.length) (r:Vals vs us)
  (x:InCallC s s.heap.objs.size (lU (gE qual scope s.heap.objs.size f cd).kindOf (ps.zip us) λ_=>none) (jS (s.heap.objs.size+1) scope.names []) (lW (gE qual scope s.heap.objs.size f cd).kindOf (ps.zip us) λ_=>none) s1):
  Inv (qr CX P w K mg base N qual scope f cd A outer s H E) [] (start N vs) H s1:=by
 have hpl:ps.length≤N.length:=by have:=congrArg ac5 S.pre;rw[aau] at this;omega
 obtain ⟨h1,tk,rfl,hk⟩:=x.done;have noA:∀b:Addr,b∉(qr CX P w K mg base N qual scope f cd A outer s H E).ex:=λb z=>absurd (show b∈([]:List Addr) from z) `b;refine ⟨⟨e0.mod,S.kind,rfl,rfl,aa3 _,λy z c h1 h2=>?_,λy hy=>?_,λy c _ h=>?_,λ_=>hd,Around.frames_deeper e0.frames,.inr ⟨rfl,rfl⟩,λb z=>absurd z (noA b),e0.bs,e0.bsz,λb _ _=>noA b,λb z=>absurd z (noA b),e0.uz,e0.frf⟩,
  rfl,e0.bare,Un.kept hk,⟨_,x.toInCall.ns,λi y v h1 h2 h3=>?_⟩,λy c h=>⟨_,x.cell y c h⟩,e0.hok.fresh (aa3 _),λy c h=>?_,λp hp=>absurd (show p∈([]:List (Addr×Obj)) from hp) `b,e0.hok.kept hk,?_⟩
 ·exact name_of_addr x.apart (eN h1) (eN h2)
 ·have hy:scope.names.lookup y=aA .cell∨scope.names.lookup y=aA .free:=hy;rcases hy with hy | hy
  ·exact Dz hy
  ·exact absurd rfl (S.nofree _ (eN hy))
 ·exact ac7 (x.above y c (eN h))
 ·have hi:i < vs.length:=by
   unfold start at h2;by_cases hi:i < vs.length
   ·exact hi
   ·rw[aah (by simpa using hi)] at h2;rw[adz] at h2;split at h2 <;> cases h2
  have ha:vs[i]?=aA v:=by
   unfold start at h2;rw[aak (by simpa using hi),aa4] at h2;cases e:vs[i]? with
   | none=>rw[e] at h2;cases h2
   | some a=>rw[e] at h2;cases h2;rfl
  obtain ⟨u,hu,rv⟩:=r.get ha;have hp:ps[i]?=aA y:=by
   rw[←S.pre,acy (by omega)];exact h1
  have ndP:ps.Nodup:=by rw[←S.pre];exact S.nd.sublist (List.take_sublist _ _)
  refine ⟨u,rv,?_⟩;rcases S.par y (aai hp) with k | k
  ·exact .inl ⟨k,Bf ndP hp hu k⟩
  ·obtain ⟨c,e⟩:=Dz (n:=s.heap.objs.size+1) k;refine .inr ⟨.inl k,c,e,?_⟩;have q:=x.cell y c e;rw[Aj ndP hp hu (by show scope.names.lookup y≠_;rw[k];decide)] at q;exact q
 ·exact e0.hok.fresh (ac7 (x.above y c (eN h)))
 ·unfold start;show _=N.length
  rw[aa2,aa0,abb];omega
theorem fn_of {CX:CXT} {P:aU} {w:bA} {K:aF} {mg:Str→Option Value} {base:Heap} {k:Nat} {f:Addr} {name qual:Str} {params:Arguments} {body:List Stmt} {scope:Scope} {dV kV doc pm cdv ct oc:Value} {an od:Option Addr}
  {osl:Array (Option Value)} {N ps:List Str} {sp:Sp} (lk:K.lookup f=aA ⟨oc,od,.func (aW name qual params body scope dV kV doc pm an cdv ct),osl⟩) (hcd:aR K cdv qual=true) (S:av N ps scope)
  (len:∀vs H Q E,sp vs H Q E→vs.length=ps.length)
  (hbody:∀(A:bE) (outer:List Env) (s:aE) (H:Hp) (vs:List V) (Q:VK) (E:XK),ie k (A.deeper (gE qual scope s.heap.objs.size f cdv))→sp vs H Q E→
   ∃t,PSs (qr CX P w K mg base N qual scope f cdv A outer s H E) body t∧t { nx:=λ_ H'=>Q .non H',rt:=Q } (start N vs) H):
  ox P w K mg base CX (k+1) f (aW name qual params body scope dV kV doc pm an cdv ct) ps sp:=by
 refine ⟨len,λA outer s H args us vs Q E hr e0 hb r hsp=>?_⟩;have hl:=len _ _ _ _ hsp;have KX:K.In s.heap:=e0.mod.kin.keeps λb o e=>(e0.bs b o e).1;have lim:s.heap.NoLimit:=e0.mod.nolimit.keeps λb o e=>(e0.bs b o e).1;have hkind:∀y∈ps.zip us,scope.names.lookup y.1=aA .local∨(scope.names.lookup y.1=aA .cell∧((jS (s.heap.objs.size+1) scope.names []).lookup y.1).isSome=true):=λ⟨n,v⟩ hy=>by
  rcases S.par n (ac9 hy).1 with q | q
  ·exact .inl q
  ·exact .inr ⟨q,kK _ _ _ (.inl q)⟩
 refine codeAny_call_function hr.depth (KX _ _ lk) rfl S.co S.gen rfl (PySem.W.codeRec_of KX hcd) (hb _ _ _ _ ?_);refine wpAny_newFunctionEnv_cells S.kind hkind λenv he s1 x=>?_;subst he;refine ⟨lim.keeps x.toInCall.keep,codeAny_func ?_⟩;obtain ⟨t,ht,hq⟩:=hbody A outer s H vs Q E (hr.deeper _) hsp;have I:Inv (qr CX P w K mg base N qual scope f cdv A outer s H E) [] (start N vs) H s1:=K9 S hr.hd e0 hl r x;refine bG (ht [] s1 (start N vs) H _ I hq) (λfl s' hs=>?_) λe s' hs=>hs;have fin:∀{σ':St} {H':Hp} {v:V} {u:Value},Inv (qr CX P w K mg base N qual scope f cdv A outer s H E) [] σ' H' s'→RelV v u→Q v H'→CE outer P w H s Q u s':=
  λ{σ' H' v u} J rv q=>⟨v,H',J.os,J.bare,J.base,J.hok,rv,q⟩
 cases fl with
 | ret u=>
  obtain ⟨v,σ',H',J,rv,q⟩:=hs;exact fin J rv q
 | next=>
  obtain ⟨σ',H',J,q⟩:=hs;exact fin (v:=V.non) (u:=bV) J rfl q
 | brk=>
  obtain ⟨_,_,_,q⟩:=hs;exact False.elim q
 | cont=>
  obtain ⟨_,_,_,q⟩:=hs;exact False.elim q
section
variable {X:Cx} {x:Str} {p pos:Pos} {e:Expr} {es:List Expr} {t:TA} {id T:String} {r:List V→Hp→VK→Prop}
def tCB (r:List V→Hp→VK→Prop) (t:TA):TE:=λσ H Q=>t σ H λvs H1=>r vs H1 Q
theorem Nt (hc:fo X (.builtin id) r) (hg:Gl X x) (hm:X.mg x=none) (hv:bM x=aA (.builtin id)) (ha:PA X (e::es) t) (hn:x≠"__name__":=by decide) (hdb:(x==("__debug__":Str))=false:=by decide)
  (he:aZ (e::es) X.env=(false,eval e X.env)::aZ es X.env:=by rfl) (hpl:(cF pos (aZ es X.env)).any (·.1)=false:=by rfl):PE X `az (tCB r t):=by
 intro pins s σ H Q I h;refine bW (gb I hg hm hv ?_ hn hdb);exact PyProof.Rows.callWith_builtin1 (thn `Y λus s1 ⟨vs,H1,I1,r1,q1⟩=>hc pins s1 σ H1 vs us Q I1 r1 q1) he hpl
theorem Lg (hc:fo X (.type T) r) (hg:Gl X x) (hm:X.mg x=none) (hv:bM x=aA (.type T)) (ha:PA X (e::es) t) (hn:x≠"__name__":=by decide) (hdb:(x==("__debug__":Str))=false:=by decide)
  (he:aZ (e::es) X.env=(false,eval e X.env)::aZ es X.env:=by rfl) (hpl:(cF pos (aZ es X.env)).any (·.1)=false:=by rfl):PE X `az (tCB r t):=by
 intro pins s σ H Q I h;refine bW (gb I hg hm hv ?_ hn hdb);exact bH (thn `Y λus s1 ⟨vs,H1,I1,r1,q1⟩=>hc pins s1 σ H1 vs us Q I1 r1 q1) he hpl
end
end L2
namespace HT
open PySem PyProof.Rows
section
open PySem.SeqAt
open PySem.AutoSeq1 (wpAny_loadPart')
open PySem.MeetsSeq PySem.MeetsSeq2 PySem.MeetsSeq3
end
section
variable {prog:aU} {w:bA} {A:bE} {E:Value→aE→Prop} {s:aE}
theorem Ui {t b:Addr} {vs ws:List Value} {Q:Value→aE→Prop} (ht:lS s.heap t vs.toArray) (hb:lS s.heap b ws.toArray) (hv:vs≠[])
  (h1:ws=[]→Q `N s) (h2:ws≠[]→Q `m { s with heap:=s.heap.push { cls:=.type "tuple",data:=.seq (vs++ws).toArray } })
  (hsz:vs.length+ws.length≤sizeLine):aH `e A (cL .Add `N `Z) Q E s:=by
 obtain ⟨⟨cls,dd,data,sl⟩,ho,hc,n,hd⟩:=id ht;obtain ⟨⟨cls2,dd2,data2,sl2⟩,ho2,hc2,n2,hd2⟩:=id hb;simp only at hc hd hc2 hd2;subst hc hd hc2 hd2;have e:vs.toArray++ws.toArray=(vs++ws).toArray:=by simp
 by_cases hw:ws=[]
 ·exact mZ ⟨_,ho,rfl⟩ ⟨_,ho2,rfl⟩ jG mH gW gP (gF _ _)
   (tuple_addW1 t b vs.toArray ws.toArray n n2 dd dd2 sl sl2 (by simpa using hv) (by simp[hw])) ⟨ho,ho2,h1 hw⟩
 ·refine mZ ⟨_,ho,rfl⟩ ⟨_,ho2,rfl⟩ jG mH gW gP (gF _ _)
   (tuple_addW2 t b vs.toArray ws.toArray n n2 dd dd2 sl sl2 (by simpa using hv) (by simpa using hw) (by rw[aa9,aa9];exact hsz)) ⟨ho,ho2,?_⟩
  rw[e];exact h2 hw
noncomputable def sIx (n d:Nat):Option Int→Nat
 | none=>d
 | some v=>if v < 0 then (v+(n:Int)).toNat else min v.toNat n
theorem Eo (n d:Nat):sIx n d none=d:=rfl
theorem Js (n d k:Nat):sIx n d (aA (k:Int))=min k n:=by
 show (if (k:Int) < 0 then ((k:Int)+(n:Int)).toNat else min (k:Int).toNat n)=min k n
 rw[if_neg (by omega),ack]
theorem G8 (n d:Nat) (hd:d≤n) (o:Option Int):sIx n d o≤n:=by
 cases o with
 | none=>exact hd
 | some v=>
  show (if v < 0 then (v+(n:Int)).toNat else min v.toNat n)≤n
  by_cases hv:v < 0
  ·rw[if_pos hv];omega
  ·rw[if_neg hv];exact Nat.min_le_right _ _
theorem Ki (v:Int) (n d:Nat):(if v < 0 then max (v+(n:Int)) 0 else min v (n:Int))=((sIx n d (aA v):Nat):Int):=by
 show (if v < 0 then max (v+(n:Int)) 0 else min v (n:Int))=(((if v < 0 then (v+(n:Int)).toNat else min v.toNat n):Nat):Int)
 by_cases hv:v < 0
 ·simp only[if_pos hv];omega
 ·simp only[if_neg hv];omega
theorem Ho (lo hi:Option Int) (n:Nat):fZ lo hi 1 (n:Int)=(((sIx n 0 lo:Nat):Int),((sIx n n hi:Nat):Int)):=by
 have h1:¬((1:Int) < 0):=by omega
 unfold fZ;simp only[h1,if_false];refine Prod.ext ?_ ?_
 ·cases lo with
  | none=>rfl
  | some v=>exact Ki v n 0
 ·cases hi with
  | none=>rfl
  | some v=>exact Ki v n n
theorem Ht (i j:Nat):dY (i:Int) (j:Int) 1=j - i:=by
 unfold dY;have h1:(1:Int) > 0:=by omega
 simp only[h1,if_true,Int.ediv_one];split <;> omega
theorem yz {v:Value} {o:Option Int} {Q:Option Int→aE→Prop} (p:gX v o) (h:Q o s):aH `e A (Builtin.Slice.slicePartIndex v) Q E s:=by
 cases p with
 | none=>exact slicePart_none h
 | int i t=>exact slicePart_int h
theorem jw {sl:Addr} {vl vu:Value} {lo hi:Option Int} {n:Nat} {Q:Int×Int×Nat→aE→Prop} (hs:s.heap.IsSliceOf sl vl vu .none) (pl:gX vl lo) (pu:gX vu hi)
  (h:Q (((sIx n 0 lo:Nat):Int),1,sIx n n hi - sIx n 0 lo) s):aH `e A (iT (.ref sl) (pure (n:Int))) Q E s:=by
 obtain ⟨os,hos,hcs,hds⟩:=id hs;unfold iT Builtin.Slice.sliceFields;refine aC (aC (bC hos hds (x:=vl) rfl (aC (bC hos hds (x:=vu) rfl (aC (bC hos hds (x:=.none) rfl (aG ?_)))))));refine aC (slicePart_none ?_);show aH _ _ (if ((1:Int)==0)=true then _ else _) _ _ s
 rw[if_neg `a];refine aC (yz pl (aC (yz pu (aC (aG ?_)))));show aH _ _ (match fZ lo hi 1 (n:Int) with | (lo,hi)=>pure (lo,(1:Int),dY lo hi 1)) _ _ s
 rw[Ho lo hi n];show aH _ _ (pure (((sIx n 0 lo:Nat):Int),(1:Int),dY ((sIx n 0 lo:Nat):Int) ((sIx n n hi:Nat):Int) 1)) _ _ s
 rw[Ht];exact aG h
theorem Oj (xs:Array Value) (i k:Nat):((abl k).filterMap λ(m:Nat)=>xs[((i:Int)+(m:Int)*1).toNat]?).toArray=((xs.toList.drop i).take k).toArray:=by
 have e:(λ(m:Nat)=>xs[((i:Int)+(m:Int)*1).toNat]?)=λm=>xs[i+m]?:=by
  funext m
  have:((i:Int)+(m:Int)*1).toNat=i+m:=by omega
  rw[this]
 rw[e];have:=pick_run xs i k;rw[List.filterMap_map] at this;have e2:((λx=>xs[x]?) ∘ λx=>i+x)=λm=>xs[i+m]?:=rfl;rw[e2] at this;rw[this]
theorem tf {t sl:Addr} {items:Array Value} {vl vu:Value} {lo hi:Option Int} {Q:Value→aE→Prop} (ht:lS s.heap t items) (hs:s.heap.IsSliceOf sl vl vu .none) (pl:gX vl lo) (pu:gX vu hi)
  (hw:¬(sIx items.size 0 lo=0∧sIx items.size items.size hi=items.size))
  (h:Q `m { s with heap:=s.heap.push { cls:=.type "tuple",data:=.seq ((items.toList.drop (sIx items.size 0 lo)).take (sIx items.size items.size hi - sIx items.size 0 lo)).toArray } })
  (hsz:items.size≤sizeLine):aH `e A (gM `N (.ref sl)) Q E s:=by
 have htake:sizeOk (.seq ((items.toList.drop (sIx items.size 0 lo)).take (sIx items.size items.size hi - sIx items.size 0 lo)).toArray):=by
  show ((items.toList.drop (sIx items.size 0 lo)).take (sIx items.size items.size hi - sIx items.size 0 lo)).toArray.size≤sizeLine
  rw[aa9,aau,aav,abf];omega
 have hj:sIx items.size items.size hi≤items.size:=G8 _ _ (aa3 _) hi;obtain ⟨os,hos,hcs,hds⟩:=id hs;have hTs:s.TypeIs (.ref sl) "slice":=⟨os,hos,hcs⟩;unfold gM;try with_reducible refine bK ?_
 first | refine aC (aG ?_) | skip
 refine aC (nO ht.typeIs `a ?_);refine aC (bI (name:=aB "__getitem__") ht.typeIs dG
  (bL dG ht.typeIs mL ?_ (nA _ _)))
 show aH _ _ (iU `N >>=_) _ _ s
 refine aC (tupleItemsOf_ ht ?_);refine aC (fF hTs ?_);rw[if_pos `a];refine aC (jw hs pl pu ?_);have hno:¬((((sIx items.size 0 lo:Nat):Int)==0&&(1:Int)==1&&(sIx items.size items.size hi - sIx items.size 0 lo)==items.size)=true):=by
  intro q;rw[ac3,ac3] at q;have q1:((sIx items.size 0 lo:Nat):Int)=0:=eq_of_beq q.1.1;have q2:sIx items.size items.size hi - sIx items.size 0 lo=items.size:=eq_of_beq q.2;exact hw ⟨by omega,by omega⟩
 show aH _ _ (if (((sIx items.size 0 lo:Nat):Int)==0&&(1:Int)==1&&(sIx items.size items.size hi - sIx items.size 0 lo)==items.size)=true then _ else _) _ _ s
 rw[if_neg hno,Oj];first
  | exact aC (m:=eG _) (cO (aG ⟨_,rfl,aG h⟩) htake)
  | exact aC (m:=eG _) (cO (aC (aG (aG ⟨_,rfl,aG h⟩))) htake)
  | exact aC (aC (m:=eG _) (cO (aG (aG ⟨_,rfl,aG h⟩)) htake))
  | exact aC (aC (m:=eG _) (cO (aG ⟨_,rfl,aG h⟩) htake))
end
end HT
namespace L2
open PySem PySem.Spec PyProof.Rows
abbrev TO:=St→Hp→(Option Int→Hp→Prop)→Prop
def PO (X:Cx) (e:Option Expr) (t:TO):Prop:=
 ∀(pins:List (Addr×Obj)) (s:aE) (σ:St) (H:Hp) (Q:Option Int→Hp→Prop),Inv X pins σ H s→t σ H Q→
  aH `d X.A (evalPart e X.env) (λu s'=>∃o H',Inv X pins σ H' s'∧gX u o∧Q o H') X.xe s
def Jg:TO:=λ_ H Q=>Q none H
def N0 (t:TE):TO:=λσ H Q=>t σ H λx H1=>∃i,x=.int i∧Q (aA i) H1
section
variable {X:Cx} {e:Expr} {te:TE} {lo hi:Option Expr} {tl th:TO} {pos p2:Pos}
theorem R4:PO X none Jg:=by
 intro pins s σ H Q I h;rw[evalPart_none];exact aG ⟨none,H,I,.none,h⟩
theorem Uz (h:PE X e te):PO X (aA e) (N0 te):=by
 intro pins s σ H Q I hw;rw[evalPart_some];refine thn (h pins s σ H _ I hw) λu s1 ⟨x,H1,I1,r1,q1⟩=>?_;obtain ⟨i,rfl,q⟩:=q1;obtain ⟨t,rfl⟩:=r1;exact ⟨aA i,H1,I1,.int i t,q⟩
def SlR (X:Cx) (r:V→Option Int→Option Int→Hp→VK→Prop):Prop:=
 ∀(pins:List (Addr×Obj)) (s:aE) (σ:St) (H:Hp) (x:V) (v vl vu:Value) (lo hi:Option Int) (sl:Addr) (Q:VK),Inv X pins σ H s→RelV x v→s.heap.IsSliceOf sl vl vu .none→gX vl lo→gX vu hi→r x lo hi H Q→
  ∃T id,dZ (.type T) "__getitem__"=pure (aA (.builtin id))∧s.TypeIs v T∧aH `d X.A (gM v (.ref sl)) `ax X.xe s
def tSl (r:V→Option Int→Option Int→Hp→VK→Prop) (te:TE) (tl th:TO):TE:=λσ H Q=>te σ H λx H1=>tl σ H1 λl H2=>th σ H2 λu H3=>r x l u H3 Q
theorem Mv {r:V→Option Int→Option Int→Hp→VK→Prop} (hr:SlR X r) (he:PE X e te) (hl:PO X lo tl) (hu:PO X hi th):PE X (.Subscript e (.Slice lo hi none p2) pos) (tSl r te tl th):=by
 intro pins s σ H Q I h;refine nZ (thn (he pins s σ H _ I h) λv s1 ⟨x,H1,I1,r1,q1⟩=>?_);refine wpAny_Slice (thn (hl pins s1 σ H1 _ I1 q1) λvl s2 ⟨l,H2,I2,pl,q2⟩=>thn (hu pins s2 σ H2 _ I2 q2) λvu s3 ⟨u,H3,I3,pu,q3⟩=>?_);rw[evalPart_none];refine aG ?_;have I4:Inv X pins σ H3 { s3 with heap:=s3.heap.push { cls:=.type "slice",data:=.fields #[vl,vu,.none] } }:=I3.kept (t':=s3.toks) λb ob q=>aD _ q;obtain ⟨T,id,hT,ht,hg⟩:=hr pins { s3 with heap:=s3.heap.push { cls:=.type "slice",data:=.fields #[vl,vu,.none] } } σ H3 x v vl vu l u s3.heap.objs.size Q I4 r1 (Heap.IsSliceOf.new ..) pl pu q3;show aH `d X.A (mJ e (.Slice lo hi none p2) v (.ref s3.heap.objs.size)) `ax X.xe { s3 with heap:=s3.heap.push { cls:=.type "slice",data:=.fields #[vl,vu,.none] } }
 exact tail_any (ops:=[.ref s3.heap.objs.size,v]) ht hT hg (by with_unfolding_all rfl)
noncomputable def ir (xs:List V) (lo hi:Option Int):List V:=(xs.drop (HT.sIx xs.length 0 lo)).take (HT.sIx xs.length xs.length hi - HT.sIx xs.length 0 lo)
theorem vq (xs:List V) (lo hi:Option Int):(ir xs lo hi).length≤xs.length:=by
 unfold ir;rw[aau,aav];omega
def rSlT (K:aF):V→Option Int→Option Int→Hp→VK→Prop:=λx lo hi H Q=>∃a xs,x=.ref a∧SqT K H a xs∧
 ¬(HT.sIx xs.length 0 lo=0∧HT.sIx xs.length xs.length hi=xs.length)∧∀p,H p=none→Q `a4 (upd H p (.tup (ir xs lo hi)))
theorem sl_tup:SlR X (rSlT X.K):=by
 intro pins s σ H x v vl vu lo hi sl Q I rx hs pl pu h;obtain ⟨a,xs,rfl,hx,hw,q⟩:=h;cases rx
 obtain ⟨its,r,ht,hz⟩:=I.tuple hx;have hlen:its.toArray.size=xs.length:=by rw[aa9];exact r.length.symm
 refine ⟨"tuple",_,PyProof.Rows.slot_tuple_getitem.lookup,ht.typeIs,?_⟩;refine HT.tf ht hs pl pu (by rw[hlen];exact hw) ?_ (by rw[hlen];exact hz);rw[hlen];refine ⟨.ref s.heap.objs.size,_,I.laid (t':=s.toks) (o:=.tup (ir xs lo hi)) (λb ob q=>aD _ q) (aa3 _) ?_,rfl,q _ `aG⟩;exact ⟨ab6 (vq xs lo hi) hz,_,(r.drop (HT.sIx xs.length 0 lo)).take (HT.sIx xs.length xs.length hi - HT.sIx xs.length 0 lo),⟨_,aI _ rfl,rfl,_,rfl,rfl⟩⟩
def rCatT (K:aF):R2:=λx y H Q=>∃a b xs ys,x=.ref a∧y=.ref b∧SqT K H a xs∧SqT K H b ys∧xs≠[]∧xs.length+ys.length≤sizeLine∧
 (ys=[]→Q `r H)∧(ys≠[]→∀p,H p=none→Q `a4 (upd H p (.tup (xs++ys))))
theorem Vals.we {xs:List V} {us:List Value} (r:Vals xs us):us=[]↔xs=[]:=by
 cases r with
 | nil=>simp
 | cons _ _=>simp
theorem Te:OpR X (cL .Add) (rCatT X.K):=by
 intro pins s σ H x y v u Q I rx ry h;obtain ⟨a,b,xs,ys,rfl,rfl,ha,hb,hx,hz,q1,q2⟩:=h;cases rx
 cases ry
 obtain ⟨its,r1,p1,_⟩:=I.tuple ha;obtain ⟨its2,r2,p2,_⟩:=I.tuple hb;refine HT.Ui p1 p2 (λz=>hx (r1.we.mp z)) (λz=>⟨.ref a,H,I,rfl,q1 (r2.we.mp z)⟩) (λz=>?_) (by rw[←r1.length,←r2.length];exact hz);refine ⟨.ref s.heap.objs.size,_,I.laid (t':=s.toks) (o:=.tup (xs++ys)) (λb ob q=>aD _ q) (aa3 _) ?_,rfl,q2 (λw=>z (r2.we.mpr w)) _ `aG⟩;exact ⟨by rw[aa2];exact hz,_,r1.append r2,⟨_,aI _ rfl,rfl,_,rfl,rfl⟩⟩
end
noncomputable def ixN (n:Nat) (i:Int):Option Nat:=if 0≤i then (if i < n then aA i.toNat else none) else if -(n:Int)≤i then aA (i+n).toNat else none
noncomputable def atI {α:Type} (xs:List α) (i:Int):Option α:=(ixN xs.length i).bind λj=>xs[j]?
theorem Dg {n:Nat} {i:Int} {j:Nat} (h:ixN n i=aA j):nB i n=aA j∧j < n∧-(n:Int)≤i∧i < n:=by
 unfold ixN at h;by_cases h0:0≤i
 ·rw[if_pos h0] at h;by_cases h1:i < n
  ·rw[if_pos h1] at h;have e:i.toNat=j:=aa7 h;exact ⟨by rw[nR h0 h1,e],by omega,by omega,h1⟩
  ·rw[if_neg h1] at h;cases h
 ·rw[if_neg h0] at h;by_cases h1:-(n:Int)≤i
  ·rw[if_pos h1] at h;have e:(i+n).toNat=j:=aa7 h;exact ⟨by rw[nC (by omega) h1,e],by omega,h1,by omega⟩
  ·rw[if_neg h1] at h;cases h
theorem Dt {α:Type} {xs:List α} {i:Int} {v:α} (h:atI xs i=aA v):∃j,nB i xs.length=aA j∧xs[j]?=aA v∧j < xs.length∧-(xs.length:Int)≤i∧i < xs.length:=by
 unfold atI at h;cases e:ixN xs.length i with
 | none=>rw[e] at h;cases h
 | some j=>
  rw[e] at h;obtain ⟨h1,h2,h3,h4⟩:=Dg e;exact ⟨j,h1,h,h2,h3,h4⟩
theorem ay {α:Type} {xs:List α} {j:Nat} {v:α} (h:xs[j]?=aA v):atI xs (j:Int)=aA v:=by
 have hj:j < xs.length:=(List.getElem?_eq_some_iff.mp h).1;have e:ixN xs.length (j:Int)=aA j:=by
  unfold ixN;rw[if_pos (by omega),if_pos (by omega)];simp
 unfold atI;rw[e];exact h
def Sv (b:Expr):Prop:=∀o i,kL b false o i=operate [o,i] (gM o i)
def IxR (X:Cx) (r:R2):Prop:=
 ∀(value slice:Expr) (pins:List (Addr×Obj)) (s:aE) (σ:St) (H:Hp) (x y:V) (v u:Value) (Q:VK),Inv X pins σ H s→RelV x v→RelV y u→r x y H Q→
  kL slice false v u=operate [v,u] (gM v u)→aH `d X.A (mJ value slice v u) `ax X.xe s
def MtR (X:Cx) (id:String) (r:V→List V→Hp→VK→Prop):Prop:=
 ∀(pins:List (Addr×Obj)) (s:aE) (σ:St) (H:Hp) (x:V) (xs:List V) (v:Value) (us:List Value) (Q:VK),Inv X pins σ H s→RelV x v→Vals xs us→r x xs H Q→
  aH `d X.A (call (.builtin id) (v::us)) `ax X.xe s
section
variable {X:Cx} {a b:Expr} {ta tb:TE} {pos:Pos}
theorem pe_ix {r:R2} (hr:IxR X r) (ha:PE X a ta) (hb:PE X b tb) (hs:Sv b):PE X (.Subscript a b pos) (tOp r ta tb):=by
 intro pins s σ H Q I h;exact nZ (binT ha hb I h λv u s2 x y H2 I2 rx ry q=>hr a b pins s2 σ H2 x y v u Q I2 rx ry q (hs _ _))
def rIxL (K:aF):R2:=λx y H Q=>∃p xs i v,x=.ref p∧y=.int i∧SqL K H p xs∧atI xs i=aA v∧Q v H
def rIxT (K:aF):R2:=λx y H Q=>∃p xs i v,x=.ref p∧y=.int i∧SqT K H p xs∧atI xs i=aA v∧Q v H
def rIxS:R2:=λx y H Q=>∃z i c,x=.str z∧y=.int i∧z.length≤sizeLine∧atI z.cps.toList i=aA c∧Q (.str ⟨#[c]⟩) H
theorem Kj:IxR X (rIxL X.K):=by
 intro value slice pins s σ H x y v u Q I rx ry h hs;obtain ⟨p,xs,i,z,rfl,rfl,hq,he,q⟩:=h;cases rx
 obtain ⟨t,rfl⟩:=ry;obtain ⟨its,r,pl,hz⟩:=I.list hq;obtain ⟨j,h1,h2,h3,h4,h5⟩:=Dt he;obtain ⟨w,ew,rw'⟩:=r.get h2;have hl:=r.length;have hn:=zt;have fin:EP X pins σ Q w s:=⟨z,H,I,rw',q⟩;by_cases h0:0≤i
 ·have hj:i.toNat=j:=by
   rw[nR h0 h5] at h1;exact aa7 h1
  exact item_listR pl.isList h0 (by omega) (by rw[hj];simpa using ew) fin hs
 ·have hj:(i+(its.toArray.size:Int)).toNat=j:=by
   rw[nC (by omega) h4] at h1;rw[aa9,←hl];exact aa7 h1
  exact kN (x:=w) pl.isList.typeIs slot_list_getitem.lookup
   (wpAny_getItem_list_neg (Q:=λr s'=>r=w∧EP X pins σ Q r s') pl.isList (by omega) (by rw[aa9] <;> omega) (by omega) (by rw[hj];simpa using ew) ⟨rfl,fin⟩) hs
theorem M9:IxR X (rIxT X.K):=by
 intro value slice pins s σ H x y v u Q I rx ry h hs;obtain ⟨p,xs,i,z,rfl,rfl,hq,he,q⟩:=h;cases rx
 obtain ⟨t,rfl⟩:=ry;obtain ⟨its,r,pl,hz⟩:=I.tuple hq;obtain ⟨j,h1,h2,h3,h4,h5⟩:=Dt he;obtain ⟨w,ew,rw'⟩:=r.get h2;have hl:=r.length;have hn:=zt;have fin:EP X pins σ Q w s:=⟨z,H,I,rw',q⟩;exact kN (x:=w) pl.typeIs slot_tuple_getitem.lookup
  (getItem_tuple (j:=j) (Q:=λr s'=>r=w∧EP X pins σ Q r s') pl (by omega) (by omega) (by rw[aa9,←hl];exact h1) (by simpa using ew) ⟨rfl,fin⟩) hs
theorem G1:IxR X rIxS:=by
 intro value slice pins s σ H x y v u Q I rx ry h hs;obtain ⟨z,i,c,rfl,rfl,hz,he,q⟩:=h;obtain ⟨t,rfl⟩:=rx;obtain ⟨t',rfl⟩:=ry;obtain ⟨j,h1,h2,h3,h4,h5⟩:=Dt he;have hl:z.cps.toList.length=z.length:=by simp[Str.length]
 rw[hl] at h1 h4 h5;have hn:=zt;exact tail_any (oA s z t) slot_str_getitem.lookup (getItem_str (c:=c) (by
  have e1:decide (i < -(2 ^ 63:Int))=false:=decide_eq_false (by omega);have e2:decide (i≥2 ^ 63)=false:=decide_eq_false (by omega);rw[e1,e2,adq]) (by rw[h1];simpa using h2) ⟨.str ⟨#[c]⟩,H,I.tok _,⟨_,rfl⟩,q⟩) hs
theorem Gx (its:List Value) (n j:Nat) (u:Value):cR (·.setIfInBounds j u) { cls:=.type "list",data:=.seq its.toArray n }={ cls:=.type "list",data:=.seq (its.set j u).toArray n }:=by
 simp[cR]
theorem Inv.lst {pins:List (Addr×Obj)} {σ:St} {H:Hp} {s:aE} {p:Addr} {xs:List V} (I:Inv X pins σ H s) (h:H p=aA `U):
  ∃(its:List Value) (n:Nat),Vals xs its∧s.heap.get? p=aA { cls:=.type "list",data:=.seq its.toArray n }∧xs.length≤sizeLine:=by
 obtain ⟨z,its,n,r,e⟩:=I.hok p _ h;exact ⟨its,n,r,e,z⟩
theorem Inv.lstUpd {pins:List (Addr×Obj)} {σ:St} {H:Hp} {s:aE} {p:Addr} {xs ys:List V} {its its':List Value} {n n':Nat} {f:Obj→Obj} (I:Inv X pins σ H s) (h:H p=aA `U)
  (ho:s.heap.get? p=aA { cls:=.type "list",data:=.seq its.toArray n }) (hf:f { cls:=.type "list",data:=.seq its.toArray n }={ cls:=.type "list",data:=.seq its'.toArray n' }) (r:Vals ys its') (hz:ys.length≤sizeLine) (t:Nat):
  Inv X pins σ (upd H p (.lst ys)) { s with heap:=s.heap.update p f,toks:=t }:=by
 have e:(s.heap.update p f).get? p=aA { cls:=.type "list",data:=.seq its'.toArray n' }:=by
  rw[bR f ho (by rw[hf] <;> rfl),hf]
 refine I.write (x:=p) (e:=p) (by rw[h];trivial) `O (λb u hb q=>(bO _ _ (cE hb)).trans q) ⟨_,e⟩ ?_;exact ⟨hz,its',n',r,e⟩
def J1:V→V→V→Hp→(Hp→Prop)→Prop:=λo i v H Q=>∃p xs k j,o=.ref p∧i=.int k∧H p=aA `U∧ixN xs.length k=aA j∧Q (upd H p (.lst (xs.set j v)))
theorem set_list:PSet X J1:=by
 intro pins s σ H o i v ov iv u Q I ro ri rv h;obtain ⟨p,xs,k,j,rfl,rfl,hp,hj,q⟩:=h;cases ro
 obtain ⟨t,rfl⟩:=ri;obtain ⟨its,n,r,ho,hz⟩:=I.lst hp;obtain ⟨h1,h2,h3,h4⟩:=Dg hj;have hl:=r.length;have hn:=zt;have I':Inv X pins σ (upd H p (.lst (xs.set j v))) { s with heap:=s.heap.update p (cR (·.setIfInBounds j u)) }:=
  I.lstUpd hp ho (Gx its n j u) (r.set rv j) (by rw[List.length_set];exact hz) s.toks
 by_cases h0:0≤k
 ·have hk:k.toNat=j:=by
   rw[nR h0 h4] at h1;exact aa7 h1
  exact PySem.W.ki_setAt ho h0 (by omega) (by rw[aa9,←hl];exact h4) (by rw[hk];exact ⟨_,I',q⟩)
 ·have hk:(k+(its.toArray.size:Int)).toNat=j:=by
   rw[nC (by omega) h3] at h1;rw[aa9,←hl];exact aa7 h1
  exact PySem.W.ki_setBack ho (by omega) (by rw[aa9,←hl];exact h3) (by omega) (by rw[hk];exact ⟨_,I',q⟩)
theorem Cf (lo hi:Option Int) (n:Nat):(fV lo hi none n).1=((HT.sIx n 0 lo:Nat):Int)∧(fV lo hi none n).2.1=((HT.sIx n n hi:Nat):Int)∧(fV lo hi none n).2.2=1:=by
 refine ⟨?_,?_,rfl⟩
 ·cases lo with
  | none=>simp[fV,HT.sIx]
  | some i=>
   simp only[fV,HT.sIx,adw,show (1:Int) > 0 by decide,if_true];by_cases h:i < 0
   ·simp only[h,if_true] <;> omega
   ·simp only[h,if_false] <;> omega
 ·cases hi with
  | none=>simp[fV,HT.sIx]
  | some i=>
   simp only[fV,HT.sIx,adw,show (1:Int) > 0 by decide,if_true];by_cases h:i < 0
   ·simp only[h,if_true] <;> omega
   ·simp only[h,if_false] <;> omega
theorem zz (its:List Value) (lo hi:Option Int):slicePick its.toArray lo hi none=((its.drop (HT.sIx its.length 0 lo)).take (HT.sIx its.length its.length hi - HT.sIx its.length 0 lo)).toArray:=by
 obtain ⟨h1,h2,h3⟩:=Cf lo hi its.toArray.size;unfold slicePick;rw[h1,h2,h3];simp only[sliceRange_one,pick_run,aa9] <;> rfl
def rSlL (K:aF):V→Option Int→Option Int→Hp→VK→Prop:=λx lo hi H Q=>∃a xs,x=.ref a∧SqL K H a xs∧∀p,H p=none→Q `a4 (upd H p (.lst (ir xs lo hi)))
theorem Jw:SlR X (rSlL X.K):=by
 intro pins s σ H x v vl vu lo hi sl Q I rx hs pl pu h;obtain ⟨a,xs,rfl,hx,q⟩:=h;cases rx
 obtain ⟨its,r,ht,hz⟩:=I.list hx;have hlen:=r.length;refine ⟨"list",_,slot_list_getitem.lookup,ht.isList.typeIs,?_⟩;refine wpAny_getItem_list_slice ht.isList hs pl pu .none `b ?_ (by rw[aa9] <;> omega);rw[zz,←hlen];refine ⟨.ref s.heap.objs.size,_,I.laid (t':=s.toks) (o:=.lst (ir xs lo hi)) (λb ob q=>aD _ q) (aa3 _) ?_,rfl,q _ `aG⟩;exact ⟨ab6 (vq xs lo hi) hz,_,0,(r.drop (HT.sIx xs.length 0 lo)).take (HT.sIx xs.length xs.length hi - HT.sIx xs.length 0 lo),aI _ rfl⟩
noncomputable def jr:V→Bool
 | .non=>true
 | .bl _=>true
 | .int _=>true
 | .str _=>true
 | _=>false
noncomputable def eqV:V→V→Bool
 | .non,.non=>true
 | .bl a,.bl b=>a==b
 | .bl a,.int b=>(if a then 1 else 0)==b
 | .int a,.bl b=>a==(if b then 1 else 0)
 | .int a,.int b=>a==b
 | .str a,.str b=>a==b
 | _,_=>false
theorem M6 {A:bE} {s:aE} {y x:V} {u v:Value} (ry:RelV y u) (rx:RelV x v) (fy:jr y=true) (fx:jr x=true):oB A s u v (eqV y x):=by
 cases y with
 | non=>
  cases ry
  cases x with
  | non=>cases rx;exact SeqAt.EqAt.same _
  | bl b=>cases rx;exact SeqAt.EqAt.none_bool b
  | int b=>obtain ⟨t,rfl⟩:=rx;exact SeqAt.EqAt.none_int b t
  | str b=>obtain ⟨t,rfl⟩:=rx;exact SeqAt.EqAt.none_str b t
  | _=>exact absurd (show false=true from fx) aap
 | bl a=>
  cases ry
  cases x with
  | non=>cases rx;exact SeqAt.EqAt.bool_none a
  | bl b=>cases rx;exact SeqAt.EqAt.bool_bool a b
  | int b=>obtain ⟨t,rfl⟩:=rx;exact SeqAt.EqAt.bool_int a b t
  | str b=>obtain ⟨t,rfl⟩:=rx;exact SeqAt.EqAt.bool_str a b t
  | _=>exact absurd (show false=true from fx) aap
 | int a=>
  obtain ⟨t',rfl⟩:=ry;cases x with
  | non=>cases rx;exact SeqAt.EqAt.int_none a t'
  | bl b=>cases rx;exact SeqAt.EqAt.int_bool a t' b
  | int b=>obtain ⟨t,rfl⟩:=rx;exact SeqAt.EqAt.int_int a t' b t
  | str b=>obtain ⟨t,rfl⟩:=rx;exact mR a t' b t
  | _=>exact absurd (show false=true from fx) aap
 | str a=>
  obtain ⟨t',rfl⟩:=ry;cases x with
  | non=>cases rx;exact SeqAt.EqAt.str_none a t'
  | bl b=>cases rx;exact SeqAt.EqAt.str_bool a t' b
  | int b=>obtain ⟨t,rfl⟩:=rx;exact mS a t' b t
  | str b=>obtain ⟨t,rfl⟩:=rx;exact SeqAt.EqAt.str_str a t' b t
  | _=>exact absurd (show false=true from fx) aap
 | _=>exact absurd (show false=true from fy) aap
noncomputable def eqU (x:V) (u:Value):Bool:=match u with
 | .none=>eqV .non x
 | .bool b=>eqV (.bl b) x
 | .int i _=>eqV (.int i) x
 | .str z _=>eqV `Q x
 | _=>false
theorem Py {x y:V} {u:Value} (r:RelV y u) (f:jr y=true):eqU x u=eqV y x:=by
 cases y with
 | non=>cases r;rfl
 | bl b=>cases r;rfl
 | int i=>obtain ⟨t,rfl⟩:=r;rfl
 | str z=>obtain ⟨t,rfl⟩:=r;rfl
 | _=>exact absurd (show false=true from f) aap
theorem uk {x:V}:∀{xs:List V} {us:List Value},Vals xs us→xs.all jr=true→us.any (eqU x)=xs.any λy=>eqV y x
 | _,_,.nil,_=>rfl
 | y::xs,u::us,.cons r t,f=>by
  rw[List.all_cons,ac3] at f;rw[acs,acs,Py r f.1,uk t f.2]
theorem mz {A:bE} {s:aE} {x:V} {v:Value} (rx:RelV x v) (fx:jr x=true):∀{xs:List V} {us:List Value},Vals xs us→xs.all jr=true→∀u∈us,oB A s u v (eqU x u)
 | _,_,.nil,_=>λu hu=>by cases hu
 | y::xs,u::us,.cons r t,f=>λu' hu=>by
  rw[List.all_cons,ac3] at f;rcases List.mem_cons.mp hu with rfl | hu
  ·rw[Py r f.1];exact M6 r rx f.1 fx
  ·exact mz rx fx t f.2 u' hu
noncomputable def inV (x:V) (xs:List V):Bool:=xs.any λy=>eqV y x
def rIn (K:aF) (neg:Bool):R2:=λx y H Q=>∃p xs,y=.ref p∧(SqL K H p xs∨SqT K H p xs)∧jr x=true∧xs.all jr=true∧Q (.bl (if neg then !inV x xs else inV x xs)) H
theorem jn:OpR X (cI .In) (rIn X.K false):=by
 intro pins s σ H x y v u Q I rx ry h;obtain ⟨p,xs,rfl,hq,fx,fs,q⟩:=h;cases ry
 rcases hq with hq | hq
 ·obtain ⟨its,r,pl,hz⟩:=I.list hq;refine SeqAt.in_listAt (eqU x) pl.isList (λw hw=>mz rx fx r fs w (by simpa using hw)) ⟨.bl _,H,I,rfl,?_⟩;rw[show its.toArray.any (eqU x)=its.any (eqU x) by simp,uk r fs];exact q
 ·obtain ⟨its,r,pl,hz⟩:=I.tuple hq;refine SeqAt.in_tupleAt (eqU x) pl (λw hw=>mz rx fx r fs w (by simpa using hw)) ⟨.bl _,H,I,rfl,?_⟩;rw[show its.toArray.any (eqU x)=its.any (eqU x) by simp,uk r fs];exact q
theorem Cq:OpR X (cI .NotIn) (rIn X.K true):=by
 intro pins s σ H x y v u Q I rx ry h;obtain ⟨p,xs,rfl,hq,fx,fs,q⟩:=h;cases ry
 rcases hq with hq | hq
 ·obtain ⟨its,r,pl,hz⟩:=I.list hq;refine SeqAt.notIn_listAt (eqU x) pl.isList (λw hw=>mz rx fx r fs w (by simpa using hw)) ⟨.bl _,H,I,rfl,?_⟩;rw[show its.toArray.any (eqU x)=its.any (eqU x) by simp,uk r fs];exact q
 ·obtain ⟨its,r,pl,hz⟩:=I.tuple hq;refine SeqAt.notIn_tupleAt (eqU x) pl (λw hw=>mz rx fx r fs w (by simpa using hw)) ⟨.bl _,H,I,rfl,?_⟩;rw[show its.toArray.any (eqU x)=its.any (eqU x) by simp,uk r fs];exact q
theorem sm:fo X (.builtin "len") (λxs H Q=>∃p ys,xs=[.ref p]∧(SqL X.K H p ys∨SqT X.K H p ys)∧Q (.int ys.length) H):=by
 intro pins s σ H xs us Q I r h;obtain ⟨p,ys,rfl,hq,q⟩:=h;obtain ⟨u,rfl,rx⟩:=vals1 r;cases rx
 have hn:=zt;rcases hq with hq | hq
 ·obtain ⟨its,r',pl,hz⟩:=I.list hq;have hlen:=r'.length;exact Calls.call_len_list pl.isList (by simp only[aa9] <;> omega) ⟨.int ys.length,H,I.tok _,⟨s.toks+1,by rw[aa9,hlen]⟩,q⟩
 ·obtain ⟨its,r',pl,hz⟩:=I.tuple hq;have hlen:=r'.length;exact len_tuple pl (by simp only[aa9] <;> omega) ⟨.int ys.length,H,I.tok _,⟨s.toks+1,by rw[aa9,hlen]⟩,q⟩
theorem oz:fo X (.type "tuple") (λxs H Q=>∃p ys,xs=[.ref p]∧((SqL X.K H p ys∧∀l,H l=none→Q `D (upd H l (.tup ys)))∨(SqT X.K H p ys∧Q `a4 H))):=by
 intro pins s σ H xs us Q I r h;obtain ⟨p,ys,rfl,h⟩:=h;obtain ⟨u,rfl,rx⟩:=vals1 r;cases rx
 rcases h with ⟨hq,q⟩ | ⟨hq,q⟩
 ·obtain ⟨its,r',pl,hz⟩:=I.list hq;have hlen:=r'.length;refine call_tuple_list pl.isList (λh' kp=>?_) (by simp only[aa9] <;> omega);have I1:Inv X pins σ H { s with heap:=h' }:=I.kept (t':=s.toks) kp;have I2:Inv X pins σ (upd H h'.objs.size (.tup ys)) { s with heap:=h'.push { cls:=.type "tuple",data:=.seq its.toArray } }:=
   I1.laid (t':=s.toks) (λb o e=>aD _ e) (aa3 _) (show bw X.prog X.w _ _ _ (.tup ys) from ⟨hz,its,r',⟨_,aI _ rfl,rfl,_,rfl,rfl⟩⟩)
  exact ⟨.ref h'.objs.size,_,I2,rfl,q _ `aB⟩
 ·obtain ⟨its,r',pl,hz⟩:=I.tuple hq;exact call_tuple_same pl ⟨.ref p,H,I,rfl,q⟩
def tyV (K:aF) (T:String) (x:V) (H:Hp):Prop:=match x with
 | .str _=>T="str"
 | .int _=>T="int"
 | .ref p=>(T="list"∧∃xs,SqL K H p xs)∨(T="tuple"∧((∃o,K.lookup p=aA o∧o.cls=.type "tuple"∧o.dict=none)∨∃xs,H p=aA `aU))∨
   (T="dict"∧((∃kvs,H p=aA (.dK kvs))∨∃kvs,H p=aA (.dT kvs)))∨(T="set"∧∃S n,H p=aA (.set S n))
 | _=>False
theorem Oy {pins:List (Addr×Obj)} {σ:St} {H:Hp} {s:aE} {T:String} {x:V} {v:Value} (I:Inv X pins σ H s) (r:RelV x v) (ty:tyV X.K T x H):
  s.TypeIs v T∧∀a,v=.ref a→∃ob,s.heap.get? a=aA ob∧ob.dict=none:=by
 cases x with
 | str z=>
  obtain ⟨t,rfl⟩:=r;cases (show T="str" from ty)
  exact ⟨oA s z t,λ_ e=>nomatch e⟩
 | int i=>
  obtain ⟨t,rfl⟩:=r;cases (show T="int" from ty)
  exact ⟨typeIs_int s i t,λ_ e=>nomatch e⟩
 | ref p=>
  cases r
  rcases ty with ⟨rfl,xs,hq⟩ | ⟨rfl,⟨o,hk,hc,hd⟩ | ⟨xs,hx⟩⟩ | ⟨rfl,hk⟩ | ⟨rfl,S,n,hk⟩
  ·obtain ⟨its,_,pl,_⟩:=I.list hq;refine ⟨pl.isList.typeIs,λa e=>?_⟩;cases e
   obtain ⟨o,n,e,c,hd,_⟩:=pl;exact ⟨o,e,hd⟩
  ·refine ⟨⟨o,I.kIn p o hk,hc⟩,λa e=>?_⟩;cases e
   exact ⟨o,I.kIn _ o hk,hd⟩
  ·obtain ⟨_,its,_,o,h1,h2,n,_,h3⟩:=I.hok p _ hx;refine ⟨⟨o,h1,h2⟩,λa e=>?_⟩;cases e
   exact ⟨o,h1,h3⟩
  ·have z:∃o,s.heap.get? p=aA o∧o.ExactDict:=by
    rcases hk with ⟨kvs,hk⟩ | ⟨kvs,hk⟩
    ·obtain ⟨_,_,_,_,o,_,_,e,ex,_⟩:=I.hok p _ hk;exact ⟨o,e,ex⟩
    ·obtain ⟨_,_,_,_,o,_,_,e,ex,_⟩:=I.hok p _ hk;exact ⟨o,e,ex⟩
   obtain ⟨o,e,ex⟩:=z;refine ⟨⟨o,e,ex.1⟩,λa e2=>?_⟩;cases e2
   exact ⟨o,e,ex.2.1⟩
  ·obtain ⟨o,_,_,_,e,ex,_⟩:=I.hok p _ hk;refine ⟨⟨o,e,ex.1⟩,λa e2=>?_⟩;cases e2
   exact ⟨o,e,ex.2.1⟩
 | _=>exact False.elim ty
def tBM0 (K:aF) (T:String) (r:V→List V→Hp→VK→Prop) (to:TE):TE:=λσ H Q=>to σ H λx H1=>tyV K T x H1∧r x [] H1 Q
def tBM (K:aF) (T:String) (r:V→List V→Hp→VK→Prop) (to:TE) (t:TA):TE:=λσ H Q=>to σ H λx H1=>tyV K T x H1∧t σ H1 λxs H2=>r x xs H2 Q
variable {o e:Expr} {es:List Expr} {to:TE} {t:TA} {name:Str} {apos cpos:Pos} {T id:String} {r:V→List V→Hp→VK→Prop}
theorem pe_bm0 (pa:oC T) (slot:Slot T name id) (hty:typeOf (.builtin id)=pure (.type "method_descriptor")) (hm:MtR X id r) (ho:PE X o to)
  (hbase:iV o name X.env (eval o X.env)=eval o X.env:=by rfl) (hline:(apos.endLine==cpos.line)=true:=by rfl):PE X (.Call (.Attribute o name apos) [] [] cpos) (tBM0 X.K T r to):=by
 intro pins s σ H Q I h;refine wpAny_Call_method0_late hbase hline (thn (ho pins s σ H _ I h) λv s1 ⟨x,H1,I1,r1,ty,q1⟩=>?_);obtain ⟨h1,h2⟩:=Oy I1 r1 ty;exact ⟨T,id,pa,slot,hty,h1,h2,gY rfl (PySem.evalArgs_none (hm pins s1 σ H1 x [] v [] Q I1 r1 .nil q1))⟩
theorem pe_bm (pa:oC T) (slot:Slot T name id) (hty:typeOf (.builtin id)=pure (.type "method_descriptor")) (hm:MtR X id r) (ho:PE X o to) (ha:PA X (e::es) t)
  (hbase:iV o name X.env (eval o X.env)=eval o X.env:=by rfl)
  (hfew:((cF cpos (aZ (e::es) X.env)).all (λx=>!x.1)&&(hX cpos (eX [] X.env)).all (λx=>x.1.isSome)
   &&decide ((e::es).length+([]:List jC).length+(if ([]:List jC).isEmpty then 0 else 1) < 30))=true:=by rfl)
  (hline:(apos.endLine==cpos.line)=true:=by rfl) (hs:aZ (e::es) X.env=(false,eval e X.env)::aZ es X.env:=by rfl) (hplain:(cF cpos (aZ es X.env)).any (·.1)=false:=by rfl):
  PE X (.Call (.Attribute o name apos) (e::es) [] cpos) (tBM X.K T r to t):=by
 intro pins s σ H Q I h;refine wpAny_Call_method_late hbase hfew hline rfl (thn (ho pins s σ H _ I h) λv s1 ⟨x,H1,I1,r1,ty,q1⟩=>?_);obtain ⟨h1,h2⟩:=Oy I1 r1 ty;refine ⟨T,id,pa,slot,hty,h1,h2,?_⟩;have hA:=ha cpos pins s1 σ H1 _ I1 q1;rw[hs] at hA ⊢;refine gY (by show (false||(cF cpos (aZ es X.env)).any (·.1))=false;rw[hplain] <;> rfl) (lX ?_);exact thn hA λus s2 ⟨vs,H2,I2,r2,q2⟩=>hm pins s2 σ H2 x vs v us Q I2 r1 r2 q2
end
def MtM (X:Cx) (id:String) (r:V→List V→Hp→VK→Prop):Prop:=
 ∀(pins:List (Addr×Obj)) (s:aE) (σ:St) (H:Hp) (x:V) (xs:List V) (v:Value) (us:List Value) (Q:VK),Inv X pins σ H s→RelV x v→Vals xs us→r x xs H Q→
  aH `d X.A (call (.builtin id) (v::us)) `ax X.xe s
theorem Vals.one:∀{x:V} {us:List Value},Vals [x] us→∃u,us=[u]∧RelV x u
 | _,_,.cons r .nil=>⟨_,rfl,r⟩
theorem Vals.zero:∀{us:List Value},Vals [] us→us=[]
 | _,.nil=>rfl
theorem Vals.dropLast {xs:List V} {us:List Value} (h:Vals xs us):Vals xs.dropLast us.dropLast:=by
 induction h with
 | nil=>exact .nil
 | cons r t ih=>
  cases t with
  | nil=>exact .nil
  | cons q t'=>exact .cons r ih
theorem Vals.eraseIdx:∀{xs:List V} {us:List Value} (i:Nat),Vals xs us→Vals (xs.eraseIdx i) (us.eraseIdx i)
 | _,_,_,.nil=>.nil
 | _,_,0,.cons _ t=>t
 | _,_,i+1,.cons r t=>.cons r (Vals.eraseIdx i t)
theorem Vals.reverse {xs:List V} {us:List Value} (h:Vals xs us):Vals xs.reverse us.reverse:=by
 induction h with
 | nil=>exact .nil
 | cons r t ih=>rw[acm,acm];exact Vals.append ih (.cons r .nil)
theorem Hr {α:Type} (l:List α):l.eraseIdx (l.length - 1)=l.dropLast:=by
 induction l with
 | nil=>rfl
 | cons a r ih=>
  cases r with
  | nil=>rfl
  | cons b r=>
   have e:(a::b::r).length - 1=((b::r).length - 1)+1:=by
    have h1:(a::b::r).length=r.length+2:=rfl;have h2:(b::r).length=r.length+1:=rfl;omega
   rw[e,List.eraseIdx_cons_succ,ih];all_goals rfl
theorem Ax {α:Type}:∀(l:List α) (i:Nat),(l.eraseIdx i).length≤l.length
 | [],_=>aa3 _
 | _::_,0=>ab7 _
 | _::r,i+1=>Nat.succ_le_succ (Ax r i)
section
variable {X:Cx} {pins:List (Addr×Obj)} {σ:St} {H:Hp} {s:aE} {l b:Addr} {xs ys zs:List V}
theorem Inv.lset {its its':List Value} {n:Nat} {f:Array Value→Array Value} {t':Nat} (I:Inv X pins σ H s) (hH:H l=aA `U)
  (e:s.heap.get? l=aA { cls:=.type "list",data:=.seq its.toArray n }) (hf:f its.toArray=its'.toArray) (hv:Vals ys its') (hz:ys.length≤sizeLine):
  Inv X pins σ (upd H l (.lst ys)) { s with heap:=s.heap.update l (cR f),toks:=t' }:=by
 have q:=PySem.IsL.update e f;rw[hf] at q;refine I.write (x:=l) (e:=l) (by rw[hH];exact trivial) `O (λb' u hb hu=>(bO s.heap (cR f) (cE hb)).trans hu) ⟨_,q⟩ ?_;exact ⟨hz,its',_,hv,q⟩
theorem Inv.lnew {its:List Value} {t':Nat} (I:Inv X pins σ H s) (hv:Vals ys its) (hz:ys.length≤sizeLine):
  Inv X pins σ (upd H s.heap.objs.size (.lst ys)) { s with heap:=s.heap.push { cls:=.type "list",data:=.seq its.toArray },toks:=t' }:=
 I.laid (λ_ _ q=>aD _ q) (aa3 _) ⟨hz,its,0,hv,aI _ rfl⟩
theorem Inv.fresh (I:Inv X pins σ H s):H s.heap.objs.size=none:=I.hok.fresh (aa3 _)
theorem Inv.Ew (I:Inv X pins σ H s) (hH:H l=aA `U):xs.length≤sizeLine∧∃(its:List Value) (n:Nat),Vals xs its∧xs.length=its.length∧s.heap.get? l=aA { cls:=.type "list",data:=.seq its.toArray n }:=by
 obtain ⟨z,its,n,r,e⟩:=I.hok l _ hH;exact ⟨z,its,n,r,r.length,e⟩
theorem Ng {n:Nat} (h:n≤sizeLine):gG n=false:=by
 unfold gG;exact decide_eq_false (by omega)
end
section
variable {X:Cx}
def nu:V→List V→Hp→VK→Prop:=λx vs H Q=>∃l xs y,x=.ref l∧vs=[y]∧H l=aA `U∧xs.length < sizeLine∧Q .non (upd H l (.lst (xs++[y])))
theorem vc:MtM X "list.append" nu:=by
 intro pins s σ H x vs v us Q I rx rv h;obtain ⟨l,xs,y,rfl,rfl,hH,hz,q⟩:=h;cases rx
 obtain ⟨u,rfl,ru⟩:=rv.one;obtain ⟨z,its,n,r,hl,e⟩:=I.Ew hH;refine iF F.slot_list_append ⟨_,e,rfl⟩ F.entry_list_append (F.args_list_append_2 _ _) (PySem.list_append l its.toArray n u (by rw[aa9];omega)) ⟨e,?_⟩;refine ⟨.non,_,I.lset (its':=its++[u]) hH e `b (r.append (.cons ru .nil)) ?_,rfl,q⟩;rw[aa2,aa5];omega
def Vh:V→List V→Hp→VK→Prop:=λx vs H Q=>∃l b xs zs,x=.ref l∧vs=[.ref b]∧H l=aA `U∧H b=aA (.lst zs)∧xs.length+zs.length≤sizeLine∧Q .non (upd H l (.lst (xs++zs)))
theorem vi:MtM X "list.extend" Vh:=by
 intro pins s σ H x vs v us Q I rx rv h;obtain ⟨l,b,xs,zs,rfl,rfl,hH,hB,hz,q⟩:=h;cases rx
 obtain ⟨u,rfl,ru⟩:=rv.one;cases ru
 obtain ⟨z,its,n,r,hl,e⟩:=I.Ew hH;obtain ⟨z2,its2,n2,r2,hl2,e2⟩:=I.Ew hB;have hsz:its.toArray.size+its2.toArray.size≤sizeLine:=by rw[aa9,aa9];omega
 have hlong:¬(!its.toArray.isEmpty&&gG (its.toArray.size+its2.toArray.size))=true:=by
  rw[Ng hsz,Bool.and_false];exact aap
 refine iF F.slot_list_extend ⟨_,e,rfl⟩ F.entry_list_extend (F.args_list_extend_2 _ _)
  (AutoSeq1.list_extend_list_list_0 l its.toArray n b its2.toArray n2 hlong (by rw[aa9];omega) (by omega)) ⟨e,e2,?_⟩
 refine ⟨.non,_,I.lset (its':=its++its2) hH e `b (r.append r2) ?_,rfl,q⟩;rw[aa2];omega
def rPop:V→List V→Hp→VK→Prop:=λx vs H Q=>∃l xs y,x=.ref l∧vs=[]∧H l=aA `U∧xs[xs.length - 1]?=aA y∧Q y (upd H l (.lst xs.dropLast))
theorem G4:MtM X "list.pop" rPop:=by
 intro pins s σ H x vs v us Q I rx rv h;obtain ⟨l,xs,y,rfl,rfl,hH,hy,q⟩:=h;cases rx
 have hus:=rv.zero;subst hus;obtain ⟨z,its,n,r,hl,e⟩:=I.Ew hH;obtain ⟨u,hu,ru⟩:=r.get hy;have hy':its.toArray[its.toArray.size - 1]?=aA u:=by
  show its.toArray[its.length - 1]?=aA u
  rw[←aco,←hl];exact hu
 refine iF F.slot_list_pop ⟨_,e,rfl⟩ F.entry_list_pop (F.args_list_pop_1 _) (MeetsSeq.list_pop_last l its.toArray n u hy' (by rw[aa9];omega)) ⟨e,?_⟩;refine ⟨y,_,I.lset (its':=its.dropLast) hH e ?_ r.dropLast ?_,ru,q⟩
 ·show its.toArray.eraseIdxIfInBounds (its.toArray.size - 1)=its.dropLast.toArray
  rw[aa9,adf,Hr]
 ·rw[ae5];omega
def N2:V→List V→Hp→VK→Prop:=λx vs H Q=>∃l xs i k y,x=.ref l∧vs=[.int i]∧H l=aA `U∧-(2 ^ 63)≤i∧i < 2 ^ 63∧nB i xs.length=aA k∧xs[k]?=aA y∧Q y (upd H l (.lst (xs.eraseIdx k)))
theorem Pr:MtM X "list.pop" N2:=by
 intro pins s σ H x vs v us Q I rx rv h;obtain ⟨l,xs,i,k,y,rfl,rfl,hH,h1,h2,hk,hy,q⟩:=h;cases rx
 obtain ⟨u,rfl,ru⟩:=rv.one;obtain ⟨t,rfl⟩:=ru;obtain ⟨z,its,n,r,hl,e⟩:=I.Ew hH;obtain ⟨w,hw,rw'⟩:=r.get hy;refine iF F.slot_list_pop ⟨_,e,rfl⟩ F.entry_list_pop (F.args_list_pop_2 _ _)
  (MeetsSeq.list_pop_at l its.toArray n i t k w (fitsIndex_both h1 h2) (by rw[aa9,←hl];exact hk) (by rw[←aco];exact hw) (by rw[aa9];omega)) ⟨e,?_⟩
 refine ⟨y,_,I.lset (its':=its.eraseIdx k) hH e ?_ (r.eraseIdx k) ?_,rw',q⟩
 ·show its.toArray.eraseIdxIfInBounds k=(its.eraseIdx k).toArray
  rw[adf]
 ·have:=Ax xs k;omega
def rClear:V→List V→Hp→VK→Prop:=λx vs H Q=>∃l xs,x=.ref l∧vs=[]∧H l=aA `U∧Q .non (upd H l `ai)
theorem Oe:MtM X "list.clear" rClear:=by
 intro pins s σ H x vs v us Q I rx rv h;obtain ⟨l,xs,rfl,rfl,hH,q⟩:=h;cases rx
 have hus:=rv.zero;subst hus;obtain ⟨z,its,n,r,hl,e⟩:=I.Ew hH;refine iF F.slot_list_clear ⟨_,e,rfl⟩ F.entry_list_clear (F.args_list_clear_1 _) (AutoSeq1.list_clear_list_0 l its.toArray n (by rw[aa9];omega)) ⟨e,?_⟩;exact ⟨.non,_,I.lset (its':=[]) (ys:=[]) hH e rfl .nil (aag _),rfl,q⟩
def rCat:R2:=λx y H Q=>∃l b xs zs,x=.ref l∧y=.ref b∧H l=aA `U∧H b=aA (.lst zs)∧xs.length+zs.length≤sizeLine∧∀p,H p=none→Q `a4 (upd H p (.lst (xs++zs)))
theorem G7:OpR X (cL .Add) rCat:=by
 intro pins s σ H x y v u Q I rx ry h;obtain ⟨l,b,xs,zs,rfl,rfl,hH,hB,hz,q⟩:=h;cases rx
 cases ry
 obtain ⟨z,its,n,r,hl,e⟩:=I.Ew hH;obtain ⟨z2,its2,n2,r2,hl2,e2⟩:=I.Ew hB;refine PySem.P.add_list e e2 ?_ (by rw[aa9,aa9];omega);have ea:its.toArray++its2.toArray=(its++its2).toArray:=by simp
 rw[ea];exact ⟨.ref _,_,I.lnew (t':=s.toks) (r.append r2) (by rw[aa2];omega),rfl,q _ I.fresh⟩
end
section
variable {prog:aU} {w:bA} {A:bE} {E:Value→aE→Prop} {s:aE}
set_option maxRecDepth 100000 in
end
end L2
namespace Att
open PySem PySem.W PySem.Calls PyProof.Rows
theorem vz {P:Params} {h:Heap}:∀(ns:List Int) (vs:List Value),WellAll P h vs (ns.map WData.int)→nK vs ns:=by
 intro ns;induction ns with
 | nil=>
  intro vs w;rw[abc] at w;cases w
  exact .nil
 | cons n ns ih=>
  intro vs w;rw[aaq] at w;cases w with
  | cons a b=>
   cases a
   exact .cons _ _ (ih _ b)
theorem Kw {l:OpenLaw} {n:Nat} (hn:l.most=aA n) {P:Params} {h:Heap} {args:List WData} {vals:List Value}
  (hpre:l.row.toRowW.claim.pre args=true) (hwl:WellAll P h vals args):
  ∃a vs ns,vals=[aY a]∧args=[WData.list (ns.map WData.int)]∧h.get? a=aA { cls:=.type "list",data:=.seq vs.toArray }∧nK vs ns∧ns.length≤n:=by
 have hsh:WShape.hasAll [] args [.list .int]=true:=(pre_splitW hpre).1;have hc:l.pre.holds [] { args:=args }=true:=(pre_splitW hpre).2;obtain ⟨d,r,rfl,h1,h2⟩:=hasAllW_cons hsh;obtain rfl:=hasAllW_nil h2;obtain ⟨xs,rfl,h3⟩:=hasW_list h1;obtain ⟨ns,rfl⟩:=items_int h3;have hlen:ns.length≤n:=by
  unfold OpenLaw.pre at hc;have h4:(WTm.not (.lt (.lit (.int (n:Int))) (.len (.arg 0)))).holds [] { args:=[.list (ns.map .int)] }=true:=by
   have h4:=(holds_andW hc).1;rw[hn] at h4;exact h4
  have h5:=condW_of h4 (w_not (w_lt w_lit (w_len_list (w_arg rfl))));rw[aa0] at h5;refine aei λq=>?_;have q':(n:Int) < ((ns.length:Nat):Int):=by omega
  first
   | (rw[decide_eq_true q'] at h5;exact absurd h5 `a)
   | (simp at h5;omega)
 cases hwl with
 | cons w1 w2=>
  cases w2
  cases w1 with
  | list ho hall=>exact ⟨_,_,ns,rfl,rfl,ho,vz ns _ hall,hlen⟩
theorem Lq (l:OpenLaw) (args:List WData):l.row.toRowW.claim.post args (.bool true) args=true:=
 postW_of (r:=l.row.toRowW) (X:=(true==true))
  (show WShape.has [] (.bool true) .bool=true by first | rfl | decide | simp[WShape.has,WShape.arms,WShape.armsAll])
  (show (WTm.eq .res (.lit (.bool true))).value [] { args:=args,res:=aA (.bool true),after:=args }=aA (.bool (true==true)) from w_eq_bool (w_res rfl) w_lit) rfl
theorem Eu {l:OpenLaw} {n:Nat} {q:aU} {loose:List Str} {XP:(Str→Option Value)→Heap→Prop} {YP:bA→Heap→Prop} {d:DefRec}
  (hn:l.most=aA n) (hdf:d.params.defaults=[])
  (call:∀(w:bA) (s₀ s₁:aE) (mg mb:Str→Option Value) (fa:Addr) (o:Obj) (pm cd doc:Value) (a:Addr) (vs:List Value) (ns:List Int),
   Ground q loose [] XP w s₀ mg mb s₁.heap→YP w s₁.heap→
   s₁.heap.get? fa=aA o→o.data=.func (docDef d.name d.params d.body d.scope pm cd doc)→s₁.heap.CodeRec cd d.name→mg d.name=aA (.ref fa)→
   s₁.heap.get? a=aA { cls:=.type "list",data:=.seq vs.toArray }→nK vs ns→ns.length≤n→s₁.gens=#[]→
   dM (aL l.prog w) jD (.call (.ref fa) ⟨[.ref a],[]⟩) (λr s'=>r=.ok (.ret (.bool true))∧OldK s₁.heap s'.heap∧s'.os=s₁.os∧gL s'.gens) s₁):
  WalkO q loose XP YP l.row.toRowW d [] (λf vs=>oD f vs):=by
 intro w s₀ s₁ mg mb G Y fa o pm cd doc dV kV ho hd hcd hD hmg hg args vals as hpre hlay hrd hwl hlo;obtain rfl:dV=.none:=Dflts.none hD hdf;obtain rfl:kV=.none:=Dflts.noKw hD;obtain ⟨a,vs,ns,rfl,rfl,hobj,hints,hlen⟩:=Kw hn hpre hwl;refine enter_call (fE (call w s₀ s₁ mg mb fa o pm cd doc a vs ns G Y ho (fd_plain hd) hcd hmg hobj hints hlen hg) λr s' hq=>?_);obtain ⟨rfl,h2,h3,h4⟩:=hq;exact ⟨.inl ⟨.bool true,.bool true,[],rfl,λ_=>rfl,.bool true,Lq l _,λ_=>⟨List.Pairwise.nil,λ_ hm=>(nomatch hm)⟩⟩,h2,h3,h4⟩
end Att
namespace L2
open PySem PySem.Spec PyProof.Rows
theorem Ao:∀{vs:List Value} {ns:List Int},nK vs ns→Vals `J vs
 | _,_,.nil=>.nil
 | _,_,.cons n t h=>.cons ⟨t,rfl⟩ (Ao h)
def Only (H:Hp):Prop:=∀b,H b=none∨∃o xs,H b=aA (.frz o `U)
theorem Mx {P:aU} {w:bA} {K:aF} {mg mb:Str→Option Value} {CX:CXT} {k:Nat} {fa a:Addr} {fd:cP} {x:Str} {sp:Sp} {s₁:aE} {vs:List Value} {ns:List Int}
  (KX:K.In s₁.heap) (hns:s₁.heap.Ns aK mg) (hb:s₁.heap.Ns nX mb) (hbb:∀x:Str,x≠"__name__"→mb x=bM x) (hlim:s₁.heap.NoLimit) (hg:s₁.gens=#[])
  (ha:s₁.heap.get? a=aA { cls:=.type "list",data:=.seq vs.toArray }) (hi:nK vs ns) (hl:ns.length≤sizeLine) (hr:ie k jD)
  (F:∀base:Heap,K.In base→base.Ns aK mg→ox P w K mg base CX k fa fd [x] sp) (hbind:∀(s:aE) (u:Value),lB s fd ⟨[u],[]⟩ [(x,u)])
  (hsp:∀H:Hp,Only H→SqL K H a `J→sp [.ref a] H (λv _=>v=.bl true) λ_ _ _=>False)
  (hCX:∀H e s',CX [] H s₁ (λ_ _ _=>False) e s'→False):
  dM (aL P w) jD (.call (.ref fa) ⟨[.ref a],[]⟩) (λr s'=>r=.ok (.ret (.bool true))∧OldK s₁.heap s'.heap∧s'.os=s₁.os∧gL s'.gens) s₁:=by
 have rv:=Ao hi;have lenV:=hi.length;have core:∀H:Hp,Only H→SqL K H a `J→HOk P w H s₁.heap→(∀b,H b≠none→b=a)→(H a≠none→K.lookup a=none)→
   dM (aL P w) jD (.call (.ref fa) ⟨[.ref a],[]⟩) (λr s'=>r=.ok (.ret (.bool true))∧OldK s₁.heap s'.heap∧s'.os=s₁.os∧gL s'.gens) s₁:=by
  intro H hO hS hok hA hK;have base_of:∀{b:Addr} {o:Obj},s₁.heap.get? b=aA o→H b=none→(Cn s₁.heap H).get? b=aA o:=λe n=>Of e n;have noA:∀{b:Addr} {o:Obj} {es:Array DictEntry} {ep:Nat},s₁.heap.get? b=aA o→o.data=.dict es ep→H b=none:=λ{b o es ep} e d=>by
   cases q:H b with
   | none=>rfl
   | some u=>
    have e':b=a:=hA b (by rw[q];simp);subst e';rw[ha] at e;cases e;have d':Data.seq vs.toArray _=Data.dict es ep:=d;cases d'
  have nsK:∀{b:Addr} {m:Str→Option Value},s₁.heap.Ns b m→(Cn s₁.heap H).Ns b m:=λ{b m} ⟨o,es,ep,e,d,r⟩=>⟨o,es,ep,base_of e (noA e d),d,r⟩;have hKb:K.In (Cn s₁.heap H):=λb o e=>base_of (KX b o e) (by
   cases q:H b with
   | none=>rfl
   | some u=>
    have e':b=a:=hA b (by rw[q];simp);subst e';rw[hK (by rw[q];simp)] at e;cases e)
  have hM:Mod K mg (Cn s₁.heap H):=⟨hKb,nsK hns,⟨mb,nsK hb,hbb⟩,let ⟨mc,h1,h2⟩:=hlim;⟨mc,nsK h1,h2⟩⟩;have e0:Env0 P w K mg (Cn s₁.heap H) jD [] s₁ H:=⟨rfl,hM,λb o e=>So e,ae8 (L1 _ _),trivial,λb hb=>absurd (show b∈([]:List Addr) from hb) `b,hok,.of_eq hg⟩;refine fE ((F _ hKb (nsK hns)).run jD [] s₁ H ⟨[.ref a],[]⟩ [.ref a] [.ref a] _ _ hr e0 (hbind s₁ `r) (.cons rfl .nil) (hsp H hO hS)) λr s' h=>?_;cases r with
  | error e=>exact (hCX H e s' h).elim
  | ok fl=>
   cases fl with
   | next=>exact False.elim h
   | brk=>exact False.elim h
   | cont=>exact False.elim h
   | ret u=>
    obtain ⟨v,H',os,bare,un,hok',r',q⟩:=h;have q':v=.bl true:=q;subst q';obtain rfl:u=nW true:=r';refine ⟨rfl,OldK.of_keep λb o e=>?_,os,bare⟩;cases q:H b with
    | none=>exact un.keep b o e q (by intro z;exact absurd (show b∈([]:List Addr) from z) `b) `b
    | some u=>
     rcases hO b with z | ⟨ob,xs,z⟩
     ·rw[q] at z;cases z
     ·have z2:=un.frzs b ob _ z;obtain ⟨e1,_⟩:=hok b _ z;obtain ⟨e2,_⟩:=hok' b _ z2;rw[e] at e1;cases e1;exact e2
 cases hk:K.lookup a with
 | some o=>
  have e:=KX a o hk;rw[ha] at e;cases e
  refine core (λ_=>none) (λ_=>.inl rfl) (.inr ⟨_,vs.toArray,_,hk,rfl,rfl,rfl,by rw[aa9,lenV];exact hl,by simpa using rv⟩) (λb u z=>by have z':(none:Option HO)=aA u:=z;cases z') (λb z=>absurd rfl z) λz=>absurd rfl z
 | none=>
  refine core (λb=>if b=a then aA (.frz { cls:=.type "list",data:=.seq vs.toArray } (.lst `J)) else none) (λb=>?_) (.inl (.inr ⟨{ cls:=.type "list",data:=.seq vs.toArray },if_pos rfl⟩)) (λb u z=>?_) (λb z=>?_) λ_=>hk
  ·by_cases hb:b=a
   ·exact .inr ⟨_,_,if_pos hb⟩
   ·exact .inl (if_neg hb)
  ·by_cases hb:b=a
   ·have z':=(if_pos hb).symm.trans z;cases z'
    subst hb;exact ⟨ha,by rw[aa0];exact hl,vs,_,rv,ha⟩
   ·have z':=(if_neg hb).symm.trans z;cases z'
  ·by_cases hb:b=a
   ·exact hb
   ·exact absurd (if_neg hb) z
noncomputable abbrev KOf {K:aF} {h:Heap} (_:K.In h):aF:=K
theorem Vc {l:jT} {n k:Nat} {q:aU} {loose:List Str} {XP:(Str→Option Value)→Heap→Prop} {YP:bA→Heap→Prop} {d:DefRec} {K:Params→aF} {CX:bA→CXT} {sp:bA→Sp} {x:Str}
  (hn:l.most=aA n) (hn2:n≤sizeLine) (hdf:d.params.defaults=[]) (hr:ie k jD)
  (hY:∀(w:bA) (h:Heap),YP w h→(K w.params).In h)
  (F:∀(w:bA) (mg:Str→Option Value) (fa:Addr) (h:Heap),(K w.params).In h→h.Ns aK mg→mg d.name=aA (.ref fa)→
   ∃fd:cP,(∀(s:aE) (u:Value),lB s fd ⟨[u],[]⟩ [(x,u)])∧
    ∀base:Heap,(K w.params).In base→base.Ns aK mg→ox l.prog w (K w.params) mg base (CX w) k fa fd [x] (sp w))
  (hsp:∀(w:bA) (H:Hp) (a:Addr) (ns:List Int),ns.length≤n→Only H→SqL (K w.params) H a `J→sp w [.ref a] H (λv _=>v=.bl true) λ_ _ _=>False)
  (hCX:∀(w:bA) (H:Hp) (s:aE) (e:Value) (s':aE),CX w [] H s (λ_ _ _=>False) e s'→False):
  PySem.W.WalkO q loose XP YP l.row.toRowW d [] (λf vs=>oD f vs):=by
 refine Att.Eu hn hdf λw s₀ s₁ mg mb fa o pm cd doc a vs ns G Y ho hd hcd hmg hobj hints hlen hg=>?_;have KX:=hY w _ Y;obtain ⟨fd,hb,hF⟩:=F w mg fa _ KX G.T.g hmg;exact Mx KX G.T.g G.T.b G.T.builtins G.T.nolimit hg hobj hints (ab6 hlen hn2) hr hF hb (λH hO hS=>hsp w H a ns hlen hO hS) λH e s'=>hCX w H s₁ e s'
noncomputable def ax (s:Stmt):Arguments:=match s with
 | .FunctionDef _ a _ _ _ _ _ _ _ _=>a
 | _=>{ posonlyargs:=[],args:=[],vararg:=none,kwonlyargs:=[],kw_defaults:=[],kwarg:=none,defaults:=[] }
noncomputable def au (s:Stmt):List Stmt:=match s with
 | .FunctionDef _ _ b _ _ _ _ _ _ _=>b
 | _=>[]
noncomputable def af (s:Stmt):Scope:=match s with
 | .FunctionDef _ _ _ _ _ _ sc _ _ _=>sc
 | _=>{ kind:=.function,names:=[],isGenerator:=false,isCoroutine:=false }
noncomputable abbrev CX0:CXT:=λ_ _ _ _ _ _=>False
abbrev E0:XK:=λ_ _ _=>False
theorem pass0 {X:Cx}:Passes CX0 X E0:=λ_ _ _ _ _ _ _ h=>h.elim
structure Fun (K:aF) (x qual:Str) (st:Stmt) (f:Addr) (fd:cP):Prop where
 ex:∃(oc:Value) (od:Option Addr) (kV doc pm:Value) (an:Option Addr) (cdv ct:Value) (osl:Array (Option Value)),
  fd=aW x qual (ax st) (au st) (af st) .none kV doc pm an cdv ct∧K.lookup f=aA ⟨oc,od,.func fd,osl⟩∧aR K cdv qual=true
 kp:aO K (.ref f)=true
section
variable {P:aU} {w:bA} {K:aF} {mg:Str→Option Value} {base:Heap}
theorem Fun.ok {x qual:Str} {st:Stmt} {f:Addr} {fd:cP} {N ps:List Str} {k:Nat} {sp:Sp} (F:Fun K x qual st f fd) (S:av N ps (af st)) (len:∀vs H Q E,sp vs H Q E→vs.length=ps.length)
  (hbody:∀(cdv:Value) (A:bE) (outer:List Env) (s:aE) (H:Hp) (vs:List V) (Q:VK) (E:XK),ie k (A.deeper (gE qual (af st) s.heap.objs.size f cdv))→sp vs H Q E→
   ∃t,PSs (qr CX0 P w K mg base N qual (af st) f cdv A outer s H E).nox (au st) t∧t { nx:=λ_ H'=>Q .non H',rt:=Q } (start N vs) H):ox P w K mg base CX0 (k+1) f fd ps sp:=by
 obtain ⟨oc,od,kV,doc,pm,an,cdv,ct,osl,rfl,lk,hcd⟩:=F.ex;refine fn_of lk hcd S len λA outer s H vs Q E hr hsp=>?_;obtain ⟨t,h,q⟩:=hbody cdv A outer s H vs Q E hr hsp;exact ⟨t,h.nox,q⟩
theorem Fun.binds {x qual:Str} {st:Stmt} {f:Addr} {fd:cP} {ps:List Str} (F:Fun K x qual st f fd)
  (h:∀(kV doc pm:Value) (an:Option Addr) (cdv ct:Value) (us:List Value),us.length=ps.length→bJ (aW x qual (ax st) (au st) (af st) .none kV doc pm an cdv ct) ⟨us,[]⟩=pure (ps.zip us)):Binds K fd ps []:=by
 obtain ⟨oc,od,kV,doc,pm,an,cdv,ct,osl,rfl,lk,hcd⟩:=F.ex;exact .all (h kV doc pm an cdv ct)
theorem bg {x qual:Str} {st:Stmt} {f:Addr} {oc:Value} {od an:Option Addr} {osl:Array (Option Value)} {kV doc pm cdv ct:Value} (l:K.lookup f=aA ⟨oc,od,.func (aW x qual (ax st) (au st) (af st) .none kV doc pm an cdv ct),osl⟩)
  (c:aR K cdv qual=true) (k:aO K (.ref f)=true):Fun K x qual st f (aW x qual (ax st) (au st) (af st) .none kV doc pm an cdv ct):=⟨⟨oc,od,kV,doc,pm,an,cdv,ct,osl,rfl,l,c⟩,k⟩
end
theorem br {A:bE} {k:Nat} (hr:ie k A):A.units+1 < cLine:=ac0 (Nat.add_le_add_left (by decide:1≤64) _) hr.units
section
variable {X:Cx}
theorem pv (i:Nat) {x:Str} {pos:Pos} (hN:X.N[i]?=aA x:=by rfl) (hv:Vis X.env.scope x:=by first | exact ab5 rfl | exact ab3 (ab5 rfl) | exact ab3 (ab3 rfl)) (hd:(x==("__debug__":Str))=false:=by decide)
  (hcd:(x==("__classdict__":Str))=false:=by decide):PE X (.Name x pos) (tVar i):=pe_var hN hv hd hcd
end
theorem rg {A B:Prop} (h:B):if false=true then A else B:=by
 rw[if_neg aap];exact h
theorem Fu {A B:Prop} (h:A):if true=true then A else B:=by
 rw[if_pos rfl];exact h
theorem de {c A B:Prop} [Decidable c] (h1:c→A) (h2:¬c→B):if c then A else B:=by
 by_cases h:c
 ·rw[if_pos h];exact h1 h
 ·rw[if_neg h];exact h2 h
def ah (H H':Hp):Prop:=∀b o,H b=aA o→H' b=aA o
theorem ah.refl (H:Hp):ah H H:=λ_ _ h=>h
theorem ah.trans {H H1 H2:Hp} (a:ah H H1) (b:ah H1 H2):ah H H2:=λc o h=>b c o (a c o h)
theorem ah.free {H H':Hp} (e:ah H H') {l:Addr} (h:H' l=Option.none):H l=Option.none:=by
 cases q:H l with
 | none=>rfl
 | some o=>
  rw[e l o q] at h;cases h
theorem ah.seq {K:aF} {H H':Hp} {a:Addr} {xs:List V} (e:ah H H') (h:SqL K H a xs):SqL K H' a xs:=by
 rcases h with (h | ⟨o,h⟩) | h
 ·exact .inl (.inl (e _ _ h))
 ·exact .inl (.inr ⟨o,e _ _ h⟩)
 ·exact .inr h
section
variable {κ:Type} [DecidableEq κ]
noncomputable def dk (kvs:List (κ×V)) (k:κ):Option V:=(kvs.find? λkv=>decide (kv.1=k)).map (·.2)
noncomputable def putK (kvs:List (κ×V)) (k:κ) (v:V):List (κ×V):=
 if (kvs.any λkv=>decide (kv.1=k))=true then kvs.map (λkv=>if kv.1=k then (kv.1,v) else kv) else kvs++[(k,v)]
theorem cx {p:κ×V} {r:List (κ×V)} {k:κ} (e:p.1=k):dk (p::r) k=aA p.2:=by simp[dk,ach,e]
theorem cv {p:κ×V} {r:List (κ×V)} {k:κ} (e:¬p.1=k):dk (p::r) k=dk r k:=by simp[dk,ach,e]
theorem j0 (k:κ):∀kvs:List (κ×V),(kvs.any λkv=>decide (kv.1=k))=(dk kvs k).isSome
 | []=>rfl
 | p::r=>by
  rw[acs];by_cases e:p.1=k
  ·simp only[cx e,decide_eq_true e,Bool.true_or,ae9]
  ·rw[cv e,decide_eq_false e,ae7];exact j0 k r
theorem E2 (k j:κ) (y:V):∀kvs:List (κ×V),dk (kvs.map λkv=>if kv.1=k then (kv.1,y) else kv) j=(dk kvs j).map λx=>if j=k then y else x
 | []=>rfl
 | p::r=>by
  have ih:=E2 k j y r;rw[aaq];by_cases h:p.1=k
  ·rw[if_pos h];by_cases e:p.1=j
   ·rw[cx (p:=(p.1,y)) e,cx e,adg,if_pos (e.symm.trans h)]
   ·rw[cv (p:=(p.1,y)) e,cv e,ih]
  ·rw[if_neg h];by_cases e:p.1=j
   ·rw[cx (p:=p) e,cx e,adg,if_neg (λz=>h (e.trans z))]
   ·rw[cv (p:=p) e,cv e,ih]
theorem Al (k j:κ) (y:V):∀kvs:List (κ×V),dk kvs k=none→dk (kvs++[(k,y)]) j=if j=k then aA y else dk kvs j
 | [],_=>by
  by_cases e:k=j
  ·rw[if_pos e.symm];exact cx (p:=(k,y)) e
  ·rw[if_neg (λz=>e z.symm)];exact cv (p:=(k,y)) e
 | p::r,hn=>by
  rw[ad6];have hk:¬p.1=k:=λz=>by rw[cx z] at hn;cases hn
  rw[cv hk] at hn;have ih:=Al k j y r hn;by_cases e:p.1=j
  ·rw[cx e,cx e,if_neg (λz=>hk (e.trans z))]
  ·rw[cv e,cv e,ih]
theorem ja (kvs:List (κ×V)) (k j:κ) (y:V):dk (putK kvs k y) j=if j=k then aA y else dk kvs j:=by
 unfold putK;by_cases a:(kvs.any λkv=>decide (kv.1=k))=true
 ·rw[if_pos a,E2];rw[j0] at a;by_cases e:j=k
  ·obtain ⟨x,hx⟩:=Option.isSome_iff_exists.mp a;rw[if_pos e,e,hx,adg,if_pos rfl]
  ·rw[if_neg e];cases dk kvs j with
   | none=>rfl
   | some x=>rw[adg,if_neg e]
 ·rw[if_neg a];refine Al k j y kvs ?_;rw[j0] at a;cases q:dk kvs k with
  | none=>rfl
  | some x=>rw[q] at a;exact (a rfl).elim
theorem jb (kvs:List (κ×V)) (k:κ) (v:V):(putK kvs k v).length≤kvs.length+1:=by
 unfold putK;split
 ·rw[aa0];omega
 ·rw[aa2,aa8,adh];omega
theorem M7 {kvs:List (κ×V)} {k:κ} (v:V) (h:dk kvs k=none):putK kvs k v=kvs++[(k,v)]:=by
 unfold putK;rw[j0,h];exact if_neg `a
theorem qt.jy {o:Option V} {u:Option Value} (r:qt o u):o.isSome=u.isSome:=by
 cases o with
 | none=>cases u with
  | none=>rfl
  | some _=>exact (show False from r).elim
 | some _=>cases u with
  | none=>exact (show False from r).elim
  | some _=>rfl
theorem qt.getD {o:Option V} {u:Option Value} {d:V} {d':Value} (r:qt o u) (rd:RelV d d'):RelV (o.getD d) (u.getD d'):=by
 cases o with
 | none=>cases u with
  | none=>exact rd
  | some _=>exact (show False from r).elim
 | some _=>cases u with
  | none=>exact (show False from r).elim
  | some _=>exact r
theorem KV.val {kvs:List (κ×V)} {vs:List (κ×Value)} (r:KV kvs vs) (k:κ):qt (dk kvs k) (jE vs k):=by
 unfold KV at r;induction r with
 | nil=>exact True.intro
 | @cons p q ps qs h t ih=>
  obtain ⟨h1,h2⟩:=h;by_cases e:p.1=k
  ·have e':q.1=k:=h1.symm.trans e;have b:jE (q::qs) k=aA q.2:=by simp[jE,ach,e']
   rw[cx e,b];exact h2
  ·have e':¬q.1=k:=λz=>e (h1.trans z);have b:jE (q::qs) k=jE qs k:=by simp[jE,ach,e']
   rw[cv e,b];exact ih
theorem KV.any {kvs:List (κ×V)} {vs:List (κ×Value)} (r:KV kvs vs) (k:κ):(kvs.any λkv=>decide (kv.1=k))=vs.any λkv=>decide (kv.1=k):=by
 unfold KV at r;induction r with
 | nil=>rfl
 | cons h t ih=>rw[acs,acs,ih,h.1]
theorem KV.repl {kvs:List (κ×V)} {vs:List (κ×Value)} (r:KV kvs vs) (k:κ) {y:V} {u:Value} (ry:RelV y u):
  KV (kvs.map λkv=>if kv.1=k then (kv.1,y) else kv) (vs.map λkv=>if kv.1=k then (kv.1,u) else kv):=by
 unfold KV at r ⊢;induction r with
 | nil=>exact .nil
 | @cons p q ps qs h t ih=>
  rw[aaq,aaq];refine .cons ?_ ih;obtain ⟨h1,h2⟩:=h;by_cases e:p.1=k
  ·rw[if_pos e,if_pos (h1.symm.trans e)];exact ⟨h1,ry⟩
  ·rw[if_neg e,if_neg (λz=>e (h1.trans z))];exact ⟨h1,h2⟩
theorem KV.put {kvs:List (κ×V)} {vs:List (κ×Value)} (r:KV kvs vs) (k:κ) {y:V} {u:Value} (ry:RelV y u):KV (putK kvs k y) (stored vs k u):=by
 unfold putK stored;rw[r.any k];by_cases e:(vs.any λkv=>decide (kv.1=k))=true
 ·rw[if_pos e,if_pos e];exact r.repl k ry
 ·rw[if_neg e,if_neg e];exact Paired.snoc r ⟨rfl,ry⟩
theorem KV.length {kvs:List (κ×V)} {vs:List (κ×Value)} (r:KV kvs vs):kvs.length=vs.length:=iR r
end
theorem ug {P:aU} {w:bA} {k:Key} {u:Value} (r:RelV (kV k) u):(b9 P w).is k u=true:=by
 cases k with
 | inl i=>obtain ⟨t,e⟩:=(show ∃t,u=iK i t from r);subst e;exact Ey P w i t
 | inr x=>obtain ⟨t,e⟩:=(show ∃t,u=mQ x t from r);subst e;exact mf P w x t
theorem Bh {P:aU} {w:bA}:∀{ks:List Key} {us:List Value},Vals (ks.map kV) us→ItemsAre (b9 P w) ks us
 | [],_,r=>by rw[abc] at r;cases r;exact .nil
 | k::ks,_,r=>by
  rw[aaq] at r;cases r with
  | cons h t=>exact .cons (ug h) (Bh t)
abbrev KT (H:Hp):List (List Key×V)→List (List Key×Addr×Value)→Prop:=Paired λp q=>p.1=q.1∧H q.2.1=aA (.tup (p.1.map kV))∧RelV p.2 q.2.2
theorem KT.val {H:Hp} {kvs:List (List Key×V)} {xs:List (List Key×Addr×Value)} (r:KT H kvs xs) (k:List Key):qt (dk kvs k) ((iZ xs k).map (·.2)):=by
 induction r with
 | nil=>exact True.intro
 | @cons p q ps qs h t ih=>
  obtain ⟨h1,_,h2⟩:=h;by_cases e:p.1=k
  ·have e':q.1=k:=h1.symm.trans e;have b:iZ (q::qs) k=aA q.2:=by simp[iZ,ach,e']
   rw[cx e,b];exact h2
  ·have e':¬q.1=k:=λz=>e (h1.trans z);have b:iZ (q::qs) k=iZ qs k:=by simp[iZ,ach,e']
   rw[cv e,b];exact ih
theorem KT.repl {H:Hp} {kvs:List (List Key×V)} {xs:List (List Key×Addr×Value)} (r:KT H kvs xs) (k:List Key) {y:V} {u:Value} (ry:RelV y u):
  KT H (kvs.map λkv=>if kv.1=k then (kv.1,y) else kv) (xs.map (putAt k u)):=by
 induction r with
 | nil=>exact .nil
 | @cons p q ps qs h t ih=>
  rw[aaq,aaq];refine .cons ?_ ih;obtain ⟨h1,h2,h3⟩:=h;unfold putAt;by_cases e:p.1=k
  ·rw[if_pos e,if_pos (h1.symm.trans e)];exact ⟨h1,h2,ry⟩
  ·rw[if_neg e,if_neg (λz=>e (h1.trans z))];exact ⟨h1,h2,h3⟩
theorem KT.put {H:Hp} {kvs:List (List Key×V)} {xs:List (List Key×Addr×Value)} (r:KT H kvs xs) (k:List Key) {b:Addr} {y:V} {u:Value} (hb:H b=aA (.tup (k.map kV))) (ry:RelV y u):
  KT H (putK kvs k y) (storedH xs k b u):=by
 have e:(kvs.any λkv=>decide (kv.1=k))=(iZ xs k).isSome:=by
  rw[j0,(r.val k).jy,acn]
 unfold putK storedH;rw[e];by_cases q:(iZ xs k).isSome=true
 ·rw[if_pos q,if_pos q];exact r.repl k ry
 ·rw[if_neg q,if_neg q];exact Paired.snoc r ⟨rfl,hb,ry⟩
theorem KT.keeps {H H':Hp} {kvs:List (List Key×V)} {xs:List (List Key×Addr×Value)} (r:KT H kvs xs) (ht:∀b ys,H b=aA (.tup ys)→H' b=aA (.tup ys)):KT H' kvs xs:=
 Paired.mapP r λ_ _ z=>⟨z.1,ht _ _ z.2.1,z.2.2⟩
section
variable {P:aU} {w:bA} {H:Hp} {h:Heap} {a:Addr}
theorem rd_of {u:HO} (ok:HOk P w H h) (e:Rd H a u):bw P w H h a u:=e.ok ok
theorem Bm {kvs:List (Key×V)} (ok:HOk P w H h) (e:Rd H a (.dK kvs)):kvs.length≤sizeLine∧(a==cQ)=false∧∃vs,KV kvs vs∧h.DictOf (b9 P w) a vs:=
 show bw P w H h a (.dK kvs) from rd_of ok e
theorem dk_of {kvs:List (Key×V)} (ok:HOk P w H h) (e:H a=aA (.dK kvs)):kvs.length≤sizeLine∧(a==cQ)=false∧∃vs,KV kvs vs∧h.DictOf (b9 P w) a vs:=Bm ok (.inl e)
theorem va {ks:List Key} (ok:HOk P w H h) (e:H a=aA (.tup (ks.map kV))):(iL (b9 P w)).is h ks a:=by
 obtain ⟨_,its,r,o,h1,h2,n,h3,_⟩:=(show bw P w H h a (.tup (ks.map kV)) from ok a _ e);exact ⟨o,its.toArray,n,h1,h2,h3,by simpa using Bh r⟩
theorem B1 {kvs:List (List Key×V)} (ok:HOk P w H h) (e:Rd H a (.dT kvs)):kvs.length≤sizeLine∧(a==cQ)=false∧
  ∃xs,KT H kvs xs∧h.DictOfH (iL (b9 P w)) a xs:=by
 obtain ⟨z,y,xs,r,o,es,ep,h1,h2,h3,h4,h5⟩:=(show bw P w H h a (.dT kvs) from rd_of ok e);refine ⟨z,y,xs,r,o,es,ep,h1,h2,h3,h4,λx hx=>?_,h5⟩;have all:∀{l:List (List Key×V)} {m:List (List Key×Addr×Value)},KT H l m→∀x∈m,(iL (b9 P w)).is h x.1 x.2.1:=by
  intro l m q;induction q with
  | nil=>intro x hx;exact nomatch hx
  | @cons p q ps qs hq t ih=>
   intro x hx;rcases List.mem_cons.mp hx with e | hx
   ·subst e;exact va ok (by rw[←hq.1];exact hq.2.1)
   ·exact ih x hx
 exact all r x hx
theorem dt_of {kvs:List (List Key×V)} (ok:HOk P w H h) (e:H a=aA (.dT kvs)):kvs.length≤sizeLine∧(a==cQ)=false∧
  ∃xs,KT H kvs xs∧h.DictOfH (iL (b9 P w)) a xs:=B1 ok (.inl e)
end
def gn (H:Hp) (a:Addr) (y:V) (r:Option V):Prop:=
 (∃kvs k,Rd H a (.dK kvs)∧y=kV k∧r=dk kvs k)∨∃kvs k b,Rd H a (.dT kvs)∧y=.ref b∧H b=aA (.tup (k.map kV))∧r=dk kvs k
def zo (H:Hp) (a:Addr) (y v:V) (H':Hp):Prop:=
 (∃kvs k,H a=aA (.dK kvs)∧y=kV k∧kvs.length < sizeLine∧H'=upd H a (.dK (putK kvs k v)))∨
 ∃kvs k b,H a=aA (.dT kvs)∧y=.ref b∧H b=aA (.tup (k.map kV))∧kvs.length < sizeLine∧H'=upd H a (.dT (putK kvs k v))
theorem gn.k {H:Hp} {a:Addr} {kvs:List (Key×V)} {k:Key} (e:H a=aA (.dK kvs)):gn H a (kV k) (dk kvs k):=.inl ⟨kvs,k,.inl e,rfl,rfl⟩
theorem gn.t {H:Hp} {a b:Addr} {kvs:List (List Key×V)} {k:List Key} (e:H a=aA (.dT kvs)) (eb:H b=aA (.tup (k.map kV))):gn H a `Z (dk kvs k):=.inr ⟨kvs,k,b,.inl e,rfl,eb,rfl⟩
theorem zo.k {H:Hp} {a:Addr} {kvs:List (Key×V)} {k:Key} {v:V} (e:H a=aA (.dK kvs)) (hl:kvs.length < sizeLine):zo H a (kV k) v (upd H a (.dK (putK kvs k v))):=.inl ⟨kvs,k,e,rfl,hl,rfl⟩
theorem zo.t {H:Hp} {a b:Addr} {kvs:List (List Key×V)} {k:List Key} {v:V} (e:H a=aA (.dT kvs)) (eb:H b=aA (.tup (k.map kV))) (hl:kvs.length < sizeLine):
  zo H a `Z v (upd H a (.dT (putK kvs k v))):=.inr ⟨kvs,k,b,e,rfl,eb,hl,rfl⟩
section
variable {X:Cx} {pins:List (Addr×Obj)} {σ:St} {H:Hp} {s:aE} {a:Addr} {y v:V} {u r:Value} {o:Option V} {A:bE} {E:Value→aE→Prop}
theorem Inv.big (I:Inv X pins σ H s):cQ < s.heap.objs.size:=by
 have h:aK < s.heap.objs.size:=(I.mod.glob.keeps I.bk).lt;exact aea `a h
theorem Lo {Q:Value→aE→Prop} (hu:A.units+1 < cLine) (I:Inv X pins σ H s) (g:gn H a y (aA v)) (ry:RelV y u) (h:∀w' s',Inv X pins σ H s'→RelV v w'→Q w' s'):
  aH `d A (gM `r u) Q E s:=by
 rcases g with ⟨kvs,k,e,ey,l⟩ | ⟨kvs,k,b,e,ey,eb,l⟩
 ·subst ey;obtain ⟨z,hd,vs,rel,dd⟩:=Bm I.hok e;obtain ⟨w',hw,rw'⟩:=qt.some_of (v:=v) (o:=jE vs k) (by rw[l];exact rel.val k);exact wpAny_getItem_of (ug ry) dd.mapOf hw (h w' _ (I.tok _) rw')
 ·subst ey;cases (show u=aY b from ry)
  obtain ⟨z,hd,xs,rel,dd⟩:=B1 I.hok e;obtain ⟨w',hw,rw'⟩:=qt.some_of (v:=v) (o:=(iZ xs k).map (·.2)) (by rw[l];exact rel.val k);obtain ⟨p,hp,hp2⟩:=Option.map_eq_some_iff.mp hw;refine wpAny_getItem_heap (eT hu) (va I.hok eb) dd hp ?_;rw[hp2];exact h w' _ (I.tok _) rw'
theorem d_in {Q:Value→aE→Prop} (hu:A.units+1 < cLine) (I:Inv X pins σ H s) (g:gn H a y o) (ry:RelV y u) (h:∀s',Inv X pins σ H s'→Q (.bool o.isSome) s'):
  aH `d A (cI .In u `r) Q E s:=by
 rcases g with ⟨kvs,k,e,ey,l⟩ | ⟨kvs,k,b,e,ey,eb,l⟩
 ·subst ey;obtain ⟨z,hd,vs,rel,dd⟩:=Bm I.hok e;refine wpAny_in_of (ug ry) hd dd.mapOf ?_;rw[←(rel.val k).jy,←l];exact h _ (I.tok _)
 ·subst ey;cases (show u=aY b from ry)
  obtain ⟨z,hd,xs,rel,dd⟩:=B1 I.hok e;refine wpAny_in_heap (eT hu) (va I.hok eb) hd dd ?_;have q:=(rel.val k).jy;rw[acn] at q;rw[←q,←l];exact h _ (I.tok _)
theorem Rn {Q:Value→aE→Prop} (hu:A.units+1 < cLine) (I:Inv X pins σ H s) (g:gn H a y o) (ry:RelV y u) (h:∀s',Inv X pins σ H s'→Q (.bool (!o.isSome)) s'):
  aH `d A (cI .NotIn u `r) Q E s:=by
 rcases g with ⟨kvs,k,e,ey,l⟩ | ⟨kvs,k,b,e,ey,eb,l⟩
 ·subst ey;obtain ⟨z,hd,vs,rel,dd⟩:=Bm I.hok e;refine wpAny_notIn_of (ug ry) hd dd.mapOf ?_;rw[←(rel.val k).jy,←l];exact h _ (I.tok _)
 ·subst ey;cases (show u=aY b from ry)
  obtain ⟨z,hd,xs,rel,dd⟩:=B1 I.hok e;refine wpAny_notIn_heap (eT hu) (va I.hok eb) hd dd ?_;have q:=(rel.val k).jy;rw[acn] at q;rw[←q,←l];exact h _ (I.tok _)
theorem Cz {h':Heap} {t':Nat} {ob:HO} (I:Inv X pins σ H s) (mu:Mut (H a)) (hs:bF a s.heap h') (he:∃q,h'.get? a=aA q) (new:bw X.prog X.w (upd H a ob) h' a ob):
  Inv X pins σ (upd H a ob) { s with heap:=h',toks:=t' }:=
 I.write (x:=a) (e:=a) mu `O (λb q hb z=>(hs.2 b hb).trans z) he new
theorem N8 {P:aU} {w:bA} {H':Hp} {h':Heap} {kvs:List (Key×V)} {vs:List (Key×Value)} (z:kvs.length≤sizeLine) (hd:(a==cQ)=false) (rel:KV kvs vs) (dd:h'.DictOf (b9 P w) a vs):
  bw P w H' h' a (.dK kvs):=⟨z,hd,vs,rel,dd⟩
theorem L7 {H':Hp} {Q:Unit→aE→Prop} (hu:A.units+1 < cLine) (I:Inv X pins σ H s) (g:zo H a y v H') (ry:RelV y u) (rv:RelV v r) (h:∀s',Inv X pins σ H' s'→Q () s'):
  aH `d A (setItem `r u r) Q E s:=by
 rcases g with ⟨kvs,k,e,ey,l,eH⟩ | ⟨kvs,k,b,e,ey,eb,l,eH⟩
 ·subst ey eH;obtain ⟨z,hd,vs,rel,dd⟩:=dk_of I.hok e;have hz:vs.length≤sizeLine:=by rw[←rel.length];exact z
  have hl:(putK kvs k v).length≤sizeLine:=by have:=jb kvs k v;omega
  refine wpAny_setItem_pairs (hsz:=hz) (ug ry) dd λh' dd' hs=>h _ ?_;have he:∃q,h'.get? a=aA q:=let ⟨q,_,_,hq,_⟩:=dd';⟨q,hq⟩
  exact Cz I (by rw[e];exact True.intro) hs he (N8 hl hd (rel.put k rv) dd')
 ·subst ey eH;cases (show u=aY b from ry)
  obtain ⟨z,hd,xs,rel,dd⟩:=dt_of I.hok e;have hz:xs.length≤sizeLine:=by rw[←iR rel];exact z
  have hl:(putK kvs k v).length≤sizeLine:=by have:=jb kvs k v;omega
  refine wpAny_setItem_heap (hsz:=hz) (eT hu) (va I.hok eb) dd λh' dd' hs=>h _ ?_;obtain ⟨q,es,ep,hq,h2,h3,h4,_,h5⟩:=dd';refine Cz I (by rw[e];exact True.intro) hs ⟨q,hq⟩ ⟨hl,hd,_,(rel.put k eb rv).keeps λc ys ec=>?_,q,es,ep,hq,h2,h3,h4,h5⟩;rw[ak (jq ec e (λz=>nomatch z))];exact ec
end
def NoSl (i:Expr):Prop:=∀ov iv,kL i false ov iv=operate [ov,iv] (gM ov iv)
theorem Ru {prog:aU} {w:bA} {A:bE} {E:Value→aE→Prop} {s:aE} {env:Env} {value slice:Expr} {pos:Pos} {T id:String} {Q:Value→aE→Prop}
  (hl:dZ (.type T) "__getitem__"=pure (aA (.builtin id))) (hs:NoSl slice)
  (h:aH `e A (eval value env) (λo s₁=>aH `e A (eval slice env) (λi s₂=>s₂.TypeIs o T∧aH `e A (gM o i) Q E s₂) E s₁) E s):
  aH `e A (eval (.Subscript value slice pos) env) Q E s:=by
 refine nZ (bG h (λo s₁ h₁=>bG h₁ (λi s₂ h₂=>?_) λ_ _ x=>x) λ_ _ x=>x);obtain ⟨hT,h₂⟩:=h₂;unfold mJ;refine aC ?_;rw[getitemInPython_of_ne hT.not_modules];refine aC (gA hT hl ?_);have fin:aH `e A (kL slice false o i) (λr s₃=>aH `e A (letTemporaryGo value o r >>=λ_=>pure r) Q E s₃) E s₂:=by
  rw[hs o i];exact wpAny_operating (bG h₂ (λr s₃ h₃=>aC (wpAny_letTemporaryGo (aG h₃))) λ_ _ x=>x)
 first
  | exact aG (aC fin)
  | exact aC (aG (aC fin))
  | exact aC fin
theorem Fm {X:Cx} {pins:List (Addr×Obj)} {σ:St} {H:Hp} {s:aE} {a:Addr} {y:V} {o:Option V} (I:Inv X pins σ H s) (g:gn H a y o):s.TypeIs `r "dict":=by
 rcases g with ⟨kvs,k,e,_,_⟩ | ⟨kvs,k,b,e,_,_,_⟩
 ·obtain ⟨_,_,vs,_,dd⟩:=Bm I.hok e;exact dd.typeIs
 ·obtain ⟨_,_,xs,_,dd⟩:=B1 I.hok e;exact dd.typeIs
def tDGet (td ty:TE):TE:=λσ H Q=>td σ H λx H1=>ty σ H1 λy H2=>∃a v,x=.ref a∧gn H2 a y (aA v)∧Q v H2
def tDIn (ty td:TE):TE:=λσ H Q=>ty σ H λy H1=>td σ H1 λx H2=>∃a o,x=.ref a∧gn H2 a y o∧Q (.bl o.isSome) H2
def Jh (ty td:TE):TE:=λσ H Q=>ty σ H λy H1=>td σ H1 λx H2=>∃a o,x=.ref a∧gn H2 a y o∧Q (.bl (!o.isSome)) H2
def sDPut (td ty tv:TE):TS:=λD σ H=>tv σ H λv H1=>td σ H1 λx H2=>ty σ H2 λy H3=>∃a H4,x=.ref a∧zo H3 a y v H4∧D.nx σ H4
section
variable {X:Cx} {o i e value:Expr} {pos pos' tpos:Pos} {td ty tv:TE}
theorem Tq (hu:X.A.units+1 < cLine) (ho:PE X o td) (hi:PE X i ty) (hs:NoSl i):PE X (.Subscript o i pos) (tDGet td ty):=by
 intro pins s σ H Q I h;refine Ru PySem.F.slot_dict_getitem.lookup hs (thn (ho pins s σ H _ I h) λu s1 ⟨x,H1,I1,rx,q1⟩=>thn (hi pins s1 σ H1 _ I1 q1) λiv s2 ⟨y,H2,I2,ry,a,v,ex,g,q2⟩=>?_);subst ex;obtain rfl:u=aY a:=rx;exact ⟨Fm I2 g,Lo hu I2 g ry λw' s3 I3 rw'=>⟨v,H2,I3,rw',q2⟩⟩
theorem Iu (hu:X.A.units+1 < cLine) (hi:PE X i ty) (ho:PE X o td):PC X .In i o (tDIn ty td):=by
 intro pins s σ H Q I h;refine thn (hi pins s σ H _ I h) λiv s1 ⟨y,H1,I1,ry,q1⟩=>thn (ho pins s1 σ H1 _ I1 q1) λu s2 ⟨x,H2,I2,rx,a,ov,ex,g,q2⟩=>?_;subst ex;obtain rfl:u=aY a:=rx;exact d_in hu I2 g ry λs3 I3=>⟨.bl ov.isSome,H2,I3,rfl,q2⟩
theorem Ll (hu:X.A.units+1 < cLine) (hi:PE X i ty) (ho:PE X o td):PC X .NotIn i o (Jh ty td):=by
 intro pins s σ H Q I h;refine thn (hi pins s σ H _ I h) λiv s1 ⟨y,H1,I1,ry,q1⟩=>thn (ho pins s1 σ H1 _ I1 q1) λu s2 ⟨x,H2,I2,rx,a,ov,ex,g,q2⟩=>?_;subst ex;obtain rfl:u=aY a:=rx;exact Rn hu I2 g ry λs3 I3=>⟨.bl (!ov.isSome),H2,I3,rfl,q2⟩
theorem Vj (hu:X.A.units+1 < cLine) (ho:PE X o td) (hi:PE X i ty) (hv:PE X value tv) (hs:mV value (aA (.Subscript o i pos')) pos.line X.env=pure false):
  PS X (.Assign [.Subscript o i pos'] value pos) (sDPut td ty tv):=by
 intro pins s σ H D I h;refine wpAny_Assign_Subscript (thn (hv pins s σ H _ I h) λr s1 ⟨v,H1,I1,rv,q1⟩=>thn (ho pins s1 σ H1 _ I1 q1) λu s2 ⟨x,H2,I2,rx,q2⟩=>thn (hi pins s2 σ H2 _ I2 q2) λiv s3 ⟨y,H3,I3,ry,a,H4,ex,g,q3⟩=>?_) hs;subst ex;obtain rfl:u=aY a:=rx;exact L7 hu I3 g ry rv λs4 I4=>⟨σ,H4,I4,q3⟩
end
theorem Ed {P:aU} {w:bA} {H:Hp} (h:Heap) (hb:cQ < h.objs.size):bw P w H (h.push { cls:=.type "dict",data:=.dict #[] }) h.objs.size (.dK []):=
 ⟨aag _,beq_eq_false_iff_ne.mpr (cE (aal hb)),[],.nil,Heap.DictOf.new h⟩
theorem Nh {P:aU} {w:bA} {H:Hp} (h:Heap) (hb:cQ < h.objs.size):bw P w H (h.push { cls:=.type "dict",data:=.dict #[] }) h.objs.size (.dT []):=
 ⟨aag _,beq_eq_false_iff_ne.mpr (cE (aal hb)),[],.nil,_,#[],0,aI _ rfl,⟨rfl,rfl,rfl⟩,rfl,rfl,ad3⟩
def Qa:TE:=λ_ H Q=>∀p,H p=none→Q `a4 (upd H p (.dK []))
def Qu:TE:=λ_ H Q=>∀p,H p=none→Q `a4 (upd H p (.dT []))
section
variable {X:Cx} {pos:Pos}
theorem Fe:PE X (.Dict [] [] pos) Qa:=λpins s σ H Q I h=>
 wpAny_Dict_empty ⟨.ref s.heap.objs.size,_,I.laid (a:=s.heap.objs.size) (o:=.dK []) (t':=s.toks) (λ_ _ q=>aD _ q) (aa3 _) (Ed s.heap I.big),rfl,h _ `aG⟩
theorem Pw:PE X (.Dict [] [] pos) Qu:=λpins s σ H Q I h=>
 wpAny_Dict_empty ⟨.ref s.heap.objs.size,_,I.laid (a:=s.heap.objs.size) (o:=.dT []) (t':=s.toks) (λ_ _ q=>aD _ q) (aa3 _) (Nh s.heap I.big),rfl,h _ `aG⟩
end
def ze:List (TE×TE)→St→Hp→(List (V×V)→Hp→Prop)→Prop
 | [],_,H,Q=>Q [] H
 | (tk,tv)::r,σ,H,Q=>tk σ H λx H1=>tv σ H1 λy H2=>ze r σ H2 λps H3=>Q ((x,y)::ps) H3
abbrev VV:List (V×V)→List (Value×Value)→Prop:=Paired λp q=>RelV p.1 q.1∧RelV p.2 q.2
def PPs (X:Cx) (pos:Pos) (keys:List (Option Expr)) (values:List Expr) (trs:List (TE×TE)):Prop:=
 ∀(pins:List (Addr×Obj)) (s:aE) (σ:St) (H:Hp) (Q:List (V×V)→Hp→Prop),Inv X pins σ H s→ze trs σ H Q→
  aH `d X.A (evalPairs (pairTrees keys values X.env pos)) (λvs s'=>∃ps H',Inv X pins σ H' s'∧VV ps vs∧Q ps H') X.xe s
theorem Jz {X:Cx} {pos:Pos}:PPs X pos [] [] []:=λpins s σ H Q I h=>pairTrees_nil_walk ⟨[],H,I,.nil,h⟩
theorem Ny {X:Cx} {pos:Pos} {k v:Expr} {ks:List (Option Expr)} {vs:List Expr} {tk tv:TE} {trs:List (TE×TE)} (hk:PE X k tk) (hv:PE X v tv) (hr:PPs X pos ks vs trs):
  PPs X pos (aA k::ks) (v::vs) ((tk,tv)::trs):=λpins s σ H Q I h=>
 pairTrees_cons_walk (thn (hk pins s σ H _ I h) λu s1 ⟨x,H1,I1,rx,q1⟩=>thn (hv pins s1 σ H1 _ I1 q1) λw2 s2 ⟨y,H2,I2,ry,q2⟩=>
  thn (hr pins s2 σ H2 _ I2 q2) λws s3 ⟨ps,H3,I3,rel,q3⟩=>⟨(x,y)::ps,H3,I3,.cons ⟨rx,ry⟩ rel,q3⟩)
noncomputable def ji (kvs more:List (Key×V)):List (Key×V):=more.foldl (λacc kv=>putK acc kv.1 kv.2) kvs
theorem KV.merge:∀{more:List (Key×V)} {rs:List (Key×Value)} {kvs:List (Key×V)} {vs:List (Key×Value)},KV more rs→KV kvs vs→KV (ji kvs more) (merged vs rs):=by
 intro more rs kvs vs r;unfold KV at r;induction r generalizing kvs vs with
 | nil=>intro q;exact q
 | @cons p q ps qs h t ih=>
  intro r0;have e:KV (putK kvs p.1 p.2) (stored vs q.1 q.2):=by
   have:=r0.put p.1 h.2;rw[←h.1];exact this
  exact ih e
theorem pd:∀(more kvs:List (Key×V)),(ji kvs more).length≤kvs.length+more.length
 | [],kvs=>by show kvs.length≤kvs.length+0;omega
 | p::r,kvs=>by
  have h1:=pd r (putK kvs p.1 p.2);have h2:=jb kvs p.1 p.2;show (ji (putK kvs p.1 p.2) r).length≤_
  rw[aa8];omega
theorem y6 {P:aU} {w:bA}:∀{kvs:List (Key×V)} {ws:List (Value×Value)},VV (kvs.map λkv=>(kV kv.1,kv.2)) ws→∃rs,Carries (b9 P w) ws rs∧KV kvs rs
 | [],_,r=>by rw[abc] at r;cases r;exact ⟨[],True.intro,.nil⟩
 | p::kvs,_,r=>by
  rw[aaq] at r;cases r with
  | @cons a b as bs h t=>
   obtain ⟨rs,c,q⟩:=y6 (P:=P) (w:=w) t;obtain ⟨b1,b2⟩:=b;exact ⟨(p.1,b2)::rs,⟨ug h.1,rfl,c⟩,.cons ⟨rfl,h.2⟩ q⟩
def Nx (trs:List (TE×TE)):TE:=λσ H Q=>∀p,H p=none→ze trs σ (upd H p (.dK [])) λps H2=>H2 p=aA (.dK [])∧∃kvs:List (Key×V),ps=kvs.map (λkv=>(kV kv.1,kv.2))∧kvs.length≤15∧Q `a4 (upd H2 p (.dK (ji [] kvs)))
theorem Ko {X:Cx} {pos:Pos} {keys:List (Option Expr)} {values:List Expr} {trs:List (TE×TE)} (h:PPs X pos keys values trs) (hall:keys.all (·.isSome)=true) (hl:keys.length=values.length) (h0:keys≠[])
  (h15:keys.length≤15):PE X (.Dict keys values pos) (Nx trs):=by
 intro pins s σ H Q I q;have hn:=I.hok.fresh (aa3 s.heap.objs.size);have I1:=I.laid (a:=s.heap.objs.size) (o:=.dK []) (h':=s.heap.push { cls:=.type "dict",data:=.dict #[] }) (t':=s.toks) (λ_ _ q=>aD _ q) (aa3 _) (Ed s.heap I.big);refine wpAny_Dict_walk (knd:=b9 X.prog X.w) hall hl h0 h15 (thn (h pins _ σ _ _ I1 (q _ hn)) λws s2 ⟨ps,H2,I2,rel,e,kvs,ep,lk,q2⟩=>?_);subst ep;obtain ⟨rs,c,rk⟩:=y6 (P:=X.prog) (w:=X.w) rel;obtain ⟨z,hd,vs0,r0,dd⟩:=dk_of I2.hok e;cases r0
 refine ⟨rs,c,dd,λh' dd' hs=>⟨.ref s.heap.objs.size,_,?_,rfl,q2⟩⟩;have hz:(ji [] kvs).length≤sizeLine:=by
  have h1:=pd kvs [];rw[adh] at h1;rw[aQ];omega
 have he:∃q,h'.get? s.heap.objs.size=aA q:=let ⟨q,_,_,hq,_⟩:=dd';⟨q,hq⟩
 exact Cz I2 (by rw[e];exact True.intro) hs he (N8 hz hd (rk.merge .nil) dd')
structure M2 (X:Cx) (o:Expr) (m:Str) (apos:Pos) (e f:Expr) (cpos:Pos):Prop where
 base:iV o m X.env (eval o X.env)=eval o X.env
 few:((cF cpos (aZ [e,f] X.env)).all (λx=>!x.1)&&(hX cpos (eX [] X.env)).all (λx=>x.1.isSome)
  &&decide (([e,f]:List Expr).length+([]:List jC).length+(if ([]:List jC).isEmpty then 0 else 1) < 30))=true
 line:(apos.endLine==cpos.line)=true
 trees:cF cpos (aZ [e,f] X.env)=[(false,eval e X.env),(false,eval f X.env)]
def se (i:Nat):TE:=λσ H Q=>match σ[i]? with | some (aA v)=>Q v H | _=>False
theorem pvD {X:Cx} (i:Nat) {x:Str} {pos:Pos} (hN:X.N[i]?=aA x) (hv:Vis X.env.scope x) (hd:(x==("__debug__":Str))=false) (hcd:(x==("__classdict__":Str))=false):PE X (.Name x pos) (se i):=λpins s σ H Q I h=>pv i hN hv hd hcd pins s σ H Q I (by
 unfold se at h;split at h
 ·exact ⟨_,‹_›,h⟩
 ·exact h.elim)
theorem pl {X:Cx} (i:Nat) {x:Str} {pos:Pos} (hN:X.N[i]?=aA x) (hv:X.env.scope.names.lookup x=aA .local) (hd:(x==("__debug__":Str)||x==("__classdict__":Str))=false):PE X (.Name x pos) (se i):=pvD i hN (.inl hv) (Bool.or_eq_false_iff.mp hd).1 (Bool.or_eq_false_iff.mp hd).2
theorem pk {X:Cx} (i:Nat) {x:Str} {pos:Pos} (hN:X.N[i]?=aA x) (hv:X.env.scope.names.lookup x=aA .cell) (hd:(x==("__debug__":Str)||x==("__classdict__":Str))=false):PE X (.Name x pos) (se i):=pvD i hN (.inr (.inl hv)) (Bool.or_eq_false_iff.mp hd).1 (Bool.or_eq_false_iff.mp hd).2
theorem n8 {i:Nat} {σ:L2.St} {H:Hp} {Q:VK}:se i σ H Q=∃v,σ[i]?=aA (aA v)∧Q v H:=by
 unfold se;refine propext ⟨λh=>?_,λ⟨v,e,h⟩=>?_⟩
 ·split at h
  ·exact ⟨_,‹_›,h⟩
  ·exact h.elim
 ·rw[e];exact h
theorem Kv {α:Type} {a:α} {x y:List α}:(a::x=a::y)=(x=y):=propext ⟨λh=>(abh h).2,λh=>by rw[h]⟩
theorem Ve {α:Type} {a b:α}:([a]=[b])=(a=b):=propext ⟨λh=>(abh h).1,λh=>by rw[h]⟩
theorem U8 {α:Type} {a b c d:α}:([a,c]=[b,d])=(a=b∧c=d):=propext ⟨λh=>⟨(abh h).1,(abh (abh h).2).1⟩,λ⟨h,k⟩=>by rw[h,k]⟩
theorem Tf {α:Type} {a b c d e f:α}:([a,c,e]=[b,d,f])=(a=b∧c=d∧e=f):=propext ⟨λh=>⟨(abh h).1,(abh (abh h).2).1,(abh (abh (abh h).2).2).1⟩,λ⟨h,k,l⟩=>by rw[h,k,l]⟩
theorem int_ex {a:Int} {p:Int→Prop}:(∃x,V.int a=V.int x∧p x)=p a:=propext ⟨λ⟨x,e,h⟩=>by cases e;exact h,λh=>⟨a,rfl,h⟩⟩
theorem ref_ex {a:Addr} {p:Addr→Prop}:(∃x,V.ref a=V.ref x∧p x)=p a:=propext ⟨λ⟨x,e,h⟩=>by cases e;exact h,λh=>⟨a,rfl,h⟩⟩
theorem bl_ex {a:Bool} {p:Bool→Prop}:(∃x,V.bl a=V.bl x∧p x)=p a:=propext ⟨λ⟨x,e,h⟩=>by cases e;exact h,λh=>⟨a,rfl,h⟩⟩
theorem Ul {a b:Int} {p:Int→Int→Prop}:(∃x y,V.int a=V.int x∧V.int b=V.int y∧p x y)=p a b:=propext ⟨λ⟨x,y,e,e2,h⟩=>by cases e;cases e2;exact h,λh=>⟨a,b,rfl,rfl,h⟩⟩
theorem ifY {c:Prop} [Decidable c] {A B:Prop} (hc:c) (h:A):if c then A else B:=by rw[if_pos hc];exact h
theorem ifN {c:Prop} [Decidable c] {A B:Prop} (hc:¬c) (h:B):if c then A else B:=by rw[if_neg hc];exact h
theorem us0 {α:Type} {P:List α→Prop} {us:List α} (hl:us.length=0) (h:P []):P us:=by
 rw[List.length_eq_zero_iff.mp hl];exact h
theorem usS {α:Type} {P:List α→Prop} {us:List α} {n:Nat} (hl:us.length=n+1) (h:∀a us,us.length=n→P (a::us)):P us:=by
 cases us with
 | nil=>exact absurd hl.symm (Nat.succ_ne_zero n)
 | cons a l=>exact h a l (acp hl)
theorem us1 {α:Type} {P:List α→Prop} {us:List α} (hl:us.length=1) (h:∀a,P [a]):P us:=usS hl λa us hl=>us0 (P:=λus=>P (a::us)) hl (h a)
theorem us2 {α:Type} {P:List α→Prop} {us:List α} (hl:us.length=2) (h:∀a b,P [a,b]):P us:=usS hl λa us hl=>us1 (P:=λus=>P (a::us)) hl (h a)
theorem us3 {α:Type} {P:List α→Prop} {us:List α} (hl:us.length=3) (h:∀a b c,P [a,b,c]):P us:=usS hl λa us hl=>us2 (P:=λus=>P (a::us)) hl (h a)
theorem us4 {α:Type} {P:List α→Prop} {us:List α} (hl:us.length=4) (h:∀a b c d,P [a,b,c,d]):P us:=usS hl λa us hl=>us3 (P:=λus=>P (a::us)) hl (h a)
theorem us5 {α:Type} {P:List α→Prop} {us:List α} (hl:us.length=5) (h:∀a b c d e,P [a,b,c,d,e]):P us:=usS hl λa us hl=>us4 (P:=λus=>P (a::us)) hl (h a)
def zu (g:Int→Int→V):R2:=λx y H Q=>match x,y with | .int i,.int j=>Q (g i j) H | _,_=>False
def rID (C:Int→Int→Prop) (g:Int→Int→V):R2:=λx y H Q=>match x,y with | .int i,.int j=>C i j∧Q (g i j) H | _,_=>False
def rUD (g:Int→V):V→Hp→VK→Prop:=λx H Q=>match x with | .int i=>Q (g i) H | _=>False
def tBD (t:TE):TT:=λσ H Q=>t σ H λx H1=>match x with | .bl c=>Q c H1 | _=>False
def Il (t:TE):TO:=λσ H Q=>t σ H λx H1=>match x with | .int i=>Q (aA i) H1 | _=>False
theorem iu:@zu=@rI0:=by
 funext g x y H Q
 refine propext ⟨λh=>?_,λ⟨i,j,e,f,h⟩=>by subst e;subst f;exact h⟩;unfold zu at h;split at h
 ·exact ⟨_,_,rfl,rfl,h⟩
 ·exact h.elim
theorem De:@rID=@rI:=by
 funext C g x y H Q
 refine propext ⟨λh=>?_,λ⟨i,j,e,f,h⟩=>by subst e;subst f;exact h⟩;unfold rID at h;split at h
 ·exact ⟨_,_,rfl,rfl,h⟩
 ·exact h.elim
theorem rUD_eq:@rUD=@rU:=by
 funext g x H Q
 refine propext ⟨λh=>?_,λ⟨i,e,h⟩=>by subst e;exact h⟩;unfold rUD at h;split at h
 ·exact ⟨_,rfl,h⟩
 ·exact h.elim
theorem blD {x:V} {Q:Bool→Prop}:(match x with | .bl c=>Q c | _=>False)=∃c,x=.bl c∧Q c:=by
 refine propext ⟨λh=>?_,λ⟨i,e,h⟩=>by subst e;exact h⟩;split at h
 ·exact ⟨_,rfl,h⟩
 ·exact h.elim
theorem qu:@tBD=@tB:=by
 funext t σ H Q
 exact congrArg (t σ H) (funext λx=>funext λH1=>blD)
theorem Ks:@Il=@N0:=by
 funext t σ H Q
 refine congrArg (t σ H) (funext λx=>funext λH1=>propext ⟨λh=>?_,λ⟨i,e,h⟩=>by subst e;exact h⟩);split at h
 ·exact ⟨_,rfl,h⟩
 ·exact h.elim
variable {X:Cx}
theorem Sw:OpR X (cL .Add) (zu λi j=>.int (i+j)):=iu ▸ op_add
theorem U0:OpR X (cL .Sub) (zu λi j=>.int (i - j)):=iu ▸ op_sub
theorem Dj:OpR X (cI .Lt) (zu λi j=>.bl (decide (i < j))):=iu ▸ op_lt
theorem jh:OpR X (cI .Gt) (zu λi j=>.bl (decide (j < i))):=iu ▸ op_gt
theorem Ie:OpR X (cI .GtE) (zu λi j=>.bl (decide (j≤i))):=iu ▸ op_ge
theorem jf:OpR X (cL .Mult) (rID yr λi j=>.int (i*j)):=De ▸ op_mul
theorem Qn:OpR X (cL .FloorDiv) (rID CDiv λi j=>.int (i / j)):=De ▸ Rm
theorem Tt:OpR X (cL .Mod) (rID (λ_ j=>0 < j) λi j=>.int (i % j)):=De ▸ op_mod
theorem To:OpR X (cL .Pow) (rID CPow λi j=>.int (i ^ j.toNat)):=De ▸ op_pow
theorem uh:UnR X (unaryOp .USub) (rUD λi=>.int (-i)):=rUD_eq ▸ un_neg
theorem Tv {e:Expr} {t:TE} (h:PE X e t) (he:∀whole,mT e X.env whole=(do let v ←whole;standAt e.pos;kX [v] (truthy v))):PT X e (tBD t):=qu ▸ pt_val h he
theorem Uh {a b:Expr} {pos:Pos} {op:jR} {t:TE} (h:PC X op a b t) (h1:cY op b=false):PT X (.Compare a [op] [b] pos) (tBD t):=qu ▸ pt_cmp h h1
theorem Gu {a b:Expr} {ta tb:TE} {pos:Pos} {op:jR} {r:R2} (ho:OpR X (cI op) r) (ha:PE X a ta) (hb:PE X b tb) (hm:cY op b=false):PT X (.Compare a [op] [b] pos) (tBD (tOp r ta tb)):=qu ▸ Tb ho ha hb hm
theorem Oz {e:Expr} {te:TE} (h:PE X e te):PO X (aA e) (Il te):=Ks ▸ Uz h
def Bl (K:aF):List V→Hp→VK→Prop:=λxs H Q=>match xs with | [.ref p]=>∃ys,(SqL K H p ys∨SqT K H p ys)∧Q (.int ys.length) H | _=>False
def Pa (K:aF):List V→Hp→VK→Prop:=λxs H Q=>match xs with | [.ref p]=>∃ys,(SqL K H p ys∧∀l,H l=none→Q `D (upd H l (.tup ys)))∨(SqT K H p ys∧Q `a4 H) | _=>False
def Q3:List V→Hp→VK→Prop:=λxs H Q=>match xs with | [.int i]=>Q (.int i) H | [.bl k]=>Q (.int (if k then 1 else 0)) H | _=>False
theorem Aa:fo X (.builtin "len") (Bl X.K):=by
 refine Eq.mp (congrArg _ ?_) sm;funext xs H Q
 refine propext ⟨λ⟨p,ys,e,h⟩=>by subst e;exact ⟨ys,h⟩,λh=>?_⟩;unfold Bl at h;split at h
 ·exact h.elim λys h=>⟨_,ys,rfl,h⟩
 ·exact h.elim
theorem yp:fo X (.type "tuple") (Pa X.K):=by
 refine Eq.mp (congrArg _ ?_) oz;funext xs H Q
 refine propext ⟨λ⟨p,ys,e,h⟩=>by subst e;exact ⟨ys,h⟩,λh=>?_⟩;unfold Pa at h;split at h
 ·exact h.elim λys h=>⟨_,ys,rfl,h⟩
 ·exact h.elim
theorem ym:fo X (.type "int") Q3:=by
 refine Eq.mp (congrArg _ ?_) Li;funext xs H Q
 refine propext ⟨λh=>?_,λh=>?_⟩
 ·rcases h with ⟨i,e,h⟩ | ⟨k,e,h⟩ <;> subst e <;> exact h
 unfold Q3 at h;split at h
 ·exact .inl ⟨_,rfl,h⟩
 ·exact .inr ⟨_,rfl,h⟩
 ·exact h.elim
end L2
namespace Pc
section
variable {κ:Type} [DecidableEq κ]
noncomputable def Hm (g:κ→Option Int) (k:κ) (v:Int):κ→Option Int:=λx=>if x=k then aA v else g x
theorem uv {g:κ→Option Int} {k:κ} {v:Int}:Hm g k v k=aA v:=if_pos rfl
theorem wq {g:κ→Option Int} {k x:κ} {v:Int} (h:x≠k):Hm g k v x=g x:=if_neg h
end
end Pc
namespace L2
open PySem PySem.Spec PyProof.Rows
theorem lookup_mem {α:Type} {x:Str} {c:α}:∀{l:List (Str×α)},l.lookup x=aA c→(x,c)∈l
 | [],h=>by cases h
 | (y,d)::r,h=>by
  rw[ace] at h;cases e:x==y with
  | true=>
   rw[e] at h;have e':x=y:=eq_of_beq e;cases h
   subst e';exact aa6
  | false=>
   rw[e] at h;exact aab _ (lookup_mem h)
noncomputable def lx (ix:List Nat) (σ:St):St:=ix.map λj=>(σ[j]?).getD none
def SubP (cs:List (Str×Addr)):List (Str×Addr)→Prop
 | []=>True
 | p::r=>cs.lookup p.1=aA p.2∧SubP cs r
theorem SubP.of {cs:List (Str×Addr)}:∀{cl:List (Str×Addr)},SubP cs cl→∀p∈cl,cs.lookup p.1=aA p.2
 | [],_,_,h=>by cases h
 | p::r,⟨h1,h2⟩,q,hq=>by
  rcases List.mem_cons.mp hq with e | e
  ·rw[e];exact h1
  ·exact SubP.of h2 q e
def Cr (X:Cx) (scope:Scope):List Str→List Nat→Prop
 | [],[]=>True
 | x::fr,j::ix=>(X.N[j]?=aA x∧X.env.kindOf x=aA .cell∧(dC scope X.env).names.lookup x=aA .cell)∧Cr X scope fr ix
 | _,_=>False
theorem Cr.len {X:Cx} {scope:Scope}:∀{fr:List Str} {ix:List Nat},Cr X scope fr ix→fr.length=ix.length
 | [],[],_=>rfl
 | x::fr,j::ix,h=>by rw[aa8,aa8,Cr.len h.2]
 | [],_::_,h=>h.elim
 | _::_,[],h=>h.elim
theorem Cr.get {X:Cx} {scope:Scope}:∀{fr:List Str} {ix:List Nat},Cr X scope fr ix→∀(k j:Nat),ix[k]?=aA j→∃x,fr[k]?=aA x∧X.N[j]?=aA x∧X.env.kindOf x=aA .cell∧(dC scope X.env).names.lookup x=aA .cell
 | [],[],_,k,j,e=>by simp at e
 | x::fr,i::ix,h,0,j,e=>by
  have e':i=j:=by simpa using e
  subst e';exact ⟨x,rfl,h.1⟩
 | x::fr,i::ix,h,k+1,j,e=>by
  obtain ⟨y,hy,r⟩:=Cr.get h.2 k j (by simpa using e);exact ⟨y,by simpa using hy,r⟩
 | [],_::_,h,_,_,_=>h.elim
 | _::_,[],h,_,_,_=>h.elim
structure lz (X:Cx) (scope:Scope) (own fr:List Str) (ix:List Nat) (cl:List (Str×Addr)):Prop where
 clos:closureFor scope X.env=pure cl
 kind:scope.kind=.function
 nocell:(scope.names.all λy=>decide (y.2≠.cell))=true
 names:(scope.names.all λy=>decide (y.2≠.local)||decide (scope.names.lookup y.1=aA .local))=true
 sub:SubP X.env.cells cl
 has:((dC scope X.env).names.all λy=>!(decide (y.2=.cell)||decide (y.2=.free))||(cl.lookup y.1).isSome)=true
 out':Cr X scope fr ix
section
variable {X:Cx} {scope:Scope} {own fr:List Str} {ix:List Nat} {cl:List (Str×Addr)}
theorem lz.len (C:lz X scope own fr ix cl):fr.length=ix.length:=C.out'.len
theorem lz.out (C:lz X scope own fr ix cl):∀(k j:Nat),ix[k]?=aA j→∃x,fr[k]?=aA x∧X.N[j]?=aA x∧Vis X.env.scope x∧X.env.kindOf x≠aA .local∧(dC scope X.env).names.lookup x≠aA .local:=λk j e=>by
 obtain ⟨x,h1,h2,h3,h4⟩:=C.out'.get k j e;exact ⟨x,h1,h2,.inr (.inl h3),(by rw[h3];intro z;cases z),(by rw[h4];intro z;cases z)⟩
theorem lz.R9 (C:lz X scope own fr ix cl):∀x∈scope.names,x.2≠.cell:=λx hx=>of_decide_eq_true (List.all_eq_true.mp C.nocell x hx)
theorem lz.Cw (C:lz X scope own fr ix cl):∀x∈scope.names,x.2=.local→scope.names.lookup x.1=aA .local:=λx hx e=>by
 have h:=List.all_eq_true.mp C.names x hx;rw[aci] at h;rcases h with h | h
 ·exact absurd e (of_decide_eq_true h)
 ·exact of_decide_eq_true h
theorem lz.tq (C:lz X scope own fr ix cl):∀x c,cl.lookup x=aA c→X.env.cells.lookup x=aA c:=λx c h=>C.sub.of _ (lookup_mem h)
theorem lz.has' (C:lz X scope own fr ix cl):∀x,((dC scope X.env).names.lookup x=aA .cell∨(dC scope X.env).names.lookup x=aA .free)→∃c,cl.lookup x=aA c:=λx hx=>by
 have key:∀k,(dC scope X.env).names.lookup x=aA k→(k=.cell∨k=.free)→∃c,cl.lookup x=aA c:=λk e hk=>by
  have h:=List.all_eq_true.mp C.has (x,k) (lookup_mem e);rw[aci] at h;rcases h with h | h
  ·rcases hk with rfl | rfl
   ·simp at h
   ·simp at h
  ·exact Option.isSome_iff_exists.mp h
 rcases hx with h | h
 ·exact key _ h `O
 ·exact key _ h (.inr rfl)
end
noncomputable def cxC (X:Cx) (scope:Scope) (cl:List (Str×Addr)) (ns:List Str) (fp:List Addr) (s:aE) (H:Hp):Cx where
 prog:=X.prog
 w:=X.w
 K:=X.K
 mg:=X.mg
 base:=X.base
 A:=X.A
 N:=ns
 s₀:=s
 H₀:=H
 env:=nV scope cl s.heap.objs.size X.env
 outer:=X.stack
 stack:=X.stack
 ex:=fp
 fn:=λ_=>false
 calm:=X.calm
 pn:=[]
 xe:=λ_ _=>False
section
variable {X:Cx} {scope:Scope} {own fr:List Str} {ix:List Nat} {cl:List (Str×Addr)} {pins:List (Addr×Obj)} {σ:St} {H:Hp} {s:aE} {fp:List Addr}
theorem cxC_ok (C:lz X scope own fr ix cl) (I:Inv X pins σ H s) (f:∀b∈fp,ke X pins H b) (lt:∀b∈fp,b < s.heap.objs.size):(cxC X scope cl (own++fr) fp s H).Ok where
 mod:=I.ok.mod
 kind:=C.kind
 glob:=I.ok.glob
 blt:=I.ok.blt
 above:=aa3 _
 inj:=λx y c h1 h2=>I.ok.inj x y c (C.tq x c h1) (C.tq y c h2)
 has:=λx hx=>C.has' x hx
 cab:=λx c h _=>Bool.noConfusion h
 hd:=I.ok.hd
 frames:=I.ok.frames
 stk:=.inl rfl
 exf:=λb hb=>⟨aal (lt b hb),λx c e=>(f b hb).2.2.2.2.1 x c (C.tq x c e)⟩
 bs:=λb o e=>I.bs b o e
 bsz:=ab6 I.ok.bsz I.sz
 noex:=λb o e hb=>by
  rcases (f b hb).2.2.2.1 with z | z
  ·exact I.ok.noex b o e z
  ·exact absurd (aan (aJ e) (ab6 I.ok.bsz z)) (abg _)
 exfs:=λb hb z=>by
  rcases List.mem_cons.mp (I.Ci b z) with q | q
  ·exact (f b hb).2.1 q
  ·exact (f b hb).2.2.1 q
 uz:=I.stack
 frf:=I.wu
theorem Qy (C:lz X scope own fr ix cl) (I:Inv X pins σ H s) (f:∀b∈fp,ke X pins H b) (lt:∀b∈fp,b < s.heap.objs.size) {h₁:Heap} {t:Nat} {m:Str→Option Value}
  (hns:h₁.Ns s.heap.objs.size m) (k:∀b o,s.heap.get? b=aA o→h₁.get? b=aA o):
  Inv `C [] (aba own.length none++lx ix σ) H { s with heap:=h₁,toks:=t } where
 ok:=cxC_ok C I f lt
 os:=rfl
 bare:=I.bare
 base:=Un.kept k
 loc:=⟨m,hns,λi x v e1 e2 e3=>by
  have e1:(own++fr)[i]?=aA x:=e1;by_cases hi:i < own.length
  ·rw[aak (by simpa using hi),adz] at e2;rw[if_pos hi] at e2;cases e2
  ·have hi':own.length≤i:=aei hi;rw[aah (by simpa using hi')] at e2;rw[aah hi'] at e1;rw[abb] at e2;unfold lx at e2;rw[aa4] at e2;cases q:ix[i - own.length]? with
   | none=>rw[q] at e2;cases e2
   | some j=>
    rw[q] at e2;have e2':(σ[j]?).getD none=aA v:=aa7 e2;obtain ⟨x',hx',hN,hv,hk,hl'⟩:=C.out _ j q;rw[e1] at hx';cases hx'
    have e4:σ[j]?=aA (aA v):=by
     cases z:σ[j]? with
     | none=>rw[z] at e2';cases e2'
     | some w=>rw[z] at e2';exact congrArg aA e2'
    obtain ⟨mX,hnX,hl⟩:=I.loc;obtain ⟨u,r,l⟩:=hl j x v hN e4 hv;rcases l with ⟨kl,_⟩ | ⟨kk,c,ec,z⟩
    ·exact absurd kl hk
    ·have kY:(dC scope X.env).names.lookup x=aA .cell∨(dC scope X.env).names.lookup x=aA .free:=by
      rcases e3 with e3 | e3 | e3
      ·exact absurd e3 hl'
      ·exact .inl e3
      ·exact .inr e3
     obtain ⟨c',hc'⟩:=C.has' x kY;have hcc:=C.tq x c' hc';rw[ec] at hcc;cases hcc
     obtain ⟨o,ho,hd⟩:=z;exact ⟨u,r,.inr ⟨kY,c,hc',⟨o,k c o ho,hd⟩⟩⟩⟩
 cell:=λx c e=>by
  obtain ⟨v,o,ho,hd⟩:=I.cell x c (C.tq x c e);exact ⟨v,o,k c o ho,hd⟩
 free:=I.hok.fresh (aa3 _)
 freeC:=λx c e=>I.freeC x c (C.tq x c e)
 pin:=λp hp=>by cases hp
 hok:=I.hok.kept k
 len:=by
  show (aba own.length none++lx ix σ).length=(own++fr).length
  rw[aa2,aa2,abb,C.len];unfold lx;rw[aa0]
theorem Q8 (I:Inv X pins σ H s) (f:∀b∈fp,ke X pins H b) {ns:List Str} {τ:St} {H':Hp} {s':aE} {pins':List (Addr×Obj)} (J:Inv (cxC X scope cl ns fp s H) pins' τ H' s'):Inv X pins σ H' s':=
 I.N5 (ch:=fp) J.os J.base J.hok J.bare λb hb=>⟨(f b hb).2.2.2.1,(f b hb).2.1,(f b hb).2.2.2.2.1,(f b hb).2.2.2.2.2⟩
theorem yc {σ':St} (I:Inv X pins σ H s) {H':Hp} {s':aE} {h':Heap} (J:Inv X pins σ' H' s') (free:H' s.heap.objs.size=none) (sb:bF s.heap.objs.size s'.heap h'):Inv X pins σ' H' { s' with heap:=h' }:=
 J.turned (it:=s.heap.objs.size) (t':=s'.toks) (λb o hb e=>(sb.2 b hb).trans e) free (ab4 I.lt) (.inr I.sz)
  (λx c e z=>by
   obtain ⟨v,q⟩:=I.cell x c e;exact absurd (z ▸ q.lt) (abg _))
  (λp hp z=>absurd (z ▸ aJ (I.pin p hp).1) (abg _))
end
section
variable {prog:aU} {w:bA} {A:bE} {R:iE→aE→Prop} {s:aE}
theorem rm {elt target iter:Expr} {ifs:List Expr} {scope:Scope} {pos:Pos} {it acc:Value} {env:Env} (I:Nat→aE→Prop)
  (turn:∀n s,I n s→aH `e A (cV it) (λr s₁=>match r with
   | none=>R (.ok .next) s₁
   | aA v=>aH `e A (eQ target it v) (λ_ s₁'=>aH `e A (iN target env v) (λ_ s₂=>
     aH `e A (forIn ifs true λc r=>if r=true then do let ok ←mT c env (eval c env);pure (iG ok) else pure (iG r)) (λok s₃=>
      if ok=true then aH `e A (eval elt env) (λx s₄=>
       aH `e A (call (.builtin "list.append") [acc,x]) (λ_ s₅=>∃m,m < n∧I m s₅) (lE `e A env λe s'=>R (.error e) s') s₄) (lE `e A env λe s'=>R (.error e) s') s₃
      else ∃m,m < n∧I m s₃) (lE `e A env λe s'=>R (.error e) s') s₂) (lE `e A env λe s'=>R (.error e) s') s₁') (lE `e A env λe s'=>R (.error e) s') s₁)
    (lE `e A env λe s'=>R (.error e) s') s)
  (n:Nat) (h:I n s):
  dM `e A (.compLoop (.ListComp elt [⟨target,iter,ifs,0⟩] scope pos) 0 it acc env) R s:=by
 refine codeAny_loop rfl I (λn s hI=>?_) n h;show aH _ A ((compTurn (.ListComp elt [⟨target,iter,ifs,0⟩] scope pos) 0 it acc env).onRaise (λx=>do nD x env;theTreesLotGoes x)) _ _ s
 refine wpAny_noted ?_;rw[compTurn_list];refine aC (fR (aC (bG (turn n s hI) (λr s₁ h₁=>?_) λ_ _ h'=>h')));cases r with
 | none=>exact aG h₁
 | some v=>
  refine aC (bG h₁ (λ_ s₁' h₁'=>?_) λ_ _ h'=>h');refine aC (bG h₁' (λ_ s₂ h₂=>aC (bG h₂ (λok s₃ h₃=>?_) λ_ _ h'=>h')) λ_ _ h'=>h');cases ok with
  | false=>exact aG ⟨rfl,h₃⟩
  | true=>
   exact aC (aC (bG h₃ (λx s₄ h₄=>aC (bG h₄ (λ_ s₅ h₅=>aG (aG ⟨rfl,h₅⟩)) λ_ _ h'=>h')) λ_ _ h'=>h'))
end
def Ib (X:Cx) (ifs:List Expr) (t:TT):Prop:=
 ∀(pins:List (Addr×Obj)) (s:aE) (σ:St) (H:Hp) (Q:Bool→Hp→Prop),Inv X pins σ H s→t σ H Q→
  aH `d X.A (forIn ifs true λc r=>if r=true then do let ok ←mT c X.env (eval c X.env);pure (iG ok) else pure (iG r)) (TP X pins σ Q) X.xe s
def tNoIf:TT:=λ_ H Q=>Q true H
theorem zy {X:Cx}:Ib X [] tNoIf:=λpins s σ H Q I h=>wpAny_tests_nil ⟨H,I,h⟩
theorem pif1 {X:Cx} {c:Expr} {t:TT} (h:PT X c t):Ib X [c] t:=λpins s σ H Q I q=>wpAny_tests_one (h pins s σ H Q I q)
def LC (n:Nat) (fr:St) (g:TG) (tc:TT) (te:TE) (J:It) (D:Addr) (H1:Hp) (Q:Hp→Prop):Prop:=
 ∃W:Nat→Nat→Hp→Prop,(∃m,W 0 m (upd H1 D `ai))∧∀i m H,W i m H→
  (J.stop i H∧Q H)∨(J.go i H∧∀(τ:St) x H',τ.length=n→J.yld i H x H'→g x (τ++fr) H' λσ2 H2=>(∃τ':St,τ'.length=n∧σ2=τ'++fr)∧tc σ2 H2 λb H3=>
   if b=true then te σ2 H3 λy H4=>∃ys,H4 D=aA (.lst ys)∧ys.length < sizeLine∧∃m',m' < m∧W (i+1) m' (upd H4 D (.lst (ys++[y]))) else ∃m',m' < m∧W (i+1) m' H3)
def tLC (n:Nat) (ix:List Nat) (wi:TI) (g:TG) (tc:TT) (te:TE):TE:=λσ H Q=>wi σ H λJ H1=>∀D,H1 D=none→LC n (lx ix σ) g tc te J D H1 λH'=>Q (.ref D) H'
section
variable {X:Cx} {scope:Scope} {own fr:List Str} {ix:List Nat} {cl:List (Str×Addr)} {elt iter tg:Expr} {ifs:List Expr} {pos:Pos} {wi:TI} {g:TG} {tc:TT} {te:TE}
theorem xo {E:Value→aE→Prop} {RR:Value→Addr→iE→aE→Prop} (C:lz X scope own fr ix cl) (hc:X.calm=true)
  (hg:∀fp s H,PG `C tg g) (ht:∀fp s H,Ib `C ifs tc) (he:∀fp s H,PE `C elt te)
  {pins:List (Addr×Obj)} {σ:St} {H2:Hp} {s2:aE} {it:Addr} {fp:List Addr} {tn:Nat→Heap→Prop} {J:It} {Q:Hp→Prop} (I2:Inv X pins σ H2 s2) (T:Turn X.prog X.w X.K tg J fp it tn) (st2:tn 0 s2.heap) (f2:∀b∈fp,ke X pins H2 b)
  (q:LC own.length (lx ix σ) g tc te J s2.heap.objs.size H2 Q)
  (hRR:∀(s3 s':aE) (H3 H':Hp) (τ:St),Inv X pins σ H3 s3→Inv X pins σ H' s'→H' s3.heap.objs.size=none→(∃m,s'.heap.Ns s3.heap.objs.size m)→Q H'→RR `ap s3.heap.objs.size (.ok .next) s'):
  aH `d X.A (newList []) (λacc s₃=>aH `d X.A (iI scope X.env.globals cl [] X.env.qual none .none (aA X.env)) (λcenv s₄=>
   dM `d X.A (.compStart `o 0 (.ref it) acc { cenv with scope:=dC scope X.env }) (RR acc cenv.locals) s₄) E s₃) E s2:=by
 refine cO ?_;have I3:Inv X pins σ `g { s2 with heap:=s2.heap.push { cls:=.type "list",dict:=none,data:=.seq ([]:List Value).toArray } }:=I2.lnew (t':=s2.toks) (its:=[]) .nil (aag _);have lt2:∀b∈fp,b < s2.heap.objs.size:=λb hb=>by
  obtain ⟨o,e,_⟩:=T.obj 0 _ st2 b hb;exact aJ e
 have fneD:∀b∈fp,b≠s2.heap.objs.size:=λb hb=>aal (lt2 b hb);generalize hs3:({ s2 with heap:=s2.heap.push { cls:=.type "list",dict:=none,data:=.seq ([]:List Value).toArray } }:aE)=s3 at I3 ⊢;have hsz:s3.heap.objs.size=s2.heap.objs.size+1:=by rw[←hs3];exact bB ..
 have kp23:∀b o,s2.heap.get? b=aA o→s3.heap.get? b=aA o:=λb o e=>by rw[←hs3];exact aD _ e
 have f3:∀b∈fp,ke X pins `g b:=λb hb=>by
  obtain ⟨f0,fr⟩:=f2 b hb;exact ⟨by rw[ak (fneD b hb)];exact f0,fr⟩
 have lt3:∀b∈fp,b < s3.heap.objs.size:=λb hb=>by rw[hsz];exact abw (lt2 b hb)
 refine wpAny_newFunctionEnv C.R9 (by intro y hy;simp at hy) (λh₁ hns₁ hsb₁=>?_) C.kind;have k34:∀b o,s3.heap.get? b=aA o→h₁.get? b=aA o:=λb o e=>
  (hsb₁.2 b (aal (aJ e))).trans (aD _ e)
 have I4:=Qy C I3 f3 lt3 (t:=s3.toks+([]:List (Str×Value)).length) hns₁ k34;have st4:tn 0 h₁:=T.keep 0 _ _ st2 λb _ o e=>k34 b o (kp23 b o e);obtain ⟨W,⟨m0,w0⟩,turn⟩:=q;have loop:∀s4:aE,s4={ s3 with heap:=h₁,toks:=s3.toks+([]:List (Str×Value)).length }→
   dM `d X.A (.compLoop `o 0 (.ref it) `ap (nV scope cl s3.heap.objs.size X.env)) (RR `ap s3.heap.objs.size) s4:=by
  rintro s4 rfl;have stat:∀{H':Hp},(∀b∈fp,H' b=none)→∀b∈fp,ke `av [] H' b:=λ{H'} hn b hb=>
   ⟨hn b hb,aal (lt3 b hb),I4.ok.exfs b hb,.inl hb,(I4.ok.exf b hb).2,λp hp=>by cases hp⟩
  refine rm (λn s'=>∃i τ H',τ.length=own.length∧Inv `av [] (τ++lx ix σ) H' s'∧tn i s'.heap∧(∀b∈fp,H' b=none)∧W i n H') ?_ m0
   ⟨0,aba own.length none,_,abb,I4,st4,λb hb=>(f3 b hb).1,w0⟩
  rintro n s5 ⟨i,τ,H5,hτ,I5,st5,fr5,w5⟩;rcases turn i n H5 w5 with ⟨stop,qn⟩ | ⟨go,step⟩
  ·refine bG (T.done `av rfl rfl rfl hc i [] s5 _ H5 (λ_ _=>False) I5 (stat fr5) st5 stop) (λr s6 ⟨hr,I6⟩=>?_) λ_ _ z=>z.elim;subst hr;obtain ⟨mm,hmm,_⟩:=I6.loc;exact hRR s3 s6 _ H5 τ I3 (Q8 I3 f3 I6) I6.free ⟨mm,hmm⟩ qn
  ·refine bG (T.item `av rfl rfl rfl hc i [] s5 _ H5 (λ_ _=>False) I5 (stat fr5) st5 go) (λr s6 ⟨u,hr,h6⟩=>?_) λ_ _ z=>z.elim;subst hr;refine bG h6 (λ_ s7 ⟨x,H7,I7,r7,y7,st7,fr7⟩=>?_) λ_ _ z=>z.elim;have I7':=I7.pinned (stat fr7) (T.obj _ _ st7);refine bG (hg fp s3 _ _ s7 _ H7 x u _ I7' r7 (step τ x H7 hτ y7)) (λ_ s8 ⟨σ8,H8,I8,⟨τ',hτ',e8⟩,q8⟩=>?_) λ_ _ z=>z.elim;have fin:∀{H9:Hp} {s9:aE},Inv `av ([]++vd fp s7.heap) σ8 H9 s9→(∃m',m' < n∧W (i+1) m' H9)→
     ∃m,m < n∧∃i τ H',τ.length=own.length∧Inv `av [] (τ++lx ix σ) H' s9∧tn i s9.heap∧(∀b∈fp,H' b=none)∧W i m H':=λ{H9 s9} I9 hw=>by
    obtain ⟨m',hm,w9⟩:=hw;refine ⟨m',hm,i+1,τ',H9,hτ',e8 ▸ I9.mq,T.keep _ _ _ st7 λb hb o e=>(I9.pin (b,o) (aao _ (aao _ (gy hb e)))).1,λb hb=>?_,w9⟩;obtain ⟨o,e,d⟩:=T.obj _ _ st7 b hb;exact (I9.pin (b,o) (aao _ (aao _ (gy hb e)))).2.1
   refine bG (ht fp s3 _ _ s8 σ8 H8 _ I8 q8) (λok s9 ⟨H9,I9,q9⟩=>?_) λ_ _ z=>z.elim;cases ok with
   | false=>exact fin I9 q9
   | true=>
    refine bG (he fp s3 _ _ s9 σ8 H9 _ I9 q9) (λy s10 ⟨v10,H10,I10,r10,ys,hD,hz,q10⟩=>?_) λ_ _ z=>z.elim;refine bG (vc (X:=cxC X scope cl (own++fr) fp s3 `g) _ s10 σ8 H10 `ap [v10] _ [y] (λ_ H'=>∃m',m' < n∧W (i+1) m' H') I10 rfl (.cons r10 .nil) ⟨_,ys,v10,rfl,rfl,hD,hz,q10⟩) (λ_ s11 ⟨_,H11,I11,_,q11⟩=>?_) λ_ _ z=>z.elim;exact fin I11 q11
 exact kP (loop _ rfl) (T.self _ 0 _ _ _ st4 (loop _ rfl))
theorem pe_lc (C:lz X scope own fr ix cl) (hc:X.calm=true) (hi:PI X tg iter wi) (hg:∀fp s H,PG `C tg g)
  (ht:∀fp s H,Ib `C ifs tc) (he:∀fp s H,PE `C elt te)
  (hs:∀x,gT iter X.env x=pure x:=by intro _;rfl):PE X `o (tLC own.length ix wi g tc te):=by
 intro pins s σ H Q I h;rw[eval_ListComp];refine gH (use:=none) rfl hs C.clos C.kind C.Cw (thn (hi pins s σ H _ I h) λv s1 h1=>thn h1 λitv s2 h2=>?_);obtain ⟨it,fp,tn,J,H2,e,I2,T,st2,f2,q⟩:=h2;subst e;refine xo (RR:=λacc D=>compPost `d X.A X.xe none `ax acc D) C hc hg ht he I2 T st2 f2 (q _ (I2.hok.fresh (aa3 _))) λs3 s' H3 H' τ I3 I' hn hm q'=>?_;obtain ⟨m,hm⟩:=hm;exact ⟨m,hm,λh' sb=>⟨.ref s2.heap.objs.size,H',yc I3 I' hn sb,rfl,q'⟩⟩
def Qh (i n:Nat) (ix:List Nat) (wi:TI) (g:TG) (tc:TT) (te:TE):TS:=λD σ H=>wi σ H λJ H1=>∀l,H1 l=none→LC n (lx ix σ) g tc te J l H1 λH'=>D.nx (σ.set i (aA `D)) H'
theorem Ob {i:Nat} {x:Str} {px spos:Pos} (hN:X.N.Nodup) (hx:X.N[i]?=aA x) (hl:Loc X.env.scope x) (C:lz X scope own fr ix cl) (hc:X.calm=true) (hi:PI X tg iter wi)
  (hg:∀fp s H,PG `C tg g) (ht:∀fp s H,Ib `C ifs tc) (he:∀fp s H,PE `C elt te)
  (hsw:mV `o (aA (.Name x px)) spos.line X.env=pure true:=by rfl)
  (hs:∀x,gT iter X.env x=pure x:=by intro _;rfl) (hf:X.fn x=true∨X.env.scope.names.lookup x=aA .local:=by first | exact .inl rfl | exact .inr rfl | assumption):
  PS X (.Assign [.Name x px] `o spos) (Qh i own.length ix wi g tc te):=by
 intro pins s σ H D I h;rw[exec_Assign_Name_used _ _ _ _ hsw];refine aC (fR (aC ?_));show aH _ X.A (do let _ ←comprehension `o scope X.env _ (newList []) false (eval iter X.env) (aA (iN (.Name x px) X.env))) _ _ s
 refine aC (bG (gH (use:=aA (iN (.Name x px) X.env)) (Q:=λ_ s'=>SP X pins D .next s') rfl hs C.clos C.kind C.Cw
  (thn (hi pins s σ H _ I h) λv s1 h1=>thn h1 λitv s2 h2=>?_)) (λ_ s' hq=>aG (aG hq)) λ_ _ e=>e)
 obtain ⟨it,fp,tn,J,H2,e,I2,T,st2,f2,q⟩:=h2;subst e;refine xo (RR:=λacc C=>compPost `d X.A X.xe (aA (iN (.Name x px) X.env)) (λ_ s'=>SP X pins D .next s') acc C) C hc hg ht he I2 T st2 f2 (q _ (I2.hok.fresh (aa3 _))) λs3 s' H3 H' τ I3 I' hn hm q'=>?_;obtain ⟨m,hm⟩:=hm;show aH _ X.A (iN (.Name x px) X.env `ap) _ _ _
 refine nL (Aw I' hN hx hl (v:=.ref s2.heap.objs.size) rfl (λs'' I'' hsb=>?_) hf);obtain ⟨a,sba,ha⟩:=hsb;have hne:s3.heap.objs.size≠a:=by
  rcases ha with rfl | ha
  ·exact ab4 I3.lt
  ·obtain ⟨v,qv⟩:=I3.cell x a ha;exact ab4 qv.lt
 exact ⟨m,hm.sameBut sba hne,λh' sb=>⟨_,H',yc I3 I'' hn sb,q'⟩⟩
end
noncomputable def Its (z:Str):It:=⟨λi _=>i < z.cps.size,λi H x H'=>H'=H∧∃c,z.cps[i]?=aA c∧x=.str ⟨#[c]⟩,λi _=>i=z.cps.size⟩
def iStr (tl:TE):TI:=λσ H R=>tl σ H λx H1=>∃z,x=.str z∧R (Its z) H1
theorem range_all (bs:List Bool) (tr:Nat→Bool) (h:∀(i:Nat) b,bs[i]?=aA b→tr i=b):(abl bs.length).all tr=bs.all id:=by
 apply Bool.eq_iff_iff.mpr
 constructor
 ·intro h1;refine List.all_eq_true.mpr λb hb=>?_;obtain ⟨i,hi⟩:=abm hb;have hl:i < bs.length:=(List.getElem?_eq_some_iff.mp hi).1;have:=List.all_eq_true.mp h1 i (List.mem_range.mpr hl);rw[h i b hi] at this;exact this
 ·intro h1;refine List.all_eq_true.mpr λi hi=>?_;have hl:i < bs.length:=List.mem_range.mp hi;have hg:bs[i]?=aA bs[i]:=aa1 hl;rw[h i _ hg];exact List.all_eq_true.mp h1 _ (aaf hl)
section
variable {X:Cx}
theorem o7 (hc:X.calm=true):fo X (.builtin "all") (λxs H Q=>∃p bs,xs=[.ref p]∧SqL X.K H p (acz V.bl bs)∧Q (.bl (bs.all id)) H):=by
 intro pins s σ H xs us Q I r h;obtain ⟨p,bs,rfl,hq,q⟩:=h;obtain ⟨u,rfl,rx⟩:=vals1 r;cases rx
 obtain ⟨its,rv,pl,hz⟩:=I.list hq;have hlen:bs.length=its.length:=by rw[←rv.length,aa0]
 refine call_all_walk (dW pl.isList ?_);have hne:p≠s.heap.objs.size:=by
  obtain ⟨o,n,e,_⟩:=pl;exact aal (aJ e)
 have I1:Inv X pins σ H { s with heap:=s.heap.push { cls:=.type "list_iterator",data:=.fields #[.ref p,.int 0 0] } }:=I.kept (t':=s.toks) λb o e=>aD _ e;have fp:=I.kh (H':=H) (aa3 s.heap.objs.size) `aG;obtain ⟨f0,f1,f2,f3,f4,f5⟩:=fp;refine ⟨s.heap.objs.size,_,_,its.toArray.size,_,_,λi=>(bs[i]?).getD false,rfl,Walks.list (A:=X.A.in1) (by show X.A.handled=none;exact I.ok.hd hc) s.heap.objs.size p hne its.toArray,⟨⟨_,aI _ rfl,rfl,rfl⟩,?_⟩,?_,λh' tk kk=>?_⟩
 ·obtain ⟨o,ho,r⟩:=pl.isList;exact ⟨o,aD _ ho,r⟩
 ·intro i v s' Q' E' hv hQ;have hv':its[i]?=aA v:=by simpa using hv
  have hi:i < bs.length:=by rw[hlen];exact (List.getElem?_eq_some_iff.mp hv').1
  have hb:(bs.map V.bl)[i]?=aA (V.bl bs[i]):=by rw[aa4,aa1 hi];rfl
  obtain ⟨u',hu',ru'⟩:=rv.get hb;rw[hv'] at hu';cases hu'
  cases ru'
  dsimp only at hQ;rw[aa1 hi] at hQ;exact dI hQ
 ·rw[aa9,←hlen,range_all bs _ (λi b e=>by rw[e];rfl)];exact ⟨.bl _,H,I1.turned (it:=s.heap.objs.size) (λb o hb e=>kk b o (by simpa using hb) e) f0 f1 f3 f4 f5,rfl,q⟩
end
noncomputable def Im (z:Str) (lo hi:Option Int):Str:=⟨((z.cps.toList.drop (HT.sIx z.length 0 lo)).take (HT.sIx z.length z.length hi - HT.sIx z.length 0 lo)).toArray⟩
theorem Us (z:Str) (lo hi:Option Int):(Im z lo hi).length≤z.length:=by
 show ((z.cps.toList.drop _).take _).toArray.size≤z.cps.size
 rw[aa9,aau,aav,abf];omega
theorem Tg (n:Nat) (lo:Option Int):(match lo with | none=>(0:Int) | some i=>max 0 `ab)=((HT.sIx n 0 lo:Nat):Int):=by
 cases lo with
 | none=>rfl
 | some i=>
  show max 0 `ab=((HT.sIx n 0 (aA i):Nat):Int)
  unfold HT.sIx;by_cases h:i < 0
  ·simp only[h,if_true] <;> omega
  ·simp only[h,if_false] <;> omega
theorem Ue (n:Nat) (hi:Option Int):(match hi with | none=>(n:Int) | some i=>max 0 `ab)=((HT.sIx n n hi:Nat):Int):=by
 cases hi with
 | none=>rfl
 | some i=>
  show max 0 `ab=((HT.sIx n n (aA i):Nat):Int)
  unfold HT.sIx;by_cases h:i < 0
  ·simp only[h,if_true] <;> omega
  ·simp only[h,if_false] <;> omega
theorem sr (lo hi:Option Int) (n:Nat):bS lo hi 1 n=(abl (HT.sIx n n hi - HT.sIx n 0 lo)).map (HT.sIx n 0 lo+·):=by
 have e:bS lo hi 1 n=sliceRange (match lo with | none=>(0:Int) | some i=>max 0 `ab) (match hi with | none=>(n:Int) | some i=>max 0 `ab) 1:=by
  cases lo <;> cases hi <;> rfl
 rw[e,Tg n lo,Ue n hi,sliceRange_one]
theorem Mh (z:Str) (lo hi:Option Int):(⟨((bS lo hi 1 z.length).filterMap (z.cps[·]?)).toArray⟩:Str)=Im z lo hi:=by
 rw[sr,pick_run];rfl
theorem Hj (z:Str) (lo hi:Option Int) (h:(bS lo hi 1 z.length).length=z.length):Im z lo hi=z:=by
 rw[sr,aa0,abx] at h;have h1:HT.sIx z.length 0 lo≤z.length:=HT.G8 _ _ (aag _) lo;have h2:HT.sIx z.length z.length hi≤z.length:=HT.G8 _ _ (aa3 _) hi;unfold Im;by_cases h0:z.length=0
 ·have e0:z.cps.toList=[]:=by
   apply List.eq_nil_of_length_eq_zero
   rw[abf];exact h0
  rw[e0];have e1:z.cps=#[]:=by
   apply adi
   exact h0
  cases z with
  | mk c=>cases e1;simp
 ·have a:HT.sIx z.length 0 lo=0:=by omega
  have b:HT.sIx z.length z.length hi=z.length:=by omega
  rw[a,b,acq,aeb];have e:z.cps.toList.take z.length=z.cps.toList:=by
   apply aaw
   rw[abf];exact aa3 _
  rw[e]
section
variable {X:Cx}
def rSlS:V→Option Int→Option Int→Hp→VK→Prop:=λx lo hi H Q=>∃z,x=.str z∧z.length≤sizeLine∧Q (.str (Im z lo hi)) H
theorem part_of {v:Value} {o:Option Int} (p:gX v o):∃l:Option (Int×Tok),partValue l=v∧l.map (·.1)=o:=by
 cases p with
 | none=>exact ⟨none,rfl,rfl⟩
 | int i t=>exact ⟨aA (i,t),rfl,rfl⟩
theorem sl_str:SlR X rSlS:=by
 intro pins s σ H x v vl vu lo hi sl Q I rx hs pl pu h;obtain ⟨z,rfl,hz,q⟩:=h;obtain ⟨t,rfl⟩:=rx;obtain ⟨l,el,e1⟩:=part_of pl;obtain ⟨u,eu,e2⟩:=part_of pu;subst el eu e1 e2;refine ⟨"str",_,F.slot_str_getitem.lookup,oA s z t,wpAny_getItem_str_slice (l:=l) (u:=u) (st:=none) hs rfl ?_⟩;unfold sliceMade slicePicked;by_cases c:(((none:Option (Int×Tok)).map (·.1)).getD 1==1&&(bS (l.map (·.1)) (u.map (·.1)) (((none:Option (Int×Tok)).map (·.1)).getD 1) z.length).length==z.length)=true
 ·rw[if_pos c];rw[ac3] at c;have c2:(bS (l.map (·.1)) (u.map (·.1)) 1 z.length).length=z.length:=eq_of_beq c.2;have e:=Hj z _ _ c2;rw[e] at q;exact ⟨.str z,H,I,⟨t,rfl⟩,q⟩
 ·rw[if_neg c];have e:=Mh z (l.map (·.1)) (u.map (·.1));show ((⟨((bS (l.map (·.1)) (u.map (·.1)) 1 z.length).filterMap (z.cps[·]?)).toArray⟩:Str).length≤sizeLine∧EP X pins σ Q (.str ⟨((bS (l.map (·.1)) (u.map (·.1)) 1 z.length).filterMap (z.cps[·]?)).toArray⟩ s.toks) { s with toks:=s.toks+1 })
  rw[e];exact ⟨ab6 (Us z _ _) hz,⟨.str _,H,I.tok _,⟨_,rfl⟩,q⟩⟩
noncomputable def su (z:Str) (n:Nat):Str:=⟨(aba n z.cps.toList).flatten.toArray⟩
theorem Bt (x:List Nat):∀(n:Nat) (acc:Array Nat),(aba n x.toArray).foldl (·++·) acc=acc++(aba n x).flatten.toArray
 | 0,acc=>by simp
 | n+1,acc=>by
  rw[acu,aas,Bt x n,acu,aef];apply Array.toList_inj.mp
  simp
theorem Tz (z:Str) (n:Int) (h:0≤n):Txt.mul z n=su z n.toNat:=by
 unfold Txt.mul su;by_cases h1:n < 1
 ·rw[if_pos h1];have e:n.toNat=0:=by omega
  rw[e];rfl
 ·rw[if_neg h1];by_cases h2:(n==1||z.length==0)=true
  ·rw[if_pos h2];rw[aci] at h2;rcases h2 with h2 | h2
   ·have e:n=1:=eq_of_beq h2;subst e;show z=⟨(aba 1 z.cps.toList).flatten.toArray⟩
    simp
   ·have e:z.length=0:=eq_of_beq h2;have e0:z.cps=#[]:=adi e;cases z with
    | mk c=>cases e0;simp
  ·rw[if_neg h2];have e:=Bt z.cps.toList n.toNat #[];have e3:z.cps.toList.toArray=z.cps:=by simp
   rw[e3] at e;rw[e];simp
theorem y8:OpR X (cL .Mult) (λx y H Q=>∃z n,x=.str z∧y=.int n∧0≤n∧n≤1000∧z.length≤1000∧Q (.str (su z n.toNat)) H):=by
 intro pins s σ H x y v u Q I rx ry h;obtain ⟨z,n,rfl,rfl,h0,h1,h2,q⟩:=h;obtain ⟨t,rfl⟩:=rx;obtain ⟨t',rfl⟩:=ry;have hb:z.length*n.toNat≤1000*1000:=Nat.mul_le_mul h2 (by omega);refine SB.mul ⟨by rw[Bool.or_eq_false_iff];exact ⟨decide_eq_false (by omega),decide_eq_false (by omega)⟩,λhn1 _=>?_,λ_ _=>?_⟩ λt' k=>⟨.str _,H,I.tok _,⟨_,rfl⟩,by rw[Tz z n h0];exact q⟩
 ·have hp:0 < n:=by omega
  have h3:(z.length:Int)*n≤1000*n:=Int.mul_le_mul_of_nonneg_right (by omega) h0;have h4:(z.length:Int)≤(2 ^ 63 - 1) / n:=Int.le_ediv_of_mul_le hp (by omega);omega
 ·unfold Builtin.Str.tooLong;exact decide_eq_false (by have:=aQ;omega)
theorem Ff:fo X (.builtin "isinstance") (λxs H Q=>∃x n t b,xs=[x,.ty n]∧uu X.K H x t∧PySem.W.kitOne X.K t (.type n)=aA b∧Q (.bl b) H):=by
 intro pins s σ H xs us Q I r h;obtain ⟨x,n,t,b,rfl,ty,e,q⟩:=h;obtain ⟨u,u2,rfl,r1,r2⟩:=vals2 r;cases (show u2=cX n from r2)
 exact Ld I r1 ty e λtk=>⟨.bl b,H,I.tok tk,rfl,q⟩
end
theorem ae {H:Hp} {p:Addr} (h:H p=none) (o:HO):ah H (upd H p o):=λb u q=>by rw[ak (ao q h)];exact q
theorem ah.upd {H H':Hp} {p:Addr} (e:ah H H') (h:H p=none) (o:HO):ah H (L2.upd H' p o):=λb u q=>by rw[ak (ao q h)];exact e b u q
theorem ah.tup {K:aF} {H H':Hp} {a:Addr} {xs:List V} (e:ah H H') (h:SqT K H a xs):SqT K H' a xs:=by
 rcases h with (h | ⟨o,h⟩) | h
 ·exact .inl (.inl (e _ _ h))
 ·exact .inl (.inr ⟨o,e _ _ h⟩)
 ·exact .inr h
def Has (P:aU) (w:bA) (K:aF) (mg:Str→Option Value) (base:Heap) (k:Nat) (x:Str) (ps:List Str) (sp:Sp):Prop:=
 ∃(f:Addr) (fd:cP),ox P w K mg base CX0 k f fd ps sp∧Binds K fd ps []∧aO K (.ref f)=true∧mg x=aA (.ref f)
theorem Has.up {P:aU} {w:bA} {K:aF} {mg:Str→Option Value} {base:Heap} {j k:Nat} {x:Str} {ps:List Str} {sp:Sp} (h:Has P w K mg base j x ps sp) (l:j≤k):Has P w K mg base k x ps sp:=by
 obtain ⟨f,fd,F,r⟩:=h;exact ⟨f,fd,F.mono l,r⟩
def Def (K:aF) (mg:Str→Option Value) (x:Str) (st:Stmt) (ps:List Str):Prop:=
 ∃(f:Addr) (fd:cP),Fun K x x st f fd∧Binds K fd ps []∧mg x=aA (.ref f)
theorem Def.has {P:aU} {w:bA} {K:aF} {mg:Str→Option Value} {base:Heap} {k:Nat} {x:Str} {st:Stmt} {N ps:List Str} {sp:Sp} (D:Def K mg x st ps) (S:av N ps (af st)) (len:∀vs H Q E,sp vs H Q E→vs.length=ps.length)
  (hbody:∀(f:Addr) (cdv:Value) (A:bE) (outer:List Env) (s:aE) (H:Hp) (vs:List V) (Q:VK) (E:XK),ie k (A.deeper (gE x (af st) s.heap.objs.size f cdv))→sp vs H Q E→
   ∃t,PSs (qr CX0 P w K mg base N x (af st) f cdv A outer s H E).nox (au st) t∧t { nx:=λ_ H'=>Q .non H',rt:=Q } (start N vs) H):Has P w K mg base (k+1) x ps sp:=by
 obtain ⟨f,fd,F,b,m⟩:=D;exact ⟨f,fd,F.ok S len λcdv A outer s H vs Q E hr h=>hbody f cdv A outer s H vs Q E hr h,b,F.kp,m⟩
section
variable {X:Cx} {k:Nat} {ps:List Str} {sp:Sp} {x:Str} {p pos:Pos} {e:Expr} {es:List Expr} {t:TA}
theorem pe_has (h:Has X.prog X.w X.K X.mg X.base k x ps sp) (hr:ie k X.A) (ha:PA X (e::es) t) (hg:Gl X x:=by rfl) (hdb:(x==("__debug__":Str))=false:=by decide+kernel)
  (he:aZ (e::es) X.env=(false,eval e X.env)::aZ es X.env:=by rfl) (hpl:(cF pos (aZ es X.env)).any (·.1)=false:=by rfl):
  PE X `az (E9 sp [] E0 t):=by
 obtain ⟨f,fd,F,b,kp,m⟩:=h;exact Dr F hr hg m kp b .nil pass0 ha hdb he hpl
end
theorem Hc {J:It} {fr:St} {tc:TT} {te:TE} {D:Addr} {H1:Hp} {Q:Hp→Prop} (n:Nat) (item:Nat→V) (P:Nat→List V→Prop) (hn:n < sizeLine) (hD:H1 D=none)
  (hgo:∀i H,i < n→ah H1 H→J.go i H) (hyld:∀i H x H',i < n→ah H1 H→J.yld i H x H'→H'=H∧x=item i) (hstop:∀H,ah H1 H→J.stop n H)
  (h0:P 0 [])
  (step:∀i ys H (G:Hp→Prop) (K':V→Hp→Prop),i < n→P i ys→ys.length≤i→ah H1 H→(∀H3,ah H H3→P (i+1) ys→G H3)→(∀y H4,ah H H4→P (i+1) (ys++[y])→K' y H4)→tc ([aA (item i)]++fr) H λb H3=>if b=true then te ([aA (item i)]++fr) H3 K' else G H3)
  (done:∀ys H,P n ys→ys.length≤n→ah H1 H→H D=aA (.lst ys)→Q H):LC 1 fr (i5 0) tc te J D H1 Q:=by
 refine ⟨λi m H=>m=n - i∧i≤n∧∃ys,H D=aA (.lst ys)∧P i ys∧ys.length≤i∧ah H1 H,⟨n,by simp,aag _,[],aa,h0,aa3 _,ae hD _⟩,?_⟩;rintro i m H ⟨rfl,hi,ys,hys,hP,hl,hS⟩;by_cases hlt:i < n
 ·refine .inr ⟨hgo i H hlt hS,λτ x H' hτ hy=>?_⟩;obtain ⟨e1,e2⟩:=hyld i H x H' hlt hS hy;subst e1 e2;obtain ⟨a,rfl⟩:∃a,τ=[a]:=List.length_eq_one_iff.mp hτ;refine ⟨⟨[aA (item i)],rfl,rfl⟩,step i ys H' (λH3=>∃m',m' < n - i∧m'=n - (i+1)∧i+1≤n∧∃ys,H3 D=aA (.lst ys)∧P (i+1) ys∧ys.length≤i+1∧ah H1 H3)
   (λy H4=>∃zs,H4 D=aA (.lst zs)∧zs.length < sizeLine∧∃m',m' < n - i∧m'=n - (i+1)∧i+1≤n∧∃ys,upd H4 D (.lst (zs++[y])) D=aA (.lst ys)∧P (i+1) ys∧ys.length≤i+1∧ah H1 (upd H4 D (.lst (zs++[y])))) hlt hP hl hS (λH3 q1 q2=>?_) (λy H4 q1 q2=>?_)⟩
  ·exact ⟨n - (i+1),by omega,rfl,hlt,ys,q1 _ _ hys,q2,adu hl,hS.trans q1⟩
  ·refine ⟨ys,q1 _ _ hys,by omega,n - (i+1),by omega,rfl,hlt,ys++[y],aa,q2,?_,(hS.trans q1).upd hD _⟩;rw[aa2,aa5];omega
 ·have e:i=n:=by omega
  subst e;exact .inl ⟨hstop H hS,done ys H hP hl hS hys⟩
theorem xj {K:aF} {a:Addr} {xs:List V} {fr:St} {tc:TT} {te:TE} {D:Addr} {H1:Hp} {Q:Hp→Prop} (P:Nat→List V→Prop) (hS:SqL K H1 a xs) (hn:xs.length < sizeLine) (hD:H1 D=none) (h0:P 0 [])
  (step:∀i x ys H (G:Hp→Prop) (K':V→Hp→Prop),xs[i]?=aA x→P i ys→ys.length≤i→ah H1 H→(∀H3,ah H H3→P (i+1) ys→G H3)→(∀y H4,ah H H4→P (i+1) (ys++[y])→K' y H4)→tc ([aA x]++fr) H λb H3=>if b=true then te ([aA x]++fr) H3 K' else G H3)
  (done:∀ys H,P xs.length ys→ys.length≤xs.length→ah H1 H→H D=aA (.lst ys)→Q H):LC 1 fr (i5 0) tc te (Itl K a) D H1 Q:=by
 have at':∀i,i < xs.length→xs[i]?=aA (xs.getD i .non):=λi hi=>by
  rw[aaj,aa1 hi];rfl
 exact Hc xs.length (λi=>xs.getD i .non) P hn hD (λi H hi hs=>⟨xs,_,hs.seq hS,at' i hi⟩)
  (λi H x H' hi hs hy=>⟨hy.1,aa7 ((hy.2 xs (hs.seq hS)).symm.trans (at' i hi))⟩) (λH hs=>⟨xs,hs.seq hS,aa3 _⟩) h0
  (λi ys H G K' hi hp hl hs hG hK=>step i _ ys H G K' (at' i hi) hp hl hs hG hK) done
theorem km {K:aF} {a:Addr} {xs:List V} {fr:St} {tc:TT} {te:TE} {D:Addr} {H1:Hp} {Q:Hp→Prop} (P:Nat→List V→Prop) (hS:SqT K H1 a xs) (hn:xs.length < sizeLine) (hD:H1 D=none) (h0:P 0 [])
  (step:∀i x ys H (G:Hp→Prop) (K':V→Hp→Prop),xs[i]?=aA x→P i ys→ys.length≤i→ah H1 H→(∀H3,ah H H3→P (i+1) ys→G H3)→(∀y H4,ah H H4→P (i+1) (ys++[y])→K' y H4)→tc ([aA x]++fr) H λb H3=>if b=true then te ([aA x]++fr) H3 K' else G H3)
  (done:∀ys H,P xs.length ys→ys.length≤xs.length→ah H1 H→H D=aA (.lst ys)→Q H):LC 1 fr (i5 0) tc te (Itt K a) D H1 Q:=by
 have at':∀i,i < xs.length→xs[i]?=aA (xs.getD i .non):=λi hi=>by
  rw[aaj,aa1 hi];rfl
 exact Hc xs.length (λi=>xs.getD i .non) P hn hD (λi H hi hs=>⟨xs,_,hs.tup hS,at' i hi⟩)
  (λi H x H' hi hs hy=>⟨hy.1,aa7 ((hy.2 xs (hs.tup hS)).symm.trans (at' i hi))⟩) (λH hs=>⟨xs,hs.tup hS,aa3 _⟩) h0
  (λi ys H G K' hi hp hl hs hG hK=>step i _ ys H G K' (at' i hi) hp hl hs hG hK) done
theorem Gr {lo:Int} {n:Nat} {fr:St} {tc:TT} {te:TE} {D:Addr} {H1:Hp} {Q:Hp→Prop} (P:Nat→List V→Prop) (hn:n < sizeLine) (hD:H1 D=none) (h0:P 0 [])
  (step:∀(i:Nat) ys H (G:Hp→Prop) (K':V→Hp→Prop),i < n→P i ys→ys.length≤i→ah H1 H→(∀H3,ah H H3→P (i+1) ys→G H3)→(∀y H4,ah H H4→P (i+1) (ys++[y])→K' y H4)→tc ([aA (.int (lo+i))]++fr) H λb H3=>if b=true then te ([aA (.int (lo+i))]++fr) H3 K' else G H3)
  (done:∀ys H,P n ys→ys.length≤n→ah H1 H→H D=aA (.lst ys)→Q H):LC 1 fr (i5 0) tc te (Itr lo n) D H1 Q:=
 Hc n (λi=>.int (lo+i)) P hn hD (λi H hi _=>hi) (λi H x H' hi hs hy=>hy) (λH hs=>aa3 _) h0 step done
section
variable {X:Cx} {x:Str} {pos:Pos}
theorem Ke {a:Addr} (hm:X.mg x=aA `r) (hg:Gl X x:=by rfl) (hd:(x==("__debug__":Str))=false:=by decide+kernel):PE X (.Name x pos) (tC `r):=Tp hg hm rfl hd
theorem pe_gty {T:String} (hm:X.mg x=none) (hv:bM x=aA (.type T)) (hg:Gl X x:=by rfl) (hn:x≠"__name__":=by decide+kernel) (hd:(x==("__debug__":Str))=false:=by decide+kernel):PE X (.Name x pos) (tC (.ty T)):=Uu hg hm hv rfl hn hd
end
theorem cm:bM "len"=aA (.builtin "len"):=by decide+kernel
theorem b_all:bM "all"=aA (.builtin "all"):=by decide+kernel
theorem bu:bM "isinstance"=aA (.builtin "isinstance"):=by decide+kernel
theorem Mr:bM "bool"=aA (.type "bool"):=by decide+kernel
theorem xm:bM "int"=aA (.type "int"):=by decide+kernel
theorem An:bM "str"=aA (.type "str"):=by decide+kernel
theorem Dv:bM "list"=aA (.type "list"):=by decide+kernel
theorem dq:bM "tuple"=aA (.type "tuple"):=by decide+kernel
theorem b_dict:bM "dict"=aA (.type "dict"):=by decide+kernel
theorem cxOf_K {CX:CXT} {P:aU} {w:bA} {K:aF} {mg:Str→Option Value} {base:Heap} {N:List Str} {qual:Str} {scope:Scope} {f:Addr} {cd:Value} {A:bE} {outer:List Env} {s:aE} {H:Hp} {E:XK}:(qr CX P w K mg base N qual scope f cd A outer s H E).K=K:=rfl
theorem nox_K {X:Cx}:X.nox.K=X.K:=rfl
inductive Cg:List Expr→List V→Prop where
 | nil:Cg [] []
 | str {x:Str} {j:Nat} {pos:Pos} {es:List Expr} {vs:List V} (h:Cg es vs):Cg (.Constant (.str x) j pos::es) (.str x::vs)
 | int {i:Int} {j:Nat} {pos:Pos} {es:List Expr} {vs:List V} (h:Cg es vs):Cg (.Constant (.int i) j pos::es) (.int i::vs)
def tVals (vs:List V):TA:=λ_ H Q=>Q vs H
theorem Np {X:Cx} {es:List Expr} {vs:List V} (h:Cg es vs):PA X es (tVals vs):=by
 induction h with
 | nil=>exact Nm
 | str _ ih=>exact Ce Ox ih
 | int _ ih=>exact Ce N1 ih
def zv (g:TG) (tb:TS) (D:Ends) (J:It) (σ:St) (H1:Hp):Prop:=∃W:Nat→Nat→St→Hp→Prop,(∃m,W 0 m σ H1)∧∀i m σ H,W i m σ H→
 (J.stop i H∧D.nx σ H)∨(J.go i H∧∃N:St→Hp→Prop,(∀σ' H',N σ' H'→∃m',m' < m∧W (i+1) m' σ' H')∧∀x H',J.yld i H x H'→g x σ H' λσ2 H2=>tb { D with nx:=N,ct:=N,bk:=D.nx } σ2 H2)
theorem U2 (wi:TI) (g:TG) (tb:TS) (D:Ends) (σ:St) (H:Hp):tFor wi g tb D σ H=wi σ H λJ H1=>zv g tb D J σ H1:=rfl
section
variable {K:aF} {a:Addr} {xs:List V} {g:TG} {tb:TS} {D:Ends} {σ:St} {H:Hp}
theorem j4 (Pv:Nat→St→Hp→Prop) (h0:Pv 0 σ H) (hl:∀i σ H,i≤xs.length→Pv i σ H→SqL K H a xs)
  (hs:∀i x σ H,xs[i]?=aA x→Pv i σ H→g x σ H λσ2 H2=>tb { D with nx:=Pv (i+1),ct:=Pv (i+1),bk:=D.nx } σ2 H2) (hd:∀σ H,Pv xs.length σ H→D.nx σ H):zv g tb D (Itl K a) σ H:=Q7 Pv h0 hl hs hd
theorem gg (Pv:Nat→St→Hp→Prop) (h0:Pv 0 σ H) (hl:∀i σ H,i≤xs.length→Pv i σ H→SqT K H a xs)
  (hs:∀i x σ H,xs[i]?=aA x→Pv i σ H→g x σ H λσ2 H2=>tb { D with nx:=Pv (i+1),ct:=Pv (i+1),bk:=D.nx } σ2 H2) (hd:∀σ H,Pv xs.length σ H→D.nx σ H):zv g tb D (Itt K a) σ H:=Se Pv h0 hl hs hd
theorem pf {lo:Int} {n:Nat} (Pv:Nat→St→Hp→Prop) (h0:Pv 0 σ H)
  (hs:∀i σ H,i < n→Pv i σ H→g (.int (lo+i)) σ H λσ2 H2=>tb { D with nx:=Pv (i+1),ct:=Pv (i+1),bk:=D.nx } σ2 H2) (hd:∀σ H,Pv n σ H→D.nx σ H):zv g tb D (Itr lo n) σ H:=Ku Pv h0 hs hd
end
end L2
namespace L2
open PySem PySem.Spec PyProof.Rows Builtin Builtin.Str
def ModD (w:bA) (K:aF) (a:Addr) (kvs:List (Key×V)):Prop:=
 (a==cQ)=false∧∀(P:aU) (h:Heap),K.In h→∃vs,KV kvs vs∧h.DictOf (b9 P w) a vs
abbrev Kn:=Int×Str×Tok×Int×Tok
noncomputable def siE (e:Kn):DictEntry:=⟨e.1,.str e.2.1 e.2.2.1,.int e.2.2.2.1 e.2.2.2.2⟩
theorem Er (P:aU) (w:bA):∀es:List Kn,Pairs (b9 P w) (es.map siE) (es.map λe=>((aP e.2.1:Key),iK e.2.2.2.1 e.2.2.2.2))
 | []=>.nil
 | e::r=>.cons (mf P w e.2.1 e.2.2.1) rfl (Er P w r)
theorem si_kv:∀es:List Kn,KV (es.map λe=>((aP e.2.1:Key),V.int e.2.2.2.1)) (es.map λe=>((aP e.2.1:Key),iK e.2.2.2.1 e.2.2.2.2))
 | []=>.nil
 | e::r=>.cons ⟨rfl,⟨_,rfl⟩⟩ (si_kv r)
theorem Ti {w:bA} {K:aF} {a:Addr} {ep:Nat} (es:List Kn) (hl:K.lookup a=aA ⟨.type "dict",none,.dict (es.map siE).toArray ep,#[]⟩) (ha:(a==cQ)=false)
  (hh:∀e∈es,e.1=kT w e.2.1) (nd:(es.map λe=>(aP e.2.1:Key)).Nodup):ModD w K a (es.map λe=>(aP e.2.1,V.int e.2.2.2.1)):=by
 refine ⟨ha,λP h hk=>⟨_,si_kv es,_,_,ep,hk a _ hl,⟨rfl,rfl,rfl⟩,rfl,λe he=>?_,by simpa using Er P w es,?_⟩⟩
 ·have he':e∈es.map siE:=List.mem_toArray.mp he;obtain ⟨r,hr,rfl⟩:=List.mem_map.mp he';exact ⟨aP r.2.1,mf P w r.2.1 r.2.2.1,hh r hr⟩
 ·rw[abd];exact nd
section
variable {X:Cx} {a:Addr} {kvs:List (Key×V)}
def O1 (kvs:List (Key×V)) (ty tx:TE):TE:=λσ H Q=>ty σ H λy H2=>tx σ H2 λz H3=>∃k,y=kV k∧Q ((dk kvs k).getD z) H3
theorem Mu {o e f:Expr} {apos cpos:Pos} {ty tx:TE} (ho:PE X o (tC `r)) (md:ModD X.w X.K a kvs) (he:PE X e ty) (hf:PE X f tx) (m:M2 X o "get" apos e f cpos):PE X (.Call (.Attribute o "get" apos) [e,f] [] cpos) (O1 kvs ty tx):=by
 intro pins s σ H Q I h;refine wpAny_Call_method m.base m.few m.line jK dR lJ (thn (ho pins s σ H (λx H1=>x=.ref a∧H1=H) I ⟨rfl,rfl⟩) λu s1 ⟨x,H1,I1,rx,ex,eH⟩=>?_);subst ex eH;obtain rfl:u=aY a:=rx;obtain ⟨vs,rel,dd⟩:=md.2 X.prog _ I1.kIn;refine ⟨dd.typeIs,λb q=>?_,?_⟩
 ·cases q
  obtain ⟨ob,_,_,h1,h2,_⟩:=dd;exact ⟨ob,h1,h2.2.1⟩
 rw[m.trees];refine gY rfl (lX (dO (thn (he pins s1 σ H1 _ I1 h) λiv s2 ⟨y,H2,I2,ry,q2⟩=>
  dO (thn (hf pins s2 σ H2 _ I2 q2) λfv s3 ⟨z,H3,I3,rz,k,ek,q3⟩=>fB ?_))))
 subst ek;obtain ⟨vs',rel',dd'⟩:=md.2 X.prog _ I3.kIn;refine nE dR dd'.typeIs gZ (gQ _ _ _) (kQ (b9 X.prog X.w) a (ug ry) md.1 fv) ⟨_,dd'.mapOf,⟨_,H3,I3.tok _,?_,q3⟩⟩;exact (rel'.val k).getD rz
noncomputable def Az:V→Str
 | .str z=>z
 | .int i=>(toString i:String)
 | _=>gD
def wordV:V→Prop
 | .str _=>True
 | .int i=>i.natAbs.log2 < 1920
 | _=>False
theorem iq:fo X (.type "str") (λxs H Q=>∃x,xs=[x]∧wordV x∧Q (.str (Az x)) H):=by
 intro pins s σ H xs us Q I r h;obtain ⟨x,rfl,hw,q⟩:=h;obtain ⟨u,rfl,rx⟩:=vals1 r;cases x with
 | str z=>obtain ⟨t,rfl⟩:=rx;exact PySem.P.str_of_str ⟨.str z,H,I,⟨t,rfl⟩,q⟩
 | int i=>obtain ⟨t,rfl⟩:=rx;exact PySem.P.str_of_int hw ⟨.str _,H,I.tok _,⟨_,rfl⟩,q⟩
 | _=>exact hw.elim
theorem Cv:fo X (.type "int") (λxs H Q=>∃z n,xs=[.str z]∧PySem.intText? z=aA n∧z.length≤640∧Q (.int n) H):=by
 intro pins s σ H xs us Q I r h;obtain ⟨z,n,rfl,hn,hl,q⟩:=h;obtain ⟨u,rfl,rx⟩:=vals1 r;obtain ⟨t,rfl⟩:=rx;exact PySem.W.KIN.call_text hn hl ⟨.int n,H,I.tok _,⟨_,rfl⟩,q⟩
end
end L2
namespace L2
open PySem PySem.Spec PyProof.Rows
section
variable {X:Cx} (K:aF) (hK:X.K=K)
include hK
theorem Fb:IxR X (rIxL K):=by subst hK;exact Kj
theorem xc:IxR X (rIxT K):=by subst hK;exact M9
theorem Af:fo X (.builtin "len") (λxs H Q=>∃p ys,xs=[.ref p]∧(SqL K H p ys∨SqT K H p ys)∧Q (.int ys.length) H):=by subst hK;exact sm
theorem zd:fo X (.type "tuple") (λxs H Q=>∃p ys,xs=[.ref p]∧((SqL K H p ys∧∀l,H l=none→Q `D (upd H l (.tup ys)))∨(SqT K H p ys∧Q `a4 H))):=by subst hK;exact oz
theorem qh:OpR X (cI .In) (rIn K false):=by subst hK;exact jn
theorem Qb {tg l:Expr} {tl:TE} (hl:PE X l tl):PI X tg l (Qr K tl):=by subst hK;exact Kk hl
theorem J2 {tg l:Expr} {tl:TE} (hl:PE X l tl):PI X tg l (iTup K tl):=by subst hK;exact Pp hl
theorem pe_bmK {o e:Expr} {es:List Expr} {to:TE} {t:TA} {name:Str} {apos cpos:Pos} {T id:String} {r:V→List V→Hp→VK→Prop} (pa:oC T) (slot:Slot T name id) (hty:typeOf (.builtin id)=pure (.type "method_descriptor")) (hm:MtR X id r) (ho:PE X o to) (ha:PA X (e::es) t)
  (hbase:iV o name X.env (eval o X.env)=eval o X.env:=by rfl)
  (hfew:((cF cpos (aZ (e::es) X.env)).all (λx=>!x.1)&&(hX cpos (eX [] X.env)).all (λx=>x.1.isSome)
   &&decide ((e::es).length+([]:List jC).length+(if ([]:List jC).isEmpty then 0 else 1) < 30))=true:=by rfl)
  (hline:(apos.endLine==cpos.line)=true:=by rfl) (hs:aZ (e::es) X.env=(false,eval e X.env)::aZ es X.env:=by rfl) (hplain:(cF cpos (aZ es X.env)).any (·.1)=false:=by rfl):
  PE X (.Call (.Attribute o name apos) (e::es) [] cpos) (tBM K T r to t):=by
 subst hK;exact pe_bm pa slot hty hm ho ha hbase hfew hline hs hplain
end
def tMid (t u:TS):TS:=λD σ H=>∃M:St→Hp→Prop,t { D with nx:=M } σ H∧∀σ' H',M σ' H'→u D σ' H'
theorem g6 {t u:TS} {D:Ends} {σ:St} {H:Hp} (M:St→Hp→Prop) (h1:t { D with nx:=M } σ H) (h2:∀σ' H',M σ' H'→u D σ' H'):tMid t u D σ H:=⟨M,h1,h2⟩
section
variable {X:Cx} {st:Stmt} {rest:List Stmt} {t u:TS}
theorem Vd (h1:PS X st t) (h2:PSs X rest u):PSs X (st::rest) (tMid t u):=by
 intro pins s σ H D I h;obtain ⟨M,h,hM⟩:=h;refine jF (thn (h1 pins s σ H { D with nx:=M } I h) λf s1 q=>?_);cases f with
 | next=>
  obtain ⟨σ',H',I',q⟩:=q;exact h2 pins s1 σ' H' D I' (hM σ' H' q)
 | ret v=>exact q
 | brk=>exact q
 | cont=>exact q
end
theorem Uw {K:aF} {z:Str} {H:Hp}:tyV K "str" (.str z) H=True:=eq_true rfl
theorem bf {K:aF} {a:Addr} {xs:List V} {H:Hp} (h:H a=aA `U):tyV K "list" (.ref a) H:=.inl ⟨rfl,xs,SqL.of h⟩
theorem Oh {K:aF} {a:Addr} {kvs:List (Key×V)} {H:Hp} (h:H a=aA (.dK kvs)):tyV K "dict" (.ref a) H:=.inr (.inr (.inl ⟨rfl,.inl ⟨kvs,h⟩⟩))
theorem ag {K:aF} {H:Hp} {t:Addr} {xs:List V} {i:Int} {v:V} {Q:VK} (h:H t=aA `aU) (hv:atI xs i=aA v) (q:Q v H):rIxT K `N (.int i) H Q:=⟨t,xs,i,v,rfl,rfl,SqT.of h,hv,q⟩
theorem az {K:aF} {H:Hp} {t:Addr} {xs:List V} {i:Int} {v:V} {Q:VK} (h:H t=aA `U) (hv:atI xs i=aA v) (q:Q v H):rIxL K `N (.int i) H Q:=⟨t,xs,i,v,rfl,rfl,SqL.of h,hv,q⟩
theorem Co {H:Hp} {a b:Addr} {xs ys:List V} {Q:VK} (h1:H a=aA `U) (h2:H b=aA (.lst ys)) (hz:xs.length+ys.length≤sizeLine) (q:∀p,H p=none→Q `a4 (upd H p (.lst (xs++ys)))):rCat `r `Z H Q:=⟨a,b,xs,ys,rfl,rfl,h1,h2,hz,q⟩
theorem b8 {K:aF} {H:Hp} {l:Addr} {xs:List V} {y:V} {Q:VK} (h:H l=aA `U) (hz:xs.length < sizeLine) (q:Q .non (upd H l (.lst (xs++[y])))):tyV K "list" (.ref l) H∧nu `D [y] H Q:=
 ⟨bf h,l,xs,y,rfl,rfl,h,hz,q⟩
end L2
namespace HT
open PySem PySem.Spec PyProof.Rows L2
section
variable {prog:aU} {w:bA} {A:bE} {E:Value→aE→Prop} {s:aE}
theorem Og {t b:Addr} {vs ws:List Value} {Q:Value→aE→Prop} (ht:lS s.heap t vs.toArray) (hb:lS s.heap b ws.toArray) (hv:vs=[]) (h1:Q `Z s):aH `e A (cL .Add `N `Z) Q E s:=by
 obtain ⟨⟨cls,dd,data,sl⟩,ho,hc,n,hd⟩:=id ht;obtain ⟨⟨cls2,dd2,data2,sl2⟩,ho2,hc2,n2,hd2⟩:=id hb;simp only at hc hd hc2 hd2;subst hc hd hc2 hd2;exact mZ ⟨_,ho,rfl⟩ ⟨_,ho2,rfl⟩ jG mH gW gP (gF _ _)
  (tuple_addW0 t b vs.toArray ws.toArray n n2 dd dd2 sl sl2 (by simp[hv])) ⟨ho,ho2,h1⟩
theorem ow {t sl:Addr} {items:Array Value} {vl vu:Value} {lo hi:Option Int} {Q:Value→aE→Prop} (ht:lS s.heap t items) (hs:s.heap.IsSliceOf sl vl vu .none) (pl:gX vl lo) (pu:gX vu hi)
  (hw:sIx items.size 0 lo=0∧sIx items.size items.size hi=items.size) (h:Q `N s) (hsz:items.size≤sizeLine):aH `e A (gM `N (.ref sl)) Q E s:=by
 obtain ⟨os,hos,hcs,hds⟩:=id hs;have hTs:s.TypeIs (.ref sl) "slice":=⟨os,hos,hcs⟩;unfold gM;try with_reducible refine bK ?_
 first | refine aC (aG ?_) | skip
 refine aC (nO ht.typeIs `a ?_);refine aC (bI (name:=aB "__getitem__") ht.typeIs dG
  (bL dG ht.typeIs mL ?_ (nA _ _)))
 show aH _ _ (iU `N >>=_) _ _ s
 refine aC (tupleItemsOf_ ht ?_);refine aC (fF hTs ?_);rw[if_pos `a];refine aC (jw hs pl pu ?_);have hyes:((((sIx items.size 0 lo:Nat):Int)==0&&(1:Int)==1&&(sIx items.size items.size hi - sIx items.size 0 lo)==items.size)=true):=by
  rw[hw.1,hw.2];simp
 show aH _ _ (if (((sIx items.size 0 lo:Nat):Int)==0&&(1:Int)==1&&(sIx items.size items.size hi - sIx items.size 0 lo)==items.size)=true then _ else _) _ _ s
 rw[if_pos hyes];refine aC ?_;show aH _ _ (typeOf `N >>=λv=>pure (v==.type "tuple")) _ _ s
 refine aC (fF ht.typeIs (aG ?_));rw[if_pos `a];refine aC (eU ?_);first
  | exact aC (aG (aG ⟨_,rfl,aG h⟩))
  | exact aG ⟨_,rfl,aG h⟩
  | exact aC (aG ⟨_,rfl,aG h⟩)
end
end HT
namespace L2
open PySem PySem.Spec PyProof.Rows
section
variable {X:Cx}
def Kb:R2:=λx y H Q=>∃a b xs ys,x=.ref a∧y=.ref b∧H a=aA `aU∧H b=aA (.tup ys)∧xs.length+ys.length≤sizeLine∧∀p H',ah H H'→H' p=aA (.tup (xs++ys))→Q `a4 H'
theorem Ss:OpR X (cL .Add) Kb:=by
 intro pins s σ H x y v u Q I rx ry h;obtain ⟨a,b,xs,ys,rfl,rfl,ha,hb,hz,q⟩:=h;by_cases hx:xs=[]
 ·subst hx;cases rx
  cases ry
  obtain ⟨its,r1,p1,_⟩:=I.tuple (SqT.of ha);obtain ⟨its2,r2,p2,_⟩:=I.tuple (SqT.of hb);exact HT.Og p1 p2 (r1.we.mpr rfl) ⟨.ref b,H,I,rfl,q b H (ah.refl H) hb⟩
 ·refine Te pins s σ H _ _ v u Q I rx ry ⟨a,b,xs,ys,rfl,rfl,SqT.of ha,SqT.of hb,hx,hz,λe=>?_,λ_ p hp=>q p _ (λc o h=>by rw[ak (ao h hp)];exact h) aa⟩;subst e;exact q a H (ah.refl H) (by rw[ab1];exact ha)
theorem g7 {H:Hp} {a b:Addr} {xs ys:List V} {Q:VK} (ha:H a=aA `aU) (hb:H b=aA (.tup ys)) (hz:xs.length+ys.length≤sizeLine) (q:∀p H',ah H H'→H' p=aA (.tup (xs++ys))→Q `a4 H'):Kb `r `Z H Q:=⟨a,b,xs,ys,rfl,rfl,ha,hb,hz,q⟩
def rSlU:V→Option Int→Option Int→Hp→VK→Prop:=λx lo hi H Q=>∃a xs,x=.ref a∧H a=aA `aU∧∀p H',ah H H'→H' p=aA (.tup (ir xs lo hi))→Q `a4 H'
theorem Oi {xs:List V} {lo hi:Option Int} (h:HT.sIx xs.length 0 lo=0∧HT.sIx xs.length xs.length hi=xs.length):ir xs lo hi=xs:=by
 unfold ir;rw[h.1,h.2,acq,aeb,ac4]
theorem j6:SlR X rSlU:=by
 intro pins s σ H x v vl vu lo hi sl Q I rx hs pl pu h;obtain ⟨a,xs,rfl,ha,q⟩:=h;by_cases hw:HT.sIx xs.length 0 lo=0∧HT.sIx xs.length xs.length hi=xs.length
 ·cases rx
  obtain ⟨its,r,ht,hz⟩:=I.tuple (SqT.of ha);have hlen:its.toArray.size=xs.length:=by rw[aa9];exact r.length.symm
  exact ⟨"tuple",_,PyProof.Rows.slot_tuple_getitem.lookup,ht.typeIs,HT.ow ht hs pl pu (by rw[hlen];exact hw) ⟨.ref a,H,I,rfl,q a H (ah.refl H) (by rw[Oi hw];exact ha)⟩ (by rw[hlen];exact hz)⟩
 ·exact sl_tup pins s σ H _ v vl vu lo hi sl Q I rx hs pl pu ⟨a,xs,rfl,SqT.of ha,hw,λp hp=>q p _ (λc o h=>by rw[ak (ao h hp)];exact h) aa⟩
theorem ko {H:Hp} {a:Addr} {xs:List V} {lo hi:Option Int} {Q:VK} (ha:H a=aA `aU) (q:∀p H',ah H H'→H' p=aA (.tup (ir xs lo hi))→Q `a4 H'):rSlU `r lo hi H Q:=⟨a,xs,rfl,ha,q⟩
theorem Cu (k:Key):jr (kV k)=true:=by cases k <;> rfl
theorem eqV_kV (a b:Key):eqV (kV a) (kV b)=decide (a=b):=by
 cases a <;> cases b <;> simp[eqV,kV] <;> exact Bool.beq_eq_decide_eq _ _
theorem Ec {as bs:List Key} (hl:as.length=bs.length):((abl as.length).all λj=>decide (as[j]?=bs[j]?))=decide (as=bs):=by
 rw[acx,aej,decide_eq_true_eq];constructor
 ·intro h;apply aeg
  intro j;by_cases hj:j < as.length
  ·exact of_decide_eq_true (h j (List.mem_range.mpr hj))
  ·rw[List.getElem?_eq_none_iff.mpr (by omega),List.getElem?_eq_none_iff.mpr (by omega)]
 ·intro h j _;rw[h];exact decide_eq_true rfl
theorem Bb {A:bE} {s:aE} {as bs:List Key} {us ws:List Value} (r1:Vals (as.map kV) us) (r2:Vals (bs.map kV) ws) (j:Nat) (h1:j < us.toArray.size) (h2:j < ws.toArray.size):
  oB A s us.toArray[j] ws.toArray[j] (decide (as[j]?=bs[j]?)):=by
 have l1:=r1.length;have l2:=r2.length;rw[aa0] at l1 l2;have j1:j < as.length:=by rw[l1];simpa using h1
 have j2:j < bs.length:=by rw[l2];simpa using h2
 obtain ⟨u,hu,ru⟩:=r1.get (i:=j) (x:=kV as[j]) (by rw[aa4,aa1 j1];rfl);obtain ⟨w,hw,rw'⟩:=r2.get (i:=j) (x:=kV bs[j]) (by rw[aa4,aa1 j2];rfl);have e1:us.toArray[j]=u:=by
  have:us[j]'(by simpa using h1)=u:=by rw[aa1 (by simpa using h1)] at hu;exact aa7 hu
  simpa using this
 have e2:ws.toArray[j]=w:=by
  have:ws[j]'(by simpa using h2)=w:=by rw[aa1 (by simpa using h2)] at hw;exact aa7 hw
  simpa using this
 rw[e1,e2,aa1 j1,aa1 j2];have e3:decide (aA as[j]=aA bs[j])=eqV (kV as[j]) (kV bs[j]):=by
  rw[eqV_kV];apply decide_eq_decide.mpr
  exact ⟨λh=>aa7 h,λh=>by rw[h]⟩
 rw[e3];exact M6 ru rw' (Cu _) (Cu _)
def rEqK (K:aF) (neg:Bool):R2:=λx y H Q=>∃a b as bs,x=.ref a∧y=.ref b∧((SqT K H a (acz kV as)∧SqT K H b (acz kV bs))∨(SqL K H a (acz kV as)∧SqL K H b (acz kV bs)))∧Q (.bl (if neg then !decide (as=bs) else decide (as=bs))) H
theorem op_neK (hu:X.A.units < cLine):OpR X (cI .NotEq) (rEqK X.K true):=by
 intro pins s σ H x y v u Q I rx ry h;obtain ⟨a,b,as,bs,rfl,rfl,hd,q⟩:=h;cases rx
 cases ry
 rcases hd with ⟨ha,hb⟩ | ⟨ha,hb⟩
 ·obtain ⟨its,r1,p1,_⟩:=I.tuple ha;obtain ⟨its2,r2,p2,_⟩:=I.tuple hb;have l1:=r1.length;have l2:=r2.length;rw[aa0] at l1 l2;refine SeqAt.RcNeAt.tuples (show s.heap.IsTuple a its.toArray from p1) (show s.heap.IsTuple b its2.toArray from p2) hu (λj h1 h2=>Bb r1 r2 j h1 h2) _ _ _ _ ?_;refine bp I q ?_;show (!decide (as=bs))=_
  rw[aa9,aa9,←l1,←l2];by_cases hl:as.length=bs.length
  ·rw[←hl,aec,Ec hl];simp
  ·have:¬as=bs:=λe=>hl (by rw[e]);simp[this,hl]
 ·obtain ⟨its,r1,p1,_⟩:=I.list ha;obtain ⟨its2,r2,p2,_⟩:=I.list hb;have l1:=r1.length;have l2:=r2.length;rw[aa0] at l1 l2;by_cases hl:as.length=bs.length
  ·refine SeqAt.RcNeAt.lists p1.isList p2.isList (by rw[aa9,aa9,←l1,←l2,hl]) hu (λj h1 h2=>Bb r1 r2 j h1 h2) _ _ _ _ ?_;refine bp I q ?_;show (!decide (as=bs))=_
   rw[aa9,←l1,Ec hl]
  ·refine SeqAt.RcNeAt.lists_lengths p1.isList p2.isList (by rw[aa9,aa9,←l1,←l2];simpa using hl) hu _ _ _ _ ?_;refine bp I q ?_;show (!decide (as=bs))=_
   rw[decide_eq_false λe=>hl (by rw[e])];rfl
end
section
variable {X:Cx} {k:Nat} {ps:List Str} {sp:Sp} {x:Str} {p pos:Pos} {e:Expr} {es:List Expr} {t:TA}
def FnV (P:aU) (w:bA) (K:aF) (mg:Str→Option Value) (base:Heap) (k:Nat) (ps:List Str) (sp:Sp) (v:V):Prop:=
 ∃(f:Addr) (fd:cP),v=.ref f∧ox P w K mg base CX0 k f fd ps sp∧Binds K fd ps []∧aO K (.ref f)=true
def tCallV (P:aU) (w:bA) (K:aF) (mg:Str→Option Value) (base:Heap) (k:Nat) (ps:List Str) (i:Nat) (t:TA):TE:=λσ H Q=>∃v sp,σ[i]?=aA (aA v)∧FnV P w K mg base k ps sp v∧t σ H λvs H1=>sp vs H1 Q E0
end
noncomputable def Itv (K:aF) (a:Addr) (n:Nat):It:=
 ⟨λi H=>i < n∧∃xs,SqL K H a xs∧xs.length=n,λi H x H'=>H'=H∧∀xs,SqL K H a xs→xs[n - 1 - i]?=aA x,λi H=>i=n⟩
def iRev (K:aF) (ta:TA):TI:=λσ H R=>ta σ H λvs H1=>∃a xs,vs=[.ref a]∧SqL K H1 a xs∧R (Itv K a xs.length) H1
theorem Hv:bM "reversed"=aA (.type "reversed"):=by decide+kernel
section
variable {CX:CXT} {P:aU} {w:bA} {K:aF} {mg:Str→Option Value} {base:Heap} {N:List Str} {qual:Str} {scope:Scope} {f:Addr} {cd:Value} {A:bE} {outer:List Env} {s:aE} {H:Hp} {E:XK}
theorem cxOf_P:(qr CX P w K mg base N qual scope f cd A outer s H E).prog=P:=rfl
theorem cxOf_w:(qr CX P w K mg base N qual scope f cd A outer s H E).w=w:=rfl
theorem Ux:(qr CX P w K mg base N qual scope f cd A outer s H E).mg=mg:=rfl
theorem cxOf_b:(qr CX P w K mg base N qual scope f cd A outer s H E).base=base:=rfl
end
theorem G9 {K:aF} {H:Hp} {l:Addr} {xs:List V} {y:V} {Q:VK} (h:H l=aA (.lst (xs++[y]))) (q:Q y (upd H l `U)):tyV K "list" (.ref l) H∧rPop `D [] H Q:=
 ⟨bf h,l,xs++[y],y,rfl,rfl,h,by rw[aa2,aa5,ado,aah (aa3 _),ad0];rfl,by rw[List.dropLast_concat];exact q⟩
def Qm:V→List V→Hp→VK→Prop:=λx xs H Q=>∃a y z o,x=.ref a∧xs=[y,z]∧gn H a y o∧Q (o.getD z) H
section
variable {X:Cx}
theorem Nj (hu:X.A.units+1 < cLine):MtR X "dict.get" Qm:=by
 intro pins s σ H x xs v us Q I rx r h;obtain ⟨a,y,z,o,rfl,rfl,g,q⟩:=h;cases (show v=aY a from rx)
 cases r with
 | cons ry rr=>
  cases rr with
  | cons rz rr=>
   cases rr
   rename_i u1 u2
   rcases g with ⟨kvs,k,e,ey,l⟩ | ⟨kvs,k,b,e,ey,eb,l⟩
   ·subst ey;obtain ⟨_,hd,vs,rel,dd⟩:=Bm I.hok e;refine nE dR dd.typeIs gZ (gQ _ _ _) (kQ (b9 X.prog X.w) a (ug ry) hd u2) ⟨_,dd.mapOf,⟨_,H,I.tok _,?_,q⟩⟩;rw[l];exact qt.getD (rel.val k) rz
   ·subst ey;cases (show u1=aY b from ry)
    obtain ⟨_,hd,xs,rel,dd⟩:=B1 I.hok e;have rv:=rel.val k;rw[←l] at rv;refine bL dR dd.typeIs gZ ?_ (gQ _ _ _);show aH _ _ (dictGet a `Z >>=_) _ _ s
    refine aC (wpAny_dictGet_heap (eT hu) (va I.hok eb) dd ?_);have g:=qt.getD rv rz;cases hf:iZ xs k with
    | some p=>
     rw[hf] at g;exact aG ⟨p.2,rfl,⟨_,H,I.tok _,g,q⟩⟩
    | none=>
     rw[hf] at g;show aH _ _ (Builtin.Dict.missed a `Z >>=_) _ _ _
     exact aC (wpAny_missed_other hd (aG ⟨u2,rfl,⟨_,H,I.tok _,g,q⟩⟩))
end
section
variable {X:Cx}
theorem vv:∀{xs:List V} {us:List Value},xs.length=us.length→(∀(i:Nat) (x:V),xs[i]?=aA x→∃u,us[i]?=aA u∧RelV x u)→Vals xs us
 | [],[],_,_=>.nil
 | x::xs,u::us,hl,h=>by
  refine .cons ?_ (vv (by simpa using hl) λi y hy=>?_)
  ·obtain ⟨u',e,r⟩:=h 0 x rfl;cases e
   exact r
  ·obtain ⟨u',e,r⟩:=h (i+1) y (by simpa using hy);exact ⟨u',by simpa using e,r⟩
 | [],_::_,hl,_=>by simp at hl
 | _::_,[],hl,_=>by simp at hl
end
theorem Inv.nk {X:Cx} {pins:List (Addr×Obj)} {σ:St} {H:Hp} {s:aE} {h':Heap} {t':Nat} {fp:List Addr} (I:Inv X pins σ H s) (k:∀b o,b∉fp→s.heap.get? b=aA o→h'.get? b=aA o) (hf:∀b∈fp,ke X pins H b):Inv X pins σ H { s with heap:=h',toks:=t' }:=by
 have nfp:∀b u,H b=aA u→b∉fp:=λb u e z=>by rw[(hf b z).1] at e;cases e
 refine I.step (g':=s.gens) (d':=s.drawn) (ch:=fp) (λb hb=>?_) (λb o _ _ hc e _=>k b o hc e) (λb o _ _ hc e _=>⟨o.slots,k b o hc e⟩) (λ_ _ _ _ n=>n)
  (λb o hc e=>⟨o,k b o hc e⟩) (λ_ _ e=>e) (λ_ _ _ e=>e) (λb ps e=>⟨#[],by rw[e];simp⟩) (λm hm=>?_) (λb u e=>?_) I.bare
 ·obtain ⟨f0,f1,f2,f3,f4,f5⟩:=hf b hb;exact ⟨f3,f1,f4,f5⟩
 ·exact hm.at λo e=>k _ o (λz=>(hf _ z).2.1 rfl) e
 ·exact (I.hok b u e).Fj (λc v hc q=>k c v (by
   rcases hc with rfl | hc
   ·exact nfp _ u e
   ·exact nfp _ _ hc) q) (λ_ q=>q) λ_ _ q=>q
noncomputable def Ite (K:aF) (a:Addr):It:=
 ⟨λi H=>∃xs x,SqL K H a xs∧xs[i]?=aA x,λi H x H'=>∃p y,(∀xs,SqL K H a xs→xs[i]?=aA y)∧H p=none∧x=.ref p∧H'=upd H p (.tup [.int (i:Nat),y]),λi H=>∃xs,SqL K H a xs∧xs.length≤i⟩
theorem Ma {P:aU} {w:bA} {K:aF} {elts:List Expr} {x1} {tpos:Pos} (a it e:Addr) (hne:e≠it):Turn P w K (.Tuple elts x1 tpos) (Ite K a) [e,it] e (λi h=>(∃old,lL h e it ((i:Nat):Int) old)∧h.IsListIter it a i) where
 mem:=by simp
 obj:=λi h st b hb=>by
  obtain ⟨⟨old,he⟩,o',e',c',d'⟩:=st;rcases List.mem_cons.mp hb with z | z
  ·subst z;exact ⟨_,he,λv z=>by cases z⟩
  ·have z:=List.mem_singleton.mp z;subst z;exact ⟨o',e',λv z=>by rw[d'] at z;cases z⟩
 keep:=λi h h' st k=>⟨by
  obtain ⟨old,he⟩:=st.1;exact ⟨old,k e `b _ he⟩,st.2.at λo' e'=>k it `b o' e'⟩
 item:=by
  intro X hP hw hK hc i pins s σ H E I hf st hg;subst hP hw hK;obtain ⟨xs,x,hq,hx⟩:=hg;obtain ⟨⟨old,he⟩,st2⟩:=st;obtain ⟨its,rv,p,hz⟩:=I.list hq;obtain ⟨u,hu,ru⟩:=rv.get hx;have le:e < s.heap.objs.size:=aJ he;have li:it < s.heap.objs.size:=by
   obtain ⟨o',e',_⟩:=st2;exact aJ e'
  refine wpAny_pyNext_enum_item he st2 p.isList (x:=u) (by simpa using hu) hne λh1 heo hit1 ht1 hz1 hk1=>⟨_,rfl,?_⟩;refine dS heo λh2 he2 sb=>?_;have sb:bF e h1 h2:=sb;have hfr:H s.heap.objs.size=none:=I.hok.fresh (aa3 _);have I1:Inv X pins σ (upd H s.heap.objs.size (.tup [.int (i:Nat),x])) { s with heap:=s.heap.push { cls:=.type "tuple",data:=.seq #[.int i s.toks,u] },toks:=s.toks+1 }:=
   I.laid (λb o' e'=>aD _ e') (aa3 _) (show bw X.prog X.w _ _ _ (.tup [.int (i:Nat),x]) from ⟨by show (2:Nat)≤sizeLine;decide,[.int i s.toks,u],.cons ⟨_,rfl⟩ (.cons ru .nil),⟨_,aI _ rfl,rfl,_,rfl,rfl⟩⟩)
  have nup:∀b,b < s.heap.objs.size→(upd H s.heap.objs.size (.tup [.int (i:Nat),x])) b=H b:=λb hb=>ak (aal hb);have fpl:∀b∈[e,it],b < s.heap.objs.size:=λb hb=>by
   rcases List.mem_cons.mp hb with z | z
   ·rw[z];exact le
   ·rw[List.mem_singleton.mp z];exact li
  have I2:=Inv.nk (h':=h2) (t':=s.toks+1) (fp:=[e,it]) I1 (λb o' hb e'=>by
   have be:b≠e:=λz=>hb (by simp[z]);have bi:b≠it:=λz=>hb (by simp[z]);have e':(s.heap.push { cls:=.type "tuple",data:=.seq #[.int i s.toks,u] }).get? b=aA o':=e';by_cases hbs:b=s.heap.objs.size
   ·subst hbs;rw[aI _ rfl] at e';cases e'
    exact (sb.2 _ be).trans ht1
   ·rw[fC _ _ _ hbs] at e';exact (sb.2 _ be).trans (hk1 b o' be bi e')) λb hb=>by
   obtain ⟨f0,f⟩:=hf b hb;exact ⟨by rw[nup b (fpl b hb)];exact f0,f⟩
  have ei:(((i+1:Nat):Int))=(i:Int)+1:=by omega
  refine ⟨.ref s.heap.objs.size,_,I2,rfl,⟨_,x,λys hy=>by rw[I.sf hy hq];exact hx,hfr,rfl,rfl⟩,⟨⟨u,?_⟩,hit1.at λo' e'=>(sb.2 _ hne.symm).trans e'⟩,λb hb=>by rw[nup b (fpl b hb)];exact (hf b hb).1⟩;rw[ei];exact he2
 done:=by
  intro X hP hw hK hc i pins s σ H E I hf st hg;subst hP hw hK;obtain ⟨xs,hq,hx⟩:=hg;obtain ⟨⟨old,he⟩,st2⟩:=st;obtain ⟨its,rv,p,hz⟩:=I.list hq;have hl:=rv.length;obtain ⟨f0,f1,f2,f3,f4,f5⟩:=hf it `b;exact wpAny_pyNext_enum_end `aF he st2 p.isList (by simp;omega) λh' eb=>⟨rfl,I.turned (t':=s.toks) (λb o' hb e'=>eb b o' hb e') f0 f1 f3 f4 f5⟩
 self:=λ_ _ _ _ _ st h=>by
  obtain ⟨⟨old,he⟩,_⟩:=st;exact cT he h
def iEnum (K:aF) (ta:TA):TI:=λσ H R=>ta σ H λvs H1=>∃a xs,vs=[.ref a]∧SqL K H1 a xs∧R (Ite K a) H1
theorem mx:bM "enumerate"=aA (.type "enumerate"):=by decide+kernel
section
variable {X:Cx}
theorem U9 {a:Expr} {ta:TA} {p pos tpos:Pos} {elts:List Expr} {x1} (hg:Gl X "enumerate") (hm:X.mg "enumerate"=none) (ha:PA X [a] ta) (hs:aZ [a] X.env=[(false,eval a X.env)]:=by rfl):PI X (.Tuple elts x1 tpos) (.Call (.Name "enumerate" p) [a] [] pos) (iEnum X.K ta):=by
 intro pins s σ H R I h;refine Call_ (gb I hg hm mx (bH (thn `Y λus s1 ⟨vs,H1,I1,r1,q1⟩=>?_) hs rfl));obtain ⟨l,xs,e,hq,q⟩:=q1;subst e;cases r1 with
 | cons r rr=>
  cases rr
  cases (show _=aY l from r)
  obtain ⟨its,rv,pl,hz⟩:=I1.list hq;refine call_enumerate_list pl.isList λh' he hit hsz hk=>?_;refine cT he ?_;have I2:Inv X pins σ H1 { s1 with heap:=h' }:=I1.kept (t':=s1.toks) hk;refine ⟨s1.heap.objs.size+1,[s1.heap.objs.size+1,s1.heap.objs.size],_,_,H1,rfl,I2,Ma l _ _ (ad7 _),⟨⟨_,he⟩,hit⟩,λb hb=>?_,q⟩;rcases List.mem_cons.mp hb with z | z
  ·subst z;exact I1.kh (ab7 _) (I1.hok.fresh (ab7 _))
  ·rw[List.mem_singleton.mp z];exact I1.kh (aa3 _) `aB
end
theorem uy {K:aF} {a:Addr} {xs:List V} {g:TG} {tb:TS} {D:Ends} {σ:St} {H:Hp} (Pv:Nat→St→Hp→Prop) (h0:Pv 0 σ H) (hl:∀i σ H,i≤xs.length→Pv i σ H→SqL K H a xs)
  (hs:∀i x σ H p,xs[i]?=aA x→Pv i σ H→H p=none→g `a4 σ (upd H p (.tup [.int (i:Nat),x])) λσ2 H2=>tb { D with nx:=Pv (i+1),ct:=Pv (i+1),bk:=D.nx } σ2 H2) (hd:∀σ H,Pv xs.length σ H→D.nx σ H):zv g tb D (Ite K a) σ H:=by
 refine ⟨λi m σ H=>m=xs.length - i∧i≤xs.length∧Pv i σ H,⟨xs.length,by simp,aag _,h0⟩,?_⟩;rintro i m σ H ⟨rfl,hi,p⟩;have q:=hl i σ H hi p;by_cases hlt:i < xs.length
 ·refine .inr ⟨⟨xs,_,q,aa1 hlt⟩,Pv (i+1),λσ' H' p'=>⟨xs.length - (i+1),by omega,rfl,hlt,p'⟩,λx H' y=>?_⟩;obtain ⟨t,v,hv,hn,rfl,rfl⟩:=y;exact hs i v σ H t (hv xs q) p hn
 ·have e:i=xs.length:=by omega
  subst e;exact .inl ⟨⟨xs,q,aa3 _⟩,hd σ H p⟩
end L2
namespace Pc
open PySem PySem.Spec L2 PyProof.Rows
theorem vj {α:Type} (l:List α) (k:Int) (h0:0≤k) (h1:k < (l.length:Int)):∃c,atI l k=aA c∧c∈l:=by
 have hk:k.toNat < l.length:=by omega
 have e:k=((k.toNat:Nat):Int):=by omega
 have q:atI l ((k.toNat:Nat):Int)=aA l[k.toNat]:=ay (aa1 hk);rw[←e] at q;exact ⟨_,q,aaf hk⟩
end Pc
namespace Pc
noncomputable def eat:Nat→List Nat→Option Nat
 | 0,_=>aA 0
 | _+1,[]=>none
 | l+1,a::r=>(eat (l+a) r).map (·+1)
noncomputable def pend:Nat→List Nat→Option Nat
 | l,[]=>aA l
 | 0,_::_=>none
 | l+1,a::r=>pend (l+a) r
noncomputable def starts:Nat→List Nat→List Nat
 | _,[]=>[]
 | p,a::r=>p::(starts (p+1) r).drop a
theorem i4 (r:List Nat):eat 0 r=aA 0:=by cases r <;> rfl
theorem fq (l a:Nat) (r:List Nat):eat (l+1) (a::r)=(eat (l+a) r).map (·+1):=rfl
theorem zm:∀(xs ys:List Nat) (l:Nat),pend l (xs++ys)=(pend l xs).bind λm=>pend m ys
 | [],ys,l=>by cases l <;> rfl
 | a::r,ys,0=>rfl
 | a::r,ys,l+1=>by
  show pend (l+a) (r++ys)=(pend (l+a) r).bind _
  exact zm r ys (l+a)
theorem Nu (l a:Nat) (h:0 < l):pend l [a]=aA (l - 1+a):=by
 cases l with
 | zero=>omega
 | succ l=>show aA (l+a)=aA (l+1 - 1+a);rw[ado]
theorem Ly (xs:List Nat) (a l d:Nat) (h:pend l xs=aA d) (hd:0 < d):pend l (xs++[a])=aA (d - 1+a):=by
 rw[zm,h];exact Nu d a hd
theorem qf:∀(r:List Nat) (l n:Nat),eat l r=aA n→n≤r.length
 | r,0,n,h=>by rw[i4] at h;cases h;exact aag _
 | [],l+1,n,h=>by cases h
 | a::r,l+1,n,h=>by
  rw[fq] at h;obtain ⟨m,hm,rfl⟩:=Option.map_eq_some_iff.mp h;have:=qf r (l+a) m hm;rw[aa8];omega
theorem g8:∀(r:List Nat) (l:Nat),pend l r=aA 0→eat l r=aA r.length
 | [],l,h=>by
  cases h
  rfl
 | a::r,0,h=>by cases h
 | a::r,l+1,h=>by
  rw[fq,g8 r (l+a) h];rfl
theorem Bs (r:List Nat) (l:Nat) (h:pend l r=aA 0) (p:Nat):∃m,pend m (r.drop p)=aA 0:=by
 have e:r=r.take p++r.drop p:=(ada p r).symm;rw[e,zm] at h;cases q:pend l (r.take p) with
 | none=>rw[q] at h;cases h
 | some m=>rw[q] at h;exact ⟨m,h⟩
theorem Rf {m:Nat} {r:List Nat} (h:pend m r=aA 0) (hr:r≠[]):0 < m:=by
 cases r with
 | nil=>exact absurd rfl hr
 | cons a r=>
  cases m with
  | zero=>cases h
  | succ m=>omega
theorem vp:∀(r:List Nat) (l n p:Nat),eat l r=aA n→(starts p r).drop l=starts (p+n) (r.drop n)
 | r,0,n,p,h=>by rw[i4] at h;cases h;rfl
 | [],l+1,n,p,h=>by cases h
 | a::r,l+1,n,p,h=>by
  rw[fq] at h;obtain ⟨m,hm,rfl⟩:=Option.map_eq_some_iff.mp h;show ((starts (p+1) r).drop a).drop l=starts (p+(m+1)) (r.drop m)
  rw[ad4,adx a l,vp r (l+a) m (p+1) hm];congr 1
  omega
theorem yt:∀(r:List Nat) (l p:Nat),pend l r=aA 0→(starts p r).length=l
 | [],l,p,h=>by
  have:l=0:=aa7 h;rw[this];rfl
 | a::r,0,p,h=>by cases h
 | a::r,l+1,p,h=>by
  have ih:=yt r (l+a) (p+1) h;show ((starts (p+1) r).drop a).length+1=l+1
  rw[aav,ih];omega
theorem vo (r:List Nat) (p:Nat) (h:r≠[]):∃t,starts p r=p::t:=by
 cases r with
 | nil=>exact absurd rfl h
 | cons a r=>exact ⟨_,rfl⟩
noncomputable def bb (ar:List Nat) (p:Nat):List Nat:=(starts (p+1) (ar.drop (p+1))).take (ar.getD p 0)
theorem Lp (ar:List Nat) (p:Nat) (h:p < ar.length):starts p `X=p::(starts (p+1) (ar.drop (p+1))).drop (ar.getD p 0):=by
 rw[aay h];have e:ar.getD p 0=ar[p]:=by rw[aaj,aa1 h];rfl
 rw[e];rfl
end Pc
namespace Pc
open PySem PySem.Spec L2 PyProof.Rows
noncomputable abbrev parts:List (Key×V):=[(aP "add",.int 2),(aP "sub",.int 2),(aP "mul",.int 2),(aP "neg",.int 1)]
noncomputable def arS (z:Str):Nat:=if z="add" then 2 else if z="sub" then 2 else if z="mul" then 2 else if z="neg" then 1 else 0
noncomputable def arV:V→Nat
 | .str z=>arS z
 | _=>0
def isW (v:V):Prop:=∃k:Key,v=kV k
theorem Ml (k:Key):(dk parts k).getD (.int 0)=.int (arV (kV k)):=by
 cases k with
 | inl i=>rfl
 | inr z=>
  show (dk parts (aP z)).getD (.int 0)=.int (arS z)
  unfold arS;by_cases h1:z="add"
  ·subst h1;rw[cx rfl,if_pos rfl];rfl
  rw[cv (λe=>h1 (fU e).symm),if_neg h1];by_cases h2:z="sub"
  ·subst h2;rw[cx rfl,if_pos rfl];rfl
  rw[cv (λe=>h2 (fU e).symm),if_neg h2];by_cases h3:z="mul"
  ·subst h3;rw[cx rfl,if_pos rfl];rfl
  rw[cv (λe=>h3 (fU e).symm),if_neg h3];by_cases h4:z="neg"
  ·subst h4;rw[cx rfl,if_pos rfl];rfl
  rw[cv (λe=>h4 (fU e).symm),if_neg h4];rfl
theorem arS_le (z:Str):arS z≤2:=by
 unfold arS;repeat' split
 all_goals decide
theorem arV_le (v:V):arV v≤2:=by cases v <;> first | exact arS_le _ | exact aag _
theorem nr {z:Str} (h:0 < arS z):z="add"∨z="sub"∨z="mul"∨z="neg":=by
 unfold arS at h;by_cases h1:z="add"
 ·exact .inl h1
 by_cases h2:z="sub"
 ·exact .inr (.inl h2)
 by_cases h3:z="mul"
 ·exact .inr (.inr (.inl h3))
 by_cases h4:z="neg"
 ·exact .inr (.inr (.inr h4))
 rw[if_neg h1,if_neg h2,if_neg h3,if_neg h4] at h;exact absurd h `a
def isTerm (ws:List V):Prop:=pend 1 (ws.map arV)=aA 0
theorem isTerm.ne {ws:List V} (h:isTerm ws):ws≠[]:=by
 intro e;rw[e] at h;cases h
def xk:Sp:=λvs H Q _=>∃v,vs=[v]∧isW v∧Q (.int (arV v)) H
def gr (d:Addr) (H H':Hp):Prop:=∀b o,b≠d→H b=aA o→H' b=aA o
theorem gr.trans {d:Addr} {H H1 H2:Hp} (a:gr d H H1) (b:gr d H1 H2):gr d H H2:=λc o n h=>b c o n (a c o n h)
theorem gr.of {d:Addr} {H H':Hp} (a:ah H H'):gr d H H':=λb o _ h=>a b o h
noncomputable def yf (H:Hp) (p:Addr):Nat:=match H p with | some (.lst ws)=>ws.length | _=>0
theorem jz {H:Hp} {p:Addr} {ws:List V} (h:H p=aA (.lst ws)):yf H p=ws.length:=by unfold yf;rw[h]
theorem og {z:Str}:∀{xs:List V},inV `Q xs=true→.str z∈xs:=by
 intro xs h;unfold inV at h;obtain ⟨y,hy,e⟩:=List.any_eq_true.mp h;cases y with
 | str x=>
  have e':x=z:=by simpa [eqV] using e
  exact e' ▸ hy
 | _=>simp[eqV] at e
theorem G6 (z:Str) (n:Nat):(su z n).cps.toList=(aba n z.cps.toList).flatten:=by unfold su;simp
theorem Ir:arS "neg"=1:=by decide+kernel
theorem Jr:∀(r:List Nat) (l:Nat),pend l r=aA 0→l≤r.length
 | [],l,h=>by
  have:l=0:=aa7 h;omega
 | a::r,0,h=>by cases h
 | a::r,l+1,h=>by
  have:=Jr r (l+a) h;rw[aa8];omega
theorem um:∀(r:List Nat) (j k:Nat),eat (j+k) r=(eat j r).bind λs=>(eat k (r.drop s)).map (s+·)
 | r,0,k=>by
  rw[i4,abn];show eat k r=(eat k r).map (0+·)
  cases eat k r with
  | none=>rfl
  | some n=>show aA n=aA (0+n);rw[abn]
 | [],j+1,k=>by
  rw[show j+1+k=(j+k)+1 by omega];rfl
 | a::r,j+1,k=>by
  rw[show j+1+k=(j+k)+1 by omega,fq,fq,show j+k+a=j+a+k by omega,um r (j+a) k];cases eat (j+a) r with
  | none=>rfl
  | some s=>
   show ((eat k (r.drop s)).map (s+·)).map (·+1)=(eat k (r.drop s)).map (s+1+·)
   cases eat k (r.drop s) with
   | none=>rfl
   | some n=>show aA (s+n+1)=aA (s+1+n);congr 1;omega
theorem xf:∀(r:List Nat) (k n:Nat),eat (k+1) r=aA n→0 < n
 | [],k,n,h=>by cases h
 | a::r,k,n,h=>by
  rw[fq] at h;obtain ⟨m,hm,rfl⟩:=Option.map_eq_some_iff.mp h;omega
theorem sy (ws:List V) (p:Nat) (h:p≤ws.length):ir ws none (aA (p:Int))=ws.take p:=by
 unfold ir;rw[HT.Js,HT.Eo,aca h];rfl
theorem ma (ws:List V) (p n:Nat) (h:p+n≤ws.length):ir ws (aA ((p:Int)+(n:Int))) none=ws.drop (p+n):=by
 unfold ir;rw[show (p:Int)+(n:Int)=((p+n:Nat):Int) by omega,HT.Js,HT.Eo,aca h];apply aaw
 rw[aav];omega
theorem Qz {x:V} (hx:isW x):(inV x [V.str "add",V.str "sub",V.str "mul"]=true)↔arV x=2:=by
 obtain ⟨k,rfl⟩:=hx;cases k with
 | inl i=>
  constructor
  ·intro h;exact absurd h (by simp[inV,eqV,kV])
  ·intro h;exact absurd h (by show ¬(0=2);decide)
 | inr z=>
  show (inV `Q _=true)↔arS z=2
  constructor
  ·intro h;have:=og h;simp only[aam,aac,or_false,V.str.injEq] at this;rcases this with rfl | rfl | rfl <;> decide+kernel
  ·intro h;rcases nr (z:=z) (by omega) with rfl | rfl | rfl | rfl
   ·decide+kernel
   ·decide+kernel
   ·decide+kernel
   ·rw[Ir] at h;exact absurd h `a
theorem neg_is {x:V} (hx:isW x) (h:¬arV x=2):x=.str "neg"↔arV x=1:=by
 constructor
 ·intro e;rw[e];exact Ir
 ·intro e;cases x with
  | str z=>
   have e:arS z=1:=e;have h:¬arS z=2:=h;rcases nr (z:=z) (by omega) with rfl | rfl | rfl | rfl
   ·exact absurd `c h
   ·exact absurd `c h
   ·exact absurd `c h
   ·rfl
  | _=>exact absurd e (by show ¬(0=1);decide)
noncomputable def intAt (σ:L2.St) (i:Nat):Nat:=match σ[i]? with | some (aA (.int x))=>x.toNat | _=>0
def y9 (K:aF):Sp:=λvs H Q _=>∃(t:Addr) (ws:List V) (p n:Nat),vs=[.ref t,.int (p:Int)]∧SqT K H t ws∧(∀v∈ws,isW v)∧ws.length≤1000∧eat 1 `au=aA n∧∀H',ah H H'→Q (.int ((p:Int)+(n:Int))) H'
theorem J0:∀{ws:List V},(∀v∈ws,isW v)→∃ks:List Key,ws=ks.map kV
 | [],_=>⟨[],rfl⟩
 | v::r,h=>by
  obtain ⟨ks,e⟩:=J0 λx hx=>h x (aab _ hx);obtain ⟨k,e'⟩:=h v aa6;exact ⟨k::ks,by rw[aaq,←e,←e']⟩
end Pc
namespace L2
open PySem PySem.Spec PyProof.Rows PySem.SeqAt PySem.MeetsSeq PySem.MeetsSeq2 PySem.MeetsSeq3
open AutoSeq1 (wpAny_loadPart')
end L2
namespace L2
open PySem
theorem Ro:bM "range"=aA (.type "range"):=by decide+kernel
end L2
namespace L2.RvR
open PySem PySem.Spec PySem.Calls PyProof.Rows
end L2.RvR
namespace L2
open PySem PySem.Spec PyProof.Rows RvR
noncomputable def Itd (n:Nat):It:=⟨λi _=>i < n,λi H x H'=>H'=H∧x=.int ((n:Int) - 1 - (i:Int)),λi _=>n≤i⟩
theorem K8 {P:aU} {w:bA} {K:aF} {tg:Expr} (it:Addr) (n:Nat):Turn P w K tg (Itd n) [it] it (λi h=>jZ h it ((n:Int) - 1+(i:Nat)*(-1)) ((n:Int) - (i:Nat)) (-1)) where
 mem:=by simp
 obj:=λi h st b hb=>by
  have e:b=it:=by simpa using hb
  subst e;exact ⟨_,st,λv z=>nomatch (show Data.fields _=Data.cell v from z)⟩
 keep:=λi h h' st k=>k it `b _ st
 item:=by
  intro X hP hw hK hc i pins s σ H E I hf st hg;subst hP hw hK;obtain ⟨f0,f1,f2,f3,f4,f5⟩:=hf it `b;refine (Walks.range (prog:=X.prog) (w:=X.w) `aF it ((n:Int) - 1) (-1) n).item i s _ _ hg st λv h' tk hv st' kk=>?_;obtain ⟨t,rfl⟩:=hv;have I1:Inv X pins σ H { s with heap:=h',toks:=tk }:=I.turned (λb o hb e=>kk b o (by simpa using hb) e) f0 f1 f3 f4 f5;refine ⟨_,rfl,Jc (s:={ s with heap:=h',toks:=tk }) (n:="range_iterator") st' rfl rfl `a ⟨.int ((n:Int) - 1 - (i:Int)),H,I1,⟨t,?_⟩,⟨rfl,rfl⟩,st',λb hb=>(hf b hb).1⟩⟩;congr 1
  omega
 done:=by
  intro X hP hw hK hc i pins s σ H E I hf st hg;subst hP hw hK;obtain ⟨f0,f1,f2,f3,f4,f5⟩:=hf it `b;have hg:n≤i:=hg;exact kB `aF st (by omega) λh' eb=>⟨rfl,I.turned (t':=s.toks) (λb o hb e=>eb b o hb e) f0 f1 f3 f4 f5⟩
 self:=λ_ _ _ _ _ st h=>kH st h
section
variable {X:Cx} {tg:Expr}
theorem Gd:fo X (.type "range") (λxs H Q=>∃i j:Int,xs=[.int i,.int j]∧∀l,H l=none→Q `D (upd H l (.rng i j))):=by
 intro pins s σ H xs us Q I r h;obtain ⟨i,j,rfl,q⟩:=h;obtain ⟨u,v,rfl,rx,ry⟩:=vals2 r;obtain ⟨t,rfl⟩:=rx;obtain ⟨t',rfl⟩:=ry;refine call_range_2 ?_;exact ⟨.ref s.heap.objs.size,_,I.laid (λb o e=>aD _ e) (aa3 _) (show bw X.prog X.w _ _ _ (.rng i j) from ⟨_,_,_,aI _ rfl⟩),rfl,q _ `aG⟩
theorem zb (hc:X.calm=true):fo X (.type "list") (λxs H Q=>∃(p:Addr) (i j:Int),xs=[.ref p]∧H p=aA (.rng i j)∧0≤i∧i≤j∧j≤1000000∧∀l,H l=none→Q `D (upd H l (.lst ((abl (j - i).toNat).map λk=>V.int (i+(k:Nat)))))):=by
 intro pins s σ H xs us Q I r h;obtain ⟨p,i,j,rfl,hp,h0,hij,h1,q⟩:=h;obtain ⟨u,rfl,rx⟩:=vals1 r;cases rx
 have sz:=aQ;obtain ⟨t,u,v,e⟩:=(show bw X.prog X.w H s.heap p (.rng i j) from I.hok p _ hp);refine call_list_range (n:=(j - i).toNat) `aF (show IsRange s.heap p i j 1 t u v from e) (small_one (by omega) (by omega) (by omega) (by omega)) (by rw[rangeSize_one];split <;> omega) (by omega) λh' tk acc c' hk hS' hacc=>?_;have rv:Vals ((abl (j - i).toNat).map λk=>V.int (i+(k:Nat))) acc.toList:=by
  refine vv ?_ λm x hx=>?_
  ·rw[aa0,abx,abf,hacc.1]
  ·rw[aa4] at hx;obtain ⟨k,hk',rfl⟩:=Option.map_eq_some_iff.mp hx;obtain ⟨hlt,rfl⟩:=List.getElem?_eq_some_iff.mp hk';rw[abx] at hlt;have hi:m < acc.size:=by rw[hacc.1];exact hlt
   obtain ⟨t',ht'⟩:=hacc.2 m acc[m] (by rw[aat hi]);refine ⟨acc[m],by rw[aco,aat hi],t',?_⟩;rw[ht',List.getElem_range];congr 1
   omega
 refine ⟨.ref s.heap.objs.size,_,I.laid hk (aa3 _) (show bw X.prog X.w _ h' _ (.lst ((abl (j - i).toNat).map λk=>V.int (i+(k:Nat)))) from ⟨by rw[aa0,abx];omega,_,c',rv,by simpa using hS'⟩),rfl,q _ `aG⟩
end
end L2
namespace L2
open PySem PySem.Spec PyProof.Rows
theorem Rp {K:aF} {a:Addr} {xs:List V} {fr:L2.St} {tc:TT} {te:TE} {D:Addr} {H1:Hp} {Q:Hp→Prop} (P:Nat→List V→Hp→Prop) (mono:∀i ys H H',(∀b o,b≠D→H b=aA o→H' b=aA o)→P i ys H→P i ys H') (hS:SqT K H1 a xs) (hn:xs.length < sizeLine) (hD:H1 D=none) (h0:P 0 [] H1)
  (step:∀i x ys H (G:Hp→Prop) (K':V→Hp→Prop),xs[i]?=aA x→P i ys H→ys.length≤i→ah H1 H→H D=aA (.lst ys)→(∀H3,ah H H3→P (i+1) ys H3→G H3)→(∀y H4,ah H H4→P (i+1) (ys++[y]) H4→K' y H4)→tc ([aA x]++fr) H λb H3=>if b=true then te ([aA x]++fr) H3 K' else G H3)
  (done:∀ys H,P xs.length ys H→ys.length≤xs.length→ah H1 H→H D=aA (.lst ys)→Q H):LC 1 fr (i5 0) tc te (Itt K a) D H1 Q:=by
 refine ⟨λi m H=>m=xs.length - i∧i≤xs.length∧∃ys,H D=aA (.lst ys)∧P i ys H∧ys.length≤i∧ah H1 H,⟨xs.length,by simp,aag _,[],aa,mono _ _ _ _ (λb o hb h=>by rw[ak hb];exact h) h0,aa3 _,ae hD _⟩,?_⟩;rintro i m H ⟨rfl,hi,ys,hys,hP,hl,hs⟩;by_cases hlt:i < xs.length
 ·have hx:xs[i]?=aA xs[i]:=aa1 hlt;refine .inr ⟨⟨xs,_,hs.tup hS,hx⟩,λτ x H' hτ hy=>?_⟩;obtain ⟨e1,e2⟩:=hy;subst e1;obtain rfl:x=xs[i]:=aa7 ((e2 xs (hs.tup hS)).symm.trans hx);obtain ⟨c,rfl⟩:∃c,τ=[c]:=List.length_eq_one_iff.mp hτ;refine ⟨⟨[aA xs[i]],rfl,rfl⟩,step i _ ys H' _ _ hx hP hl hs hys (λH3 q1 q2=>?_) (λy H4 q1 q2=>?_)⟩
  ·exact ⟨xs.length - (i+1),by omega,rfl,hlt,ys,q1 _ _ hys,q2,adu hl,hs.trans q1⟩
  ·refine ⟨ys,q1 _ _ hys,by omega,xs.length - (i+1),by omega,rfl,hlt,ys++[y],aa,mono _ _ _ _ (λb o hb h=>by rw[ak hb];exact h) q2,?_,(hs.trans q1).upd hD _⟩;rw[aa2,aa5];omega
 ·obtain rfl:i=xs.length:=by omega
  exact .inl ⟨⟨xs,hs.tup hS,aa3 _⟩,done ys H hP hl hs hys⟩
end L2
namespace Pc
open PySem PySem.Spec L2 PyProof.Rows
noncomputable abbrev plV (q:Nat):V:=V.int ((q:Nat):Int)
def dm (H:Hp) (rs:List Addr) (f:Nat→List Nat):Prop:=∀q,q < rs.length→H (rs.getD q 0)=aA (.lst ((f q).map plV))
theorem getD_mem {rs:List Addr} {q:Nat} (h:q < rs.length):rs.getD q 0∈rs:=by
 rw[aaj,aa1 h];exact aaf h
theorem dm.congr {H:Hp} {rs:List Addr} {f g:Nat→List Nat} (h:dm H rs f) (e:∀q,q < rs.length→g q=f q):dm H rs g:=λq hq=>by
 rw[e q hq];exact h q hq
theorem dm.same {H H':Hp} {rs:List Addr} {f:Nat→List Nat} (h:dm H rs f) (s:ah H H'):dm H' rs f:=λq hq=>s _ _ (h q hq)
theorem dm.other {H:Hp} {rs:List Addr} {f:Nat→List Nat} {b:Addr} {o:HO} (h:dm H rs f) (hb:b∉rs):dm (upd H b o) rs f:=λq hq=>by
 rw[ak λe=>hb (by rw[←e];exact getD_mem hq)];exact h q hq
theorem dm.put {H:Hp} {rs:List Addr} {f:Nat→List Nat} {p:Nat} {xs:List Nat} (h:dm H rs f) (nd:rs.Nodup) (hp:p < rs.length):dm (upd H (rs.getD p 0) (.lst (xs.map plV))) rs (λq=>if q=p then xs else f q):=λq hq=>by
 show upd H (rs.getD p 0) (.lst (xs.map plV)) (rs.getD q 0)=aA (.lst ((if q=p then xs else f q).map plV))
 by_cases e:q=p
 ·subst e;rw[if_pos rfl,aa]
 ·rw[if_neg e,ak]
  ·exact h q hq
  ·intro z;apply e
   rw[aaj,aaj,aa1 hq,aa1 hp] at z;exact (ad5 nd).mp z
theorem dm.out {H:Hp} {rs:List Addr} {f:Nat→List Nat} {b:Addr} (h:dm H rs f) (hb:H b=none):b∉rs:=λm=>by
 obtain ⟨q,hq,e⟩:=List.getElem_of_mem m;have:=h q hq;rw[aaj,aa1 hq,e] at this;rw[show (aA b).getD 0=b from rfl,hb] at this;cases this
theorem dm.snoc {H:Hp} {rs:List Addr} {r:Addr} (h:dm H rs λ_=>[]) (hr:H r=none):dm (upd H r `ai) (rs++[r]) λ_=>[]:=λq hq=>by
 rw[aa2,aa5] at hq;by_cases e:q < rs.length
 ·rw[aaj,aak e,←aaj];exact (h.other (h.out hr)) q e
 ·have e:q=rs.length:=by omega
  subst e;rw[aaj,aah (aa3 _),ad0];exact aa
noncomputable def gz:V:=.str (aB "any")
noncomputable def gf:V:=.str `be
noncomputable def lN:Str:=aB "n"
noncomputable def lV:Str:=aB "v"
noncomputable def lH:Str:=aB "h"
noncomputable def lO:Str:=aB ""
noncomputable def bh (kinds:List Str) (v:V):Str:=if v=gz then lN else if v=gf then lV else if inV v `h=true then lH else lO
noncomputable def isStr:V→Bool
 | .str _=>true
 | _=>false
noncomputable def lies (l:Str) (v x:V):Bool:=if l=lH then true else if l=lN then !isStr x else if l=lV then isStr x&&decide (arV x=0) else decide (v=x)
def kz (K:aF):Sp:=λvs H Q _=>∃(v:V) (kt:Addr) (kinds:List Str),vs=[v,.ref kt]∧isW v∧SqT K H kt `h∧Q (.str `y) H
def Cm:Sp:=λvs H Q _=>∃(l:Str) (v x:V),vs=[.str l,v,x]∧isW v∧isW x∧Q (.bl (lies l v x)) H
theorem isW.sc {v:V} (h:isW v) (z:Str):scal v `Q=true:=by
 obtain ⟨k,rfl⟩:=h;cases k <;> rfl
theorem isW.sc2 {v x:V} (h:isW v) (g:isW x):scal v x=true:=by
 obtain ⟨k,rfl⟩:=h;obtain ⟨m,rfl⟩:=g;cases k <;> cases m <;> rfl
theorem isW.flat {v:V} (h:isW v):jr v=true:=by
 obtain ⟨k,rfl⟩:=h;exact Cu k
structure Und where
 hs:List Nat
 ns:List V
 vs:List V
noncomputable def Und.put (u:Und) (l:Str) (p:Nat) (x:V):Und:=if l=lH then ⟨u.hs++[p],u.ns,u.vs⟩ else if l=lN then ⟨u.hs,u.ns++[x],u.vs⟩ else if l=lV then ⟨u.hs,u.ns,u.vs++[x]⟩ else u
noncomputable def endAt (ws:List V) (p:Nat):Nat:=p+(eat 1 `au).getD 0
noncomputable def bq (kinds:List Str) (ws:List V):List V→Nat→Und→Option Und
 | [],_,u=>aA u
 | v::r,p,u=>if lies `y v `aW=true then bq kinds ws r (if bh kinds v=lH then endAt ws p else p+1) (u.put `y p `aW) else none
def i6 (H:Hp) (t:Addr) (u:Und):Prop:=∃t1 t2 t3:Addr,H t=aA (.tup [.ref t1,.ref t2,.ref t3])∧H t1=aA (.tup (u.hs.map plV))∧H t2=aA (.tup u.ns)∧H t3=aA (.tup u.vs)
structure UndOk (u:Und):Prop where
 n:(∀v∈u.ns,isW v)∧u.ns.length≤1000
 v:(∀v∈u.vs,isW v)∧u.vs.length≤1000
 h:u.hs.length≤1000
theorem i6.same {H H':Hp} {t:Addr} {u:Und} (h:i6 H t u) (s:ah H H'):i6 H' t u:=by
 obtain ⟨t1,t2,t3,h1,h2,h3,h4⟩:=h;exact ⟨t1,t2,t3,s _ _ h1,s _ _ h2,s _ _ h3,s _ _ h4⟩
def vy (u:Und):Prop:=(∀v∈u.ns,isW v)∧∀v∈u.vs,isW v
theorem vy.put {u:Und} (h:vy u) {x:V} (hx:isW x) (l:Str) (p:Nat):vy (u.put l p x):=by
 unfold Und.put;have ap:∀{L:List V},(∀v∈L,isW v)→∀v∈L++[x],isW v:=λ{L} hL v hv=>by
  rcases List.mem_append.mp hv with g | g
  ·exact hL v g
  ·rw[List.mem_singleton.mp g];exact hx
 by_cases c1:l=lH
 ·rw[if_pos c1];exact h
 rw[if_neg c1];by_cases c2:l=lN
 ·rw[if_pos c2];exact ⟨ap h.1,h.2⟩
 rw[if_neg c2];by_cases c3:l=lV
 ·rw[if_pos c3];exact ⟨h.1,ap h.2⟩
 rw[if_neg c3];exact h
def Kinds (kinds:List Str):Prop:=∀z∈kinds,arS z=0∧V.str z≠gz∧V.str z≠gf
def told (r:Option Und) (H':Hp) (Q:VK):Prop:=match r with
 | none=>Q .non H'
 | some u=>∀(t:Addr) (H2:Hp),ah H' H2→i6 H2 t u→UndOk u→Q `N H2
theorem Ak {H':Hp} {Q:VK} (h:Q .non H'):told none H' Q:=h
def Cp (K:aF):Sp:=λvs H Q _=>∃(st kt wt:Addr) (sh:List V) (kinds:List Str) (ws:List V) (p n:Nat),vs=[.ref st,.ref kt,.ref wt,.int (p:Int)]∧SqT K H st sh∧SqT K H kt `h∧SqT K H wt ws∧Kinds kinds∧(∀v∈sh,isW v)∧(∀v∈ws,isW v)∧isTerm sh∧eat 1 `au=aA n∧sh.length≤1000∧ws.length≤1000∧∀H',ah H H'→told (bq kinds ws sh p ⟨[],[],[]⟩) H' Q
theorem df {kinds:List Str} {v:V} (hv:isW v):(v=gz∧bh kinds v=lN)∨(v=gf∧bh kinds v=lV)∨((∃z∈kinds,v=.str z)∧bh kinds v=lH)∨(bh kinds v=lO∧inV v `h=false):=by
 unfold bh;by_cases h1:v=gz
 ·exact .inl ⟨h1,if_pos h1⟩
 by_cases h2:v=gf
 ·exact .inr (.inl ⟨h2,by rw[if_neg h1,if_pos h2]⟩)
 cases h3:inV v `h with
 | true=>
  refine .inr (.inr (.inl ⟨?_,by rw[if_neg h1,if_neg h2,if_pos rfl]⟩));obtain ⟨k,rfl⟩:=hv;cases k with
  | inl i=>
   exfalso
   clear h1 h2;induction kinds with
   | nil=>cases h3
   | cons z r ih=>exact ih h3
  | inr z=>
   obtain ⟨y,hy,e⟩:=List.mem_map.mp (og h3);exact ⟨y,hy,e.symm⟩
 | false=>exact .inr (.inr (.inr ⟨by rw[if_neg h1,if_neg h2,if_neg `a],rfl⟩))
theorem xv:arV gz=0:=by decide+kernel
theorem ur:arV gf=0:=by decide+kernel
theorem lets:lN≠lH∧lV≠lH∧lO≠lH∧lV≠lN∧lO≠lN∧lO≠lV:=by decide+kernel
theorem gx {kinds:List Str} {ws r:List V} {v x:V} {q d m:Nat} (hk:Kinds kinds) (hv:isW v) (hx:ws[q]?=aA x) (hxw:isW x) (hp:pend (d+1) (arV v::r.map arV)=aA 0) (he:eat (d+1) ((ws.drop q).map arV)=aA m)
  (hl:lies `y v x=true):∃d' m',pend d' (r.map arV)=aA 0∧eat d' `af=aA m':=by
 have hq:q < ws.length:=(List.getElem?_eq_some_iff.mp hx).1;have ed:ws.drop q=x::ws.drop (q+1):=by
  rw[aay hq];congr 1
  rw[aa1 hq] at hx;exact aa7 hx
 obtain ⟨e1,e2,e3,e4,e5,e6⟩:=lets;have hp:pend (d+arV v) (r.map arV)=aA 0:=hp;have one:arV v=arV x→bh kinds v≠lH→∃d' m',pend d' (r.map arV)=aA 0∧eat d' `af=aA m':=λh n=>by
  rw[if_neg n];rw[ed,aaq,fq] at he;obtain ⟨k,hk',_⟩:=Option.map_eq_some_iff.mp he;exact ⟨d+arV v,k,hp,by rw[h];exact hk'⟩
 unfold lies at hl;rcases df (kinds:=kinds) hv with ⟨rfl,h⟩ | ⟨rfl,h⟩ | ⟨⟨z,hz,rfl⟩,h⟩ | ⟨h,_⟩
 ·refine one ?_ (by rw[h];exact e1);rw[h,if_neg e1,if_pos rfl] at hl;rw[xv];obtain ⟨k,rfl⟩:=hxw;cases k with
  | inl i=>rfl
  | inr y=>cases hl
 ·refine one ?_ (by rw[h];exact e2);rw[h,if_neg e2,if_neg e4,if_pos rfl,ac3] at hl;rw[ur];exact (of_decide_eq_true hl.2).symm
 ·rw[if_pos h];have a0:arV `Q=0:=(hk z hz).1;rw[a0] at hp;rw[show d+1=1+d by omega,um] at he;cases h1:eat 1 ((ws.drop q).map arV) with
  | none=>rw[h1] at he;cases he
  | some n=>
   rw[h1] at he;obtain ⟨k,hk',_⟩:=Option.map_eq_some_iff.mp (show (eat d (((ws.drop q).map arV).drop n)).map (n+·)=aA m from he);refine ⟨d,k,hp,?_⟩;unfold endAt;rw[h1,show (aA n).getD 0=n from rfl,←ad4];rw[←acg] at hk';exact hk'
 ·refine one ?_ (by rw[h];exact e3);rw[h,if_neg e3,if_neg e5,if_neg e6] at hl;rw[of_decide_eq_true hl]
theorem dr {kinds:List Str} {ws:List V} {v:V} {r:List V} {p:Nat} {u:Und}:bq kinds ws (v::r) p u=if lies `y v `aW=true then bq kinds ws r (if bh kinds v=lH then endAt ws p else p+1) (u.put `y p `aW) else none:=rfl
def UAt (H:Hp) (u0 l1 l2 l3:Addr) (u:Und):Prop:=H u0=aA (.dK [(aP lH,.ref l1),(aP lN,.ref l2),(aP lV,.ref l3)])∧H l1=aA (.lst (u.hs.map plV))∧H l2=aA (.lst u.ns)∧H l3=aA (.lst u.vs)
theorem UAt.same {H H':Hp} {u0 l1 l2 l3:Addr} {u:Und} (h:UAt H u0 l1 l2 l3 u) (s:ah H H'):UAt H' u0 l1 l2 l3 u:=⟨s _ _ h.1,s _ _ h.2.1,s _ _ h.2.2.1,s _ _ h.2.2.2⟩
theorem Und.ue (u:Und) (l:Str) (p:Nat) (x:V) {i:Nat} (h:u.hs.length≤i∧u.ns.length≤i∧u.vs.length≤i):(u.put l p x).hs.length≤i+1∧(u.put l p x).ns.length≤i+1∧(u.put l p x).vs.length≤i+1:=by
 obtain ⟨h1,h2,h3⟩:=h;unfold Und.put;by_cases c1:l=lH
 ·rw[if_pos c1];refine ⟨?_,by show u.ns.length≤_;omega,by show u.vs.length≤_;omega⟩;show (u.hs++[p]).length≤_
  rw[aa2,aa5];omega
 rw[if_neg c1];by_cases c2:l=lN
 ·rw[if_pos c2];refine ⟨by show u.hs.length≤_;omega,?_,by show u.vs.length≤_;omega⟩;show (u.ns++[x]).length≤_
  rw[aa2,aa5];omega
 rw[if_neg c2];by_cases c3:l=lV
 ·rw[if_pos c3];refine ⟨by show u.hs.length≤_;omega,by show u.ns.length≤_;omega,?_⟩;show (u.vs++[x]).length≤_
  rw[aa2,aa5];omega
 rw[if_neg c3];exact ⟨by omega,by omega,by omega⟩
theorem UAt.get1 {H:Hp} {u0 l1 l2 l3:Addr} {u:Und} (h:UAt H u0 l1 l2 l3 u):gn H u0 (.str lH) (aA (.ref l1)):=.inl ⟨_,.inr lH,.inl h.1,rfl,rfl⟩
theorem UAt.get2 {H:Hp} {u0 l1 l2 l3:Addr} {u:Und} (h:UAt H u0 l1 l2 l3 u):gn H u0 (.str lN) (aA (.ref l2)):=.inl ⟨_,.inr lN,.inl h.1,rfl,rfl⟩
theorem UAt.get3 {H:Hp} {u0 l1 l2 l3:Addr} {u:Und} (h:UAt H u0 l1 l2 l3 u):gn H u0 (.str lV) (aA (.ref l3)):=.inl ⟨_,.inr lV,.inl h.1,rfl,rfl⟩
theorem UAt.put1 {H:Hp} {u0 l1 l2 l3:Addr} {u:Und} (h:UAt H u0 l1 l2 l3 u) (n10:l1≠u0) (n21:l2≠l1) (n31:l3≠l1) (p:Nat) (x:V):UAt (upd H l1 (.lst (u.hs.map plV++[plV p]))) u0 l1 l2 l3 (u.put lH p x):=by
 unfold Und.put;rw[if_pos rfl];refine ⟨by rw[ak n10.symm];exact h.1,?_,by rw[ak n21];exact h.2.2.1,by rw[ak n31];exact h.2.2.2⟩;rw[aa,aaa];rfl
theorem UAt.put2 {H:Hp} {u0 l1 l2 l3:Addr} {u:Und} (h:UAt H u0 l1 l2 l3 u) (n20:l2≠u0) (n21:l2≠l1) (n32:l3≠l2) (p:Nat) (x:V):UAt (upd H l2 (.lst (u.ns++[x]))) u0 l1 l2 l3 (u.put lN p x):=by
 unfold Und.put;rw[if_neg lets.1,if_pos rfl];exact ⟨by rw[ak n20.symm];exact h.1,by rw[ak n21.symm];exact h.2.1,aa,by rw[ak n32];exact h.2.2.2⟩
theorem UAt.put3 {H:Hp} {u0 l1 l2 l3:Addr} {u:Und} (h:UAt H u0 l1 l2 l3 u) (n30:l3≠u0) (n31:l3≠l1) (n32:l3≠l2) (p:Nat) (x:V):UAt (upd H l3 (.lst (u.vs++[x]))) u0 l1 l2 l3 (u.put lV p x):=by
 unfold Und.put;rw[if_neg lets.2.1,if_neg lets.2.2.2.1,if_pos rfl];exact ⟨by rw[ak n30.symm];exact h.1,by rw[ak n31.symm];exact h.2.1,by rw[ak n32.symm];exact h.2.2.1,aa⟩
theorem Und.put0 (u:Und) (p:Nat) (x:V):u.put lO p x=u:=by
 unfold Und.put;rw[if_neg lets.2.2.1,if_neg lets.2.2.2.2.1,if_neg lets.2.2.2.2.2]
theorem Jq {r:List Nat} {d m:Nat} (h:eat (d+1) r=aA m):∃n,eat 1 r=aA n:=by
 rw[show d+1=1+d by omega,um] at h;cases h1:eat 1 r with
 | none=>rw[h1] at h;cases h
 | some n=>exact ⟨n,rfl⟩
structure Rl where
 name:Str
 kind:Str
 price:Int
 shape:List V
def mi (H:Hp) (a:Addr) (r:Rl):Prop:=∃(sa da:Addr) (ds:List V),H a=aA (.tup [.str r.name,.str r.kind,.int r.price,.ref sa,.ref da])∧H sa=aA (.tup r.shape)∧H da=aA (.tup ds)
theorem mi.same {H H':Hp} {a:Addr} {r:Rl} (h:mi H a r) (s:ah H H'):mi H' a r:=by
 obtain ⟨sa,da,ds,h1,h2,h3⟩:=h;exact ⟨sa,da,ds,s _ _ h1,s _ _ h2,s _ _ h3⟩
def nz (H:Hp) (ra:List Addr) (rs:List Rl):Prop:=ra.length=rs.length∧∀(i:Nat) (r:Rl),rs[i]?=aA r→∃a,ra[i]?=aA a∧mi H a r
theorem nz.same {H H':Hp} {ra:List Addr} {rs:List Rl} (h:nz H ra rs) (s:ah H H'):nz H' ra rs:=⟨h.1,λi r hr=>by
 obtain ⟨a,h1,h2⟩:=h.2 i r hr;exact ⟨a,h1,h2.same s⟩⟩
def qz (H:Hp) (b:Addr) (kinds:List Str) (rs:List Rl):Prop:=∃(kt rt:Addr) (ra:List Addr),H b=aA (.tup [.ref kt,.ref rt])∧H kt=aA (.tup `h)∧H rt=aA (.tup (ra.map V.ref))∧nz H ra rs
theorem qz.same {H H':Hp} {b:Addr} {kinds:List Str} {rs:List Rl} (h:qz H b kinds rs) (s:ah H H'):qz H' b kinds rs:=by
 obtain ⟨kt,rt,ra,h1,h2,h3,h4⟩:=h;exact ⟨kt,rt,ra,s _ _ h1,s _ _ h2,s _ _ h3,h4.same s⟩
structure Bk (kinds:List Str) (rs:List Rl):Prop where
 kd:Kinds kinds
 nd:(rs.map (·.name)).Nodup
 sh:∀r∈rs,(∀v∈r.shape,isW v)∧isTerm r.shape∧r.shape.length≤100
 len:rs.length≤100
 kn:kinds.Nodup
 kl:kinds.length≤60
 pr:∀r∈rs,1≤r.price
 rk:∀r∈rs,r.kind∈kinds
structure Tw (ws:List V):Prop where
 w:∀v∈ws,isW v∧v≠gz∧v≠gf
 one:isTerm ws
 len:ws.length≤1000
theorem Tw.eat {ws:List V} (h:Tw ws) {p:Nat} (hp:p < ws.length):∃n,eat 1 `au=aA n:=by
 obtain ⟨m,hm⟩:=Bs _ 1 h.one p;rw[←acg] at hm;have hpos:=Rf hm (by intro e;have:=congrArg ac5 e;rw[aa0,aav] at this;simp at this;omega);obtain ⟨d,rfl⟩:∃d,m=d+1:=⟨m - 1,by omega⟩;exact Jq (g8 _ _ hm)
theorem Um {x:V} (hx:isW x):(inV x [V.str "add",V.str "sub",V.str "mul",V.str "neg"]=true)↔0 < arV x:=by
 obtain ⟨k,rfl⟩:=hx;cases k with
 | inl i=>
  constructor
  ·intro h;exact absurd h (by simp[inV,eqV,kV])
  ·intro h;exact absurd h (by show ¬(0 < 0);decide)
 | inr z=>
  show (inV `Q _=true)↔0 < arS z
  constructor
  ·intro h;have:=og h;simp only[aam,aac,or_false,V.str.injEq] at this;rcases this with rfl | rfl | rfl | rfl <;> decide+kernel
  ·intro h;rcases nr (z:=z) h with rfl | rfl | rfl | rfl <;> decide+kernel
theorem Rk {n p:Nat} (h:p < n):ixN n (p:Int)=aA p:=by
 unfold ixN;rw[if_pos (by omega),if_pos (by omega),ack]
theorem Ba:∀(r:List Nat) (p:Nat),(starts p r).length≤r.length
 | [],_=>aa3 _
 | a::r,p=>by
  show (p::(starts (p+1) r).drop a).length≤_
  have:=Ba r (p+1);rw[aa8,aav,aa8];omega
theorem Kinds.out {kinds:List Str} (h:Kinds kinds) {z:Str} (hz:V.str z=gz∨V.str z=gf):inV `Q `h=false:=by
 cases e:inV `Q `h with
 | false=>rfl
 | true=>
  obtain ⟨y,hy,e2⟩:=List.mem_map.mp (og e);obtain ⟨_,h1,h2⟩:=h y hy;rcases hz with hz | hz
  ·exact absurd (e2.trans hz) h1
  ·exact absurd (e2.trans hz) h2
theorem letH {kinds:List Str} {v:V} (h:bh kinds v=lH):inV v `h=true:=by
 unfold bh at h;obtain ⟨b1,b2,b3,_,_,_⟩:=lets;by_cases h1:v=gz
 ·rw[if_pos h1] at h;exact absurd h b1
 by_cases h2:v=gf
 ·rw[if_neg h1,if_pos h2] at h;exact absurd h b2
 rw[if_neg h1,if_neg h2] at h;cases e:inV v `h with
 | true=>rfl
 | false=>rw[e,if_neg `a] at h;exact absurd h b3
theorem letO {kinds:List Str} {v:V} (h:bh kinds v=lO):v≠gz∧v≠gf:=by
 obtain ⟨_,_,_,_,b5,b6⟩:=lets;unfold bh at h;refine ⟨λe=>?_,λe=>?_⟩
 ·rw[if_pos e] at h;exact b5 h.symm
 ·subst e;by_cases h1:gf=gz
  ·rw[if_pos h1] at h;exact b5 h.symm
  ·rw[if_neg h1,if_pos rfl] at h;exact b6 h.symm
def nmOk (z:Str):Prop:=arS z=0∧V.str z≠gz∧V.str z≠gf
def twW (v:V):Prop:=isW v∧v≠gz∧v≠gf
theorem twW_int (i:Int):twW (.int i):=⟨⟨cK i,rfl⟩,(λe=>nomatch e),λe=>nomatch e⟩
theorem twW_name {z:Str} (h:nmOk z):twW `Q:=⟨⟨aP z,rfl⟩,h.2⟩
theorem twW_op {z:Str} (h:0 < arS z):twW `Q:=⟨⟨aP z,rfl⟩,λe=>by rw[V.str.inj (show V.str z=V.str (aB "any") from e)] at h;revert h;decide+kernel,λe=>by rw[V.str.inj (show V.str z=V.str `be from e)] at h;revert h;decide+kernel⟩
theorem Ug {z:Str} {xs:List V} (h:V.str z∈xs):inV `Q xs=true:=List.any_eq_true.mpr ⟨_,h,by simp[eqV]⟩
theorem ka {n:Nat} (h:n≤11):(Az (.int (n:Int))).length≤2∧wordV (.int (n:Int)):=by
 have a:∀n:Fin 12,(Az (.int ((n.1:Nat):Int))).length≤2:=by decide+kernel
 have b:∀n:Fin 12,(((n.1:Nat):Int)).natAbs.log2 < 1920:=by decide+kernel
 exact ⟨a ⟨n,by omega⟩,b ⟨n,by omega⟩⟩
theorem Cc (a b:Str):(a++b).cps.toList=a.cps.toList++b.cps.toList:=by
 show (a.cps++b.cps).toList=_
 exact Array.toList_append
def jj (z:Str):Prop:=(∀c∈z.cps.toList,c < 128)∧z.length≤1000
noncomputable abbrev abcS:Str:=aB "abcdefghijklmnopqrstuvwxyz"
noncomputable def ltr (i:Int):Str:=⟨#[97+(i % 26).toNat]⟩
theorem Aq (i:Int):(ltr i).cps.toList=[97+(i % 26).toNat]:=rfl
theorem Ja (i:Int):(ltr i).length=1:=rfl
theorem ltr_at (i:Int):atI abcS.cps.toList (i % 26)=aA (97+(i % 26).toNat):=by
 have a:∀j:Fin 26,abcS.cps.toList[j.1]?=aA (97+j.1):=by decide+kernel
 obtain ⟨j,hj,e⟩:∃j:Nat,j < 26∧i % 26=(j:Int):=⟨(i % 26).toNat,by omega,by omega⟩;rw[e,ack];exact ay (a ⟨j,hj⟩)
theorem Gb {i:Int} {H:Hp} {Q:VK} (q:Q (.str (ltr i)) H):rIxS (.str abcS) (.int (i % 26)) H Q:=
 ⟨abcS,i % 26,_,rfl,rfl,by rw[aQ];decide+kernel,ltr_at i,q⟩
theorem vb (i:Int) (n:Nat):(su (ltr i) n).cps.toList=aba n (97+(i % 26).toNat):=by
 rw[G6,Aq];induction n with
 | zero=>rfl
 | succ n ih=>rw[acu,aef,ih,acu];rfl
theorem add_mod {n a b c:Int} (h:(a+b) % n=(a+c) % n):(b - c) % n=0:=by
 have h:=Int.emod_eq_emod_iff_emod_sub_eq_zero.mp h;rw[show a+b - (a+c)=b - c by omega] at h;exact h
theorem Rz {a b:Int} {n:Nat} (hn:0 < n) (h:97+(a % (n:Int)).toNat=97+(b % (n:Int)).toNat):a % (n:Int)=b % (n:Int):=by
 have h1:=ab9 a (show (n:Int)≠0 by omega);have h2:=ab9 b (show (n:Int)≠0 by omega);generalize a % (n:Int)=x at h h1;generalize b % (n:Int)=y at h h2;omega
theorem Km (i:Int) (n:Nat):(su (ltr i) n).length=n:=by
 have e:(su (ltr i) n).length=(su (ltr i) n).cps.toList.length:=rfl;rw[e,vb,abb]
end Pc
namespace L2
open PySem PySem.Spec PyProof.Rows
def TK (H H':Hp):Prop:=∀b xs,H b=aA `aU→H' b=aA `aU
theorem TK.trans {H H1 H2:Hp} (a:TK H H1) (b:TK H1 H2):TK H H2:=λc xs h=>b c xs (a c xs h)
theorem TK.of {H H':Hp} (s:ah H H'):TK H H':=λb xs h=>s b _ h
theorem TK.put {H:Hp} {a:Addr} {o o':HO} (h:H a=aA o) (ho:∀xs,o≠.tup xs):TK H (upd H a o'):=λb xs hb=>by
 rw[ak (λe=>by rw[e,h] at hb;exact ho xs (aa7 hb))];exact hb
end L2
namespace L2.Zd
open PySem
abbrev IsZ (h:Heap) (z TI TO:Addr) (f0 f1:Value):Prop:=
 h.get? z=aA { cls:=.type "zip",dict:=none,data:=.fields #[f0,f1,.bool false,.ref TI,.ref TO],slots:=#[] }
section
variable {prog:aU} {w:bA} {A:bE} {E:Value→aE→Prop} {s:aE}
theorem alive {M:jQ} {a:Addr} {Q:Option Obj→aE→Prop} (h:Q (s.heap.get? a) s):aH M A (kR a) Q E s:=λΓ p hΓ=>by
 unfold kR;rw[Sem.wp_loadIfAlive];exact aG h Γ p hΓ
theorem ye {z TI TO T:Addr} {b:Bool} {o:Obj} {Q:Bool→aE→Prop} (hz:IsZ s.heap z TI TO (bZ T) (.bool b)) (ho:s.heap.get? T=aA o)
  (q:∀h',IsZ h' z TI TO (bZ T) (.bool true)→bF z s.heap h'→Q false { s with heap:=h' }):aH `e A (bD `p) Q E s:=by
 unfold bD;refine aC (bC hz rfl (x:=bZ T) rfl ?_);show aH _ _ (kR T >>=_) _ _ _
 refine aC (alive ?_);rw[ho];show aH _ _ (eB `p 1 >>=_) _ _ _
 refine aC (bC hz rfl (x:=.bool b) rfl ?_);cases b with
 | true=>exact aG (q s.heap hz (fD _ _))
 | false=>exact aC (bT hz `b λh' hz' hs'=>aG (q h' hz' hs'))
theorem next_item {z TI TO i1 i2 l1 l2 T:Addr} {k1 k2:Nat} {xs ys:Array Value} {x y:Value} {f:Bool} {o:Obj} {Q:Value→aE→Prop} (D:cZ z TI TO i1 i2 l1 l2)
  (hz:IsZ s.heap z TI TO (bZ T) (.bool f)) (ho:s.heap.get? T=aA o) (hTI:bX s.heap TI (.ref i1) (.ref i2))
  (h1:s.heap.IsListIter i1 l1 k1) (h2:s.heap.IsListIter i2 l2 k2) (hl1:s.heap.IsList l1 xs) (hl2:s.heap.IsList l2 ys) (hx:xs[k1]?=aA x) (hy:ys[k2]?=aA y)
  (hQ:∀h',IsZ h' z TI TO (bZ T) (.bool true)→h'.IsListIter i1 l1 (k1+1)→h'.IsListIter i2 l2 (k2+1)→bX h' s.heap.objs.size x y→h'.objs.size=s.heap.objs.size+1→
   (∀c o,c≠z→c≠i1→c≠i2→s.heap.get? c=aA o→h'.get? c=aA o)→Q `m { s with heap:=h' }):
  aH `e A `ac (λfin s'=>∃v,fin=.done (.ret v)∧Q v s') E s:=by
 show aH _ _ (eB `p 2 >>=_) _ _ _
 refine aC (bC hz rfl (x:=.bool false) rfl ?_);show aH _ _ (eB `p 3 >>=_) _ _ _
 refine aC (bC hz rfl (x:=.ref TI) rfl ?_);refine aC (bQ hTI rfl ?_);show aH _ _ (bD `p >>=_) _ _ _
 refine aC (ye hz ho λh₁ hz₁ hs₁=>?_);simp only[abi,if_false];refine aC ?_;rw[←ac8];simp only[abq,abo];refine aC (aC (bK ?_));show aH _ _ (aX (.ref i1) >>=_) _ _ _
 refine aC (eY (h1.extBut hs₁.extBut D.i1z) (hl1.extBut hs₁.extBut D.l1z) hx λh₂ h1₂ hs₂=>aG ?_);refine aG ?_;refine aC (aC (bK ?_));show aH _ _ (aX (.ref i2) >>=_) _ _ _
 refine aC (eY ((h2.extBut hs₁.extBut D.i2z).extBut hs₂.extBut D.i12.symm) ((hl2.extBut hs₁.extBut D.l2z).extBut hs₂.extBut D.l2i1) hy λh₄ h2₄ hs₄=>aG ?_);refine aG (aG ?_);refine aC (gN (hsz:=by show (2:Nat)≤sizeLine;decide) ?_);have hsz:h₄.objs.size=s.heap.objs.size:=by rw[hs₄.1,hs₂.1,hs₁.1]
 have up:∀c o,c≠z→c≠i1→c≠i2→s.heap.get? c=aA o→h₄.get? c=aA o:=λc o c1 c3 c4 e=>hs₄.extBut _ _ c4 (hs₂.extBut _ _ c3 (hs₁.extBut _ _ c1 e));refine aG ⟨_,rfl,?_⟩;rw[hsz];have n1:bX (h₄.push { cls:=.type "tuple",data:=.seq #[x,y] }) s.heap.objs.size x y:=by
  rw[←hsz];exact aI _ rfl
 exact hQ _ (aD _ (hs₄.extBut _ _ D.i2z.symm (hs₂.extBut _ _ D.i1z.symm hz₁))) ((h1₂.extBut hs₄.extBut D.i12).at λo e=>aD _ e) (h2₄.at λo e=>aD _ e) n1 (by rw[bB,hsz]) λc o c1 c3 c4 e=>aD _ (up c o c1 c3 c4 e)
theorem next_end {z TI TO i1 i2 l1 l2 T:Addr} {k1:Nat} {xs:Array Value} {f:Bool} {o:Obj} {Q:Fin→aE→Prop} (hh:A.handled=none) (D:cZ z TI TO i1 i2 l1 l2)
  (hz:IsZ s.heap z TI TO (bZ T) (.bool f)) (ho:s.heap.get? T=aA o) (hTI:bX s.heap TI (.ref i1) (.ref i2))
  (h1:s.heap.IsListIter i1 l1 k1) (hl1:s.heap.IsList l1 xs) (hend:xs[k1]?=none)
  (hE:∀h' e,(∀c o,c≠z→c≠i1→s.heap.get? c=aA o→h'.get? c=aA o)→(∃o,h'.get? e=aA o∧o.cls=.type "StopIteration")→E (.ref e) { s with heap:=h' }):
  aH `e A `ac Q E s:=by
 show aH _ _ (eB `p 2 >>=_) _ _ _
 refine aC (bC hz rfl (x:=.bool false) rfl ?_);show aH _ _ (eB `p 3 >>=_) _ _ _
 refine aC (bC hz rfl (x:=.ref TI) rfl ?_);refine aC (bQ hTI rfl ?_);show aH _ _ (bD `p >>=_) _ _ _
 refine aC (ye hz ho λh₁ hz₁ hs₁=>?_);simp only[abi,if_false];refine aC ?_;rw[←ac8];simp only[abq,abo];refine aC (aC (bK ?_));show aH _ _ (aX (.ref i1) >>=_) _ _ _
 exact aC (fG hh (h1.extBut hs₁.extBut D.i1z) (hl1.extBut hs₁.extBut D.l1z) hend λh₂ e hs₂ he=>hE h₂ e (λc o c1 c3 x=>hs₂ _ _ c3 (hs₁.extBut _ _ c1 x)) he)
end
end L2.Zd
namespace L2.Zg
open PySem L2.Zd
def Hf:Bool→Addr→Addr→Array Value→Nat→Heap→Prop
 | false,it,l,xs,k,h=>h.IsListIter it l k∧h.IsList l xs
 | true,it,l,xs,k,h=>h.IsTupleIter it l k∧h.IsTuple l xs
theorem Hf.keep {b:Bool} {it l:Addr} {xs:Array Value} {k:Nat} {h h':Heap} (x:Hf b it l xs k h) (g1:∀o,h.get? it=aA o→h'.get? it=aA o) (g2:∀o,h.get? l=aA o→h'.get? l=aA o):Hf b it l xs k h':=by
 cases b
 ·obtain ⟨⟨o,e,r⟩,⟨o',e',r'⟩⟩:=x;exact ⟨⟨o,g1 _ e,r⟩,⟨o',g2 _ e',r'⟩⟩
 ·obtain ⟨⟨o,e,r⟩,⟨o',e',r'⟩⟩:=x;exact ⟨⟨o,g1 _ e,r⟩,⟨o',g2 _ e',r'⟩⟩
section
variable {prog:aU} {w:bA} {A:bE} {E:Value→aE→Prop} {s:aE}
theorem Hf.next {b:Bool} {it l:Addr} {xs:Array Value} {k:Nat} {v:Value} {Q:Value→aE→Prop} (x:Hf b it l xs k s.heap) (hne:l≠it) (hx:xs[k]?=aA v)
  (hQ:∀h',Hf b it l xs (k+1) h'→bF it s.heap h'→Q v { s with heap:=h' }):aH `e A (aX (.ref it)) Q E s:=by
 cases b
 ·obtain ⟨x1,x2⟩:=x;exact eY x1 x2 hx λh' a b=>hQ h' ⟨a,x2.extBut b.extBut hne⟩ b
 ·obtain ⟨x1,x2⟩:=x;have ty:=x1.typeIs;obtain ⟨oi,hoi,ci,di⟩:=id x1;obtain ⟨ot,hot,_,nt,dt⟩:=id x2;unfold aX;refine aC (bI (name:=aB "__next__") ty dU (bL dU ty iP ?_ (iJ _)));show aH _ _ (eB (.ref it) 0 >>=_) _ _ s
  refine aC (bC hoi di (x:=.ref l) rfl ?_);show aH _ _ (if (aY l==bV)=true then _ else _) _ _ s
  rw[if_neg (show ¬((aY l==bV)=true) from aap)];show aH _ _ (eB (.ref it) 1 >>=_) _ _ s
  refine aC (bC hoi di (x:=.int k 0) rfl ?_);show aH _ _ (seqItems? `D >>=_) _ _ s
  refine aC (bQ hot dt ?_);simp only[ack,hx];refine aC (fH hoi di `b (aG ⟨v,rfl,aG (hQ _ ⟨⟨_,bR _ hoi (fI (dP di _)),(nP ..).trans ci,by rw[dP di];simp[bZ]⟩,x2.extBut (iH ..).extBut hne⟩ (iH ..))⟩))
theorem Hf.stop {b:Bool} {it l:Addr} {xs:Array Value} {k:Nat} {Q:Value→aE→Prop} (hh:A.handled=none) (x:Hf b it l xs k s.heap) (hx:xs[k]?=none)
  (hE:∀h' e,Heap.ExtBut it s.heap h'→(∃o,h'.get? e=aA o∧o.cls=.type "StopIteration")→E (.ref e) { s with heap:=h' }):aH `e A (aX (.ref it)) Q E s:=by
 cases b
 ·obtain ⟨x1,x2⟩:=x;exact fG hh x1 x2 hx hE
 ·obtain ⟨x1,x2⟩:=x;have ty:=x1.typeIs;obtain ⟨oi,hoi,ci,di⟩:=id x1;obtain ⟨ot,hot,_,nt,dt⟩:=id x2;unfold aX;refine aC (bI (name:=aB "__next__") ty dU (bL dU ty iP ?_ (iJ _)));show aH _ _ (eB (.ref it) 0 >>=_) _ _ s
  refine aC (bC hoi di (x:=.ref l) rfl ?_);show aH _ _ (if (aY l==bV)=true then _ else _) _ _ s
  rw[if_neg (show ¬((aY l==bV)=true) from aap)];show aH _ _ (eB (.ref it) 1 >>=_) _ _ s
  refine aC (bC hoi di (x:=.int k 0) rfl ?_);show aH _ _ (seqItems? `D >>=_) _ _ s
  refine aC (bQ hot dt ?_);simp only[ack,hx];refine aC (eU (aC (fH hoi di `b ?_)));show aH _ _ (newExc (.type "StopIteration") [] >>=_) _ _ _
  refine aC ?_;simp only[newExc,newTuple];refine aC (cO ?_ (by size_fits));refine aC (m:=firstArgMember _ _) (nS (a:=bV) (by first | rfl | (simp only[firstArgMember];rfl)) ?_);refine cO ?_ (by size_fits);simp only[raiseNew];refine aC (wpAny_handled ?_);first | rw[show A.in1.handled=none from hh] | rw[hh]
  refine aC (aG (wpAny_throw ?_));exact hE _ _ (((iH ..).extBut.push _).push _) ⟨_,aI _ rfl,rfl⟩
theorem free {z TI TO:Addr} {f0:Value} {b:Bool} {Q:Bool→aE→Prop} (hz:IsZ s.heap z TI TO f0 (.bool b)) (hf:f0=.none∨∃T:Addr,f0=bZ T)
  (q:∀r h' b',IsZ h' z TI TO f0 (.bool b')→bF z s.heap h'→Q r { s with heap:=h' }):aH `e A (bD `p) Q E s:=by
 rcases hf with rfl | ⟨T,rfl⟩
 ·unfold bD;refine aC (bC hz rfl (x:=.none) rfl (aG ?_));exact q true s.heap b hz (fD _ _)
 ·cases ho:s.heap.get? T with
  | some o=>exact ye hz ho λh' a c=>q false h' true a c
  | none=>
   unfold bD;refine aC (bC hz rfl (x:=bZ T) rfl ?_);show aH _ _ (kR T >>=_) _ _ _
   refine aC (alive ?_);rw[ho];exact aG (q true s.heap b hz (fD _ _))
end
def Zst (c1 c2:Bool) (z TI TO i1 i2 l1 l2:Addr) (xs ys:Array Value) (i:Nat) (h:Heap):Prop:=
 (∃f0 b,IsZ h z TI TO f0 (.bool b)∧(f0=.none∨∃T:Addr,f0=bZ T))∧(∃a b,bX h TO a b)∧bX h TI (.ref i1) (.ref i2)∧Hf c1 i1 l1 xs i h∧Hf c2 i2 l2 ys i h
theorem Zst.keep {c1 c2:Bool} {z TI TO i1 i2 l1 l2:Addr} {xs ys:Array Value} {i:Nat} {h h':Heap} (x:Zst c1 c2 z TI TO i1 i2 l1 l2 xs ys i h) (k:∀c∈[z,TI,TO,i1,i2],∀o,h.get? c=aA o→h'.get? c=aA o) (k1:∀o,h.get? l1=aA o→h'.get? l1=aA o) (k2:∀o,h.get? l2=aA o→h'.get? l2=aA o):Zst c1 c2 z TI TO i1 i2 l1 l2 xs ys i h':=by
 obtain ⟨⟨f0,b,a1,a2⟩,⟨p,q,a3⟩,a4,a5,a6⟩:=x;exact ⟨⟨f0,b,k z `b _ a1,a2⟩,⟨p,q,k TO `b _ a3⟩,k TI `b _ a4,a5.keep (k i1 `b) k1,a6.keep (k i2 `b) k2⟩
section
variable {prog:aU} {w:bA} {A:bE} {E:Value→aE→Prop} {s:aE} {c1 c2:Bool} {z TI TO i1 i2 l1 l2:Addr} {xs ys:Array Value} {i:Nat}
theorem item {x y:Value} {Q:Value→aE→Prop} (D:cZ z TI TO i1 i2 l1 l2) (hz:Zst c1 c2 z TI TO i1 i2 l1 l2 xs ys i s.heap) (hx:xs[i]?=aA x) (hy:ys[i]?=aA y)
  (hQ:∀h',Zst c1 c2 z TI TO i1 i2 l1 l2 xs ys (i+1) h'→bX h' s.heap.objs.size x y→h'.objs.size=s.heap.objs.size+1→(∀c o,c≠z→c≠TO→c≠i1→c≠i2→s.heap.get? c=aA o→h'.get? c=aA o)→Q `m { s with heap:=h' }):
  aH `e A `ac (λfin s'=>∃v,fin=.done (.ret v)∧Q v s') E s:=by
 obtain ⟨⟨f0,b,z0,hf⟩,⟨p,q,hTO⟩,hTI,h1,h2⟩:=hz;show aH _ _ (eB `p 2 >>=_) _ _ _
 refine aC (bC z0 rfl (x:=.bool false) rfl ?_);show aH _ _ (eB `p 3 >>=_) _ _ _
 refine aC (bC z0 rfl (x:=.ref TI) rfl ?_);refine aC (bQ hTI rfl ?_);show aH _ _ (bD `p >>=_) _ _ _
 refine aC (free z0 hf λr h₁ b1 z1 s1=>?_);have k1:∀c o,c≠z→s.heap.get? c=aA o→h₁.get? c=aA o:=λc o n e=>s1.extBut _ _ n e;have H1:=h1.keep (λo e=>k1 _ o D.i1z e) λo e=>k1 _ o D.l1z e;have H2:=h2.keep (λo e=>k1 _ o D.i2z e) λo e=>k1 _ o D.l2z e;cases r with
 | false=>
  simp only[abi,if_false];refine aC ?_;rw[←ac8];simp only[abq,abo];refine aC (aC (bK ?_));show aH _ _ (aX (.ref i1) >>=_) _ _ _
  refine aC (H1.next (s:={ s with heap:=h₁ }) D.l1i1 hx λh₂ H1' s2=>aG (aG ?_));have s2:bF i1 h₁ h₂:=s2;have H2':=H2.keep (λo e=>s2.extBut _ _ D.i12.symm e) λo e=>s2.extBut _ _ D.l2i1 e;refine aC (aC (bK ?_));show aH _ _ (aX (.ref i2) >>=_) _ _ _
  refine aC (H2'.next (s:={ s with heap:=h₂ }) D.l2i2 hy λh₃ H2'' s3=>aG (aG (aG ?_)));have s3:bF i2 h₂ h₃:=s3;refine aC (gN (hsz:=by show (2:Nat)≤sizeLine;decide) ?_);have sz:h₃.objs.size=s.heap.objs.size:=by rw[s3.1,s2.1,s1.1]
  have up:∀c o,c≠z→c≠i1→c≠i2→s.heap.get? c=aA o→(h₃.push { cls:=.type "tuple",data:=.seq #[x,y] }).get? c=aA o:=λc o n1 n2 n3 e=>aD _ (s3.extBut _ _ n3 (s2.extBut _ _ n2 (s1.extBut _ _ n1 e)));refine aG ⟨_,rfl,?_⟩;rw[sz];refine hQ _ ⟨⟨f0,b1,aD _ (s3.extBut _ _ D.i2z.symm (s2.extBut _ _ D.i1z.symm z1)),hf⟩,⟨p,q,up _ _ D.TOz D.TOi1 D.TOi2 hTO⟩,up _ _ D.TIz D.TIi1 D.TIi2 hTI,?_,H2''.keep (λo e=>aD _ e) λo e=>aD _ e⟩ ?_ (by rw[bB,sz]) λc o n1 _ n3 n4 e=>up c o n1 n3 n4 e
  ·exact H1'.keep (λo e=>aD _ (s3.extBut _ _ D.i12 e)) λo e=>aD _ (s3.extBut _ _ D.l1i2 e)
  ·rw[←sz];exact aI _ rfl
 | true=>
  simp only[if_true];refine aC (eU ?_);refine aC (bC z1 rfl (x:=.ref TO) rfl ?_);refine aC (bT z1 `b λh₂ z2 s2=>?_);replace z2:IsZ h₂ z TI TO .ellipsis (.bool b1):=z2
  have s2:bF z h₁ h₂:=s2;refine aC ?_;simp only[ad8,adj,abq,abo];have H1a:=H1.keep (λo e=>s2.extBut _ _ D.i1z e) λo e=>s2.extBut _ _ D.l1z e;have H2a:=H2.keep (λo e=>s2.extBut _ _ D.i2z e) λo e=>s2.extBut _ _ D.l2z e;refine aC (aC (eP ?_));show aH _ _ (aX (.ref i1) >>=_) _ _ _
  refine aC (H1a.next (s:={ s with heap:=h₂ }) D.l1i1 hx λh₃ H1b s3=>aG ?_);have s3:bF i1 h₂ h₃:=s3;have o3:bX h₃ TO p q:=s3.extBut _ _ D.TOi1 (s2.extBut _ _ D.TOz (k1 _ _ D.TOz hTO));refine aC (bQ o3 rfl ?_);refine aC (fP o3 λh₄ o4 s4=>?_);replace o4:bX h₄ TO x q:=o4
  have s4:bF TO h₃ h₄:=s4;refine aC (fW (aG ?_));have H2b:=H2a.keep (λo e=>s4.extBut _ _ D.TOi2.symm (s3.extBut _ _ D.i12.symm e)) λo e=>s4.extBut _ _ D.l2TO (s3.extBut _ _ D.l2i1 e);refine aC (aC (eP ?_));show aH _ _ (aX (.ref i2) >>=_) _ _ _
  refine aC (H2b.next (s:={ s with heap:=h₄ }) D.l2i2 hy λh₅ H2c s5=>aG ?_);have s5:bF i2 h₄ h₅:=s5;have o5:bX h₅ TO x q:=s5.extBut _ _ D.TOi2 o4;refine aC (bQ o5 rfl ?_);refine aC (fP o5 λh₆ o6 s6=>?_);replace o6:bX h₆ TO x y:=o6
  have s6:bF TO h₅ h₆:=s6;refine aC (fW (aG (aG ?_)));refine aC (bQ o6 rfl ?_);refine aC (gN ?_);have sz:h₆.objs.size=s.heap.objs.size:=by rw[s6.1,s5.1,s4.1,s3.1,s2.1,s1.1]
  have z6:IsZ h₆ z TI TO .ellipsis (.bool b1):=s6.extBut _ _ D.TOz.symm (s5.extBut _ _ D.i2z.symm (s4.extBut _ _ D.TOz.symm (s3.extBut _ _ D.i1z.symm z2)));have up:∀c o,c≠z→c≠TO→c≠i1→c≠i2→s.heap.get? c=aA o→h₆.get? c=aA o:=λc o n1 n2 n3 n4 e=>s6.extBut _ _ n2 (s5.extBut _ _ n4 (s4.extBut _ _ n2 (s3.extBut _ _ n3 (s2.extBut _ _ n1 (k1 _ _ n1 e)))));have H1c:=H1b.keep (λo e=>s6.extBut _ _ D.TOi1.symm (s5.extBut _ _ D.i12 (s4.extBut _ _ D.TOi1.symm e))) λo e=>s6.extBut _ _ D.l1TO (s5.extBut _ _ D.l1i2 (s4.extBut _ _ D.l1TO e));have H2d:=H2c.keep (λo e=>s6.extBut _ _ D.TOi2.symm e) λo e=>s6.extBut _ _ D.l2TO e;have zl:z < h₆.objs.size:=aJ z6;show aH _ _ (cS `p (.ref h₆.objs.size) >>=_) _ _ _
  refine aC ?_;unfold cS;have z7:IsZ (h₆.push { cls:=.type "tuple",data:=.seq #[x,y] }) z TI TO .ellipsis (.bool b1):=aD _ z6;refine aC (bT z7 `b λh₈ z8 s8=>?_);replace z8:IsZ h₈ z TI TO (bZ h₆.objs.size) (.bool b1):=z8
  refine bT z8 `b λh₉ z9 s9=>?_;replace z9:IsZ h₉ z TI TO (bZ h₆.objs.size) (.bool false):=z9
  have u9:∀c o,c≠z→h₆.get? c=aA o→h₉.get? c=aA o:=λc o n e=>s9.extBut _ _ n (s8.extBut _ _ n (aD _ e));have t9:bX h₉ h₆.objs.size x y:=s9.extBut _ _ (ab4 zl) (s8.extBut _ _ (ab4 zl) (aI _ rfl));have n9:h₉.objs.size=h₆.objs.size+1:=by rw[s9.1,s8.1,bB]
  rw[sz] at z9 t9 n9;refine aG ⟨_,rfl,?_⟩;show Q (.ref h₆.objs.size) _
  rw[sz];exact hQ h₉ ⟨⟨_,false,z9,.inr ⟨_,rfl⟩⟩,⟨x,y,u9 _ _ D.TOz o6⟩,u9 _ _ D.TIz (up _ _ D.TIz D.TITO D.TIi1 D.TIi2 hTI),H1c.keep (λo e=>u9 _ o D.i1z e) λo e=>u9 _ o D.l1z e,H2d.keep (λo e=>u9 _ o D.i2z e) λo e=>u9 _ o D.l2z e⟩ t9 n9 λc o n1 n2 n3 n4 e=>u9 c o n1 (up c o n1 n2 n3 n4 e)
theorem fin {Q:Fin→aE→Prop} (hh:A.handled=none) (D:cZ z TI TO i1 i2 l1 l2) (hz:Zst c1 c2 z TI TO i1 i2 l1 l2 xs ys i s.heap) (hx:xs[i]?=none)
  (hE:∀h' e,(∀c o,c≠z→c≠TO→c≠i1→c≠i2→s.heap.get? c=aA o→h'.get? c=aA o)→(∃o,h'.get? e=aA o∧o.cls=.type "StopIteration")→E (.ref e) { s with heap:=h' }):
  aH `e A `ac Q E s:=by
 obtain ⟨⟨f0,b,z0,hf⟩,⟨p,q,hTO⟩,hTI,h1,h2⟩:=hz;show aH _ _ (eB `p 2 >>=_) _ _ _
 refine aC (bC z0 rfl (x:=.bool false) rfl ?_);show aH _ _ (eB `p 3 >>=_) _ _ _
 refine aC (bC z0 rfl (x:=.ref TI) rfl ?_);refine aC (bQ hTI rfl ?_);show aH _ _ (bD `p >>=_) _ _ _
 refine aC (free z0 hf λr h₁ b1 z1 s1=>?_);have k1:∀c o,c≠z→s.heap.get? c=aA o→h₁.get? c=aA o:=λc o n e=>s1.extBut _ _ n e;have H1:=h1.keep (λo e=>k1 _ o D.i1z e) λo e=>k1 _ o D.l1z e;cases r with
 | false=>
  simp only[abi,if_false];refine aC ?_;rw[←ac8];simp only[abq,abo];refine aC (aC (bK ?_));show aH _ _ (aX (.ref i1) >>=_) _ _ _
  exact aC (H1.stop (s:={ s with heap:=h₁ }) hh hx λh₂ e s2 he=>hE h₂ e (λc o n1 _ n3 _ g=>s2 _ _ n3 (k1 _ _ n1 g)) he)
 | true=>
  simp only[if_true];refine aC (eU ?_);refine aC (bC z1 rfl (x:=.ref TO) rfl ?_);refine aC (bT z1 `b λh₂ z2 s2=>?_);replace z2:IsZ h₂ z TI TO .ellipsis (.bool b1):=z2
  have s2:bF z h₁ h₂:=s2;refine aC ?_;simp only[ad8,adj,abq,abo];have H1a:=H1.keep (λo e=>s2.extBut _ _ D.i1z e) λo e=>s2.extBut _ _ D.l1z e;refine aC (aC (eP ?_));show aH _ _ (aX (.ref i1) >>=_) _ _ _
  refine aC (H1a.stop (s:={ s with heap:=h₂ }) hh hx λh₃ e s3 he=>?_);obtain ⟨oe,hoe,hce⟩:=he;have z3:IsZ h₃ z TI TO .ellipsis (.bool b1):=s3 _ _ D.i1z.symm z2;have hez:e≠z:=λx=>by subst x;rw[z3] at hoe;cases hoe;simp at hce
  exact bT z3 `b λh₄ _ s4=>hE h₄ e (λc o n1 _ n3 _ g=>s4.extBut _ _ n1 (s3 _ _ n3 (s2.extBut _ _ n1 (k1 _ _ n1 g)))) ⟨oe,s4.extBut _ _ hez hoe,hce⟩
theorem pyItem {x y:Value} {Q:Option Value→aE→Prop} (D:cZ z TI TO i1 i2 l1 l2) (hz:Zst c1 c2 z TI TO i1 i2 l1 l2 xs ys i s.heap) (hx:xs[i]?=aA x) (hy:ys[i]?=aA y)
  (hQ:∀h',Zst c1 c2 z TI TO i1 i2 l1 l2 xs ys (i+1) h'→bX h' s.heap.objs.size x y→h'.objs.size=s.heap.objs.size+1→(∀c o,c≠z→c≠TO→c≠i1→c≠i2→s.heap.get? c=aA o→h'.get? c=aA o)→Q (aA `m) { s with heap:=h' }):
  aH `e A (cV `p) Q E s:=by
 have hT:s.TypeIs `p "zip":=by obtain ⟨⟨f0,b,z0,_⟩,_⟩:=hz;exact ⟨_,z0,rfl⟩
 unfold cV;exact aC (dJ (bI (name:=aB "__next__") hT bY (bL bY hT eJ (item D hz hx hy λh' a b c d=>aG (hQ h' a b c d)) (dX _))))
theorem pyFin {Q:Option Value→aE→Prop} (hh:A.handled=none) (D:cZ z TI TO i1 i2 l1 l2) (hz:Zst c1 c2 z TI TO i1 i2 l1 l2 xs ys i s.heap) (hx:xs[i]?=none)
  (hQ:∀h',(∀c o,c≠z→c≠TO→c≠i1→c≠i2→s.heap.get? c=aA o→h'.get? c=aA o)→Q none { s with heap:=h' }):aH `e A (cV `p) Q E s:=by
 have hT:s.TypeIs `p "zip":=by obtain ⟨⟨f0,b,z0,_⟩,_⟩:=hz;exact ⟨_,z0,rfl⟩
 unfold cV;refine aC (dJ (bI (name:=aB "__next__") hT bY (bL bY hT eJ (fin (by first | exact hh | simp[hh]) D hz hx λh' e hk he=>?_) (dX _))));obtain ⟨o,ho,hc⟩:=he;refine aC (dN (T:="StopIteration") (b:=true) ⟨o,ho,hc⟩ fJ ?_);exact aG (hQ _ hk)
theorem pySelf {Q:Value→aE→Prop} (hz:Zst c1 c2 z TI TO i1 i2 l1 l2 xs ys i s.heap) (h:Q `p s):aH `e A (iO `p) Q E s:=by
 have hT:s.TypeIs `p "zip":=by obtain ⟨⟨f0,b,z0,_⟩,_⟩:=hz;exact ⟨_,z0,rfl⟩
 refine gU hT dH (bL dH hT hZ ?_ (gV _));show aH _ _ (ret `p) _ _ s
 exact aG ⟨_,rfl,"zip",_,hT,F.slot_zip_next.lookup,h⟩
end
theorem new_tl (l1 l2:Addr) (xs ys:Array Value):
  Meets (cN.«zip.__new__» ⟨[.type "zip",.ref l1,.ref l2],[]⟩) (λ_ R s=>s.heap.IsTuple l1 xs∧s.heap.IsList l2 ys∧
   R (.ok (.ret `bb)) { s with heap:=((((s.heap.push { cls:=.type "tuple_iterator",data:=.fields #[.ref l1,.int 0 0] }).push { cls:=.type "list_iterator",data:=.fields #[.ref l2,.int 0 0] }).push { cls:=.type "tuple",data:=.seq #[.ref s.heap.objs.size,.ref (s.heap.objs.size+1)] }).push { cls:=.type "tuple",data:=.seq #[.none,.none] }).push { cls:=.type "zip",data:=.fields #[.none,.bool false,.bool false,.ref (s.heap.objs.size+2),.ref (s.heap.objs.size+3)] } }):=
 .of_wp λprog w A R s h=>by
  obtain ⟨hp,g,d,tk,os⟩:=s;obtain ⟨hl1,hl2,h⟩:=h;have hsub:=sub_zip;have hL1:jH (fX ⟨hp,g,d,tk,os⟩) l1 xs:=hl1;have hL2:Heap.IsList (fX ⟨hp.push { cls:=.type "tuple_iterator",data:=.fields #[.ref l1,.int 0 0] },g,d,tk,os⟩) l2 ys:=Heap.IsList.push hl2 _;simp only[←bB] at h;wp_walk using dA hL1,dW hL2
  simp only[bB] at h ⊢;exact ⟨_,rfl,h⟩
section
variable {prog:aU} {w:bA} {A:bE} {E:Value→aE→Prop} {s:aE}
theorem Tu {l1 l2:Addr} {xs ys:Array Value} {Q:Value→aE→Prop} (hl1:s.heap.IsTuple l1 xs) (hl2:s.heap.IsList l2 ys)
  (h:∀h',Zst true false (s.heap.objs.size+4) (s.heap.objs.size+2) (s.heap.objs.size+3) s.heap.objs.size (s.heap.objs.size+1) l1 l2 xs ys 0 h'→h'.objs.size=s.heap.objs.size+5→
   (∀c o,s.heap.get? c=aA o→h'.get? c=aA o)→Q `bb { s with heap:=h' }):
  aH `e A (call (.type "zip") [.ref l1,.ref l2]) Q E s:=by
 refine nF F.called_zip `a (F.typeCall_zip_2 _ _) (F.newCall_zip_2 _ _) (λobj=>lY obj _ _) F.entry_zip_new (new_tl l1 l2 xs ys) ⟨hl1,hl2,?_⟩;generalize hn:s.heap.objs.size=n at h ⊢;have e1:(s.heap.push { cls:=.type "tuple_iterator",data:=.fields #[.ref l1,.int 0 0] }).get? n=aA { cls:=.type "tuple_iterator",data:=.fields #[.ref l1,.int 0 0] }:=by rw[←hn];exact aI _ rfl
 have n1:(s.heap.push { cls:=.type "tuple_iterator",data:=.fields #[.ref l1,.int 0 0] }).objs.size=n+1:=by rw[bB,hn]
 have k1:∀c o,s.heap.get? c=aA o→(s.heap.push { cls:=.type "tuple_iterator",data:=.fields #[.ref l1,.int 0 0] }).get? c=aA o:=λc o e=>aD _ e;generalize s.heap.push { cls:=.type "tuple_iterator",data:=.fields #[.ref l1,.int 0 0] }=h1 at e1 n1 k1 ⊢;have e2:(h1.push { cls:=.type "list_iterator",data:=.fields #[.ref l2,.int 0 0] }).get? (n+1)=aA { cls:=.type "list_iterator",data:=.fields #[.ref l2,.int 0 0] }:=by rw[←n1];exact aI _ rfl
 have n2:(h1.push { cls:=.type "list_iterator",data:=.fields #[.ref l2,.int 0 0] }).objs.size=n+2:=by rw[bB,n1]
 have k2:∀c o,h1.get? c=aA o→(h1.push { cls:=.type "list_iterator",data:=.fields #[.ref l2,.int 0 0] }).get? c=aA o:=λc o e=>aD _ e;generalize h1.push { cls:=.type "list_iterator",data:=.fields #[.ref l2,.int 0 0] }=h2 at e2 n2 k2 ⊢;have e3:(h2.push { cls:=.type "tuple",data:=.seq #[.ref n,.ref (n+1)] }).get? (n+2)=aA { cls:=.type "tuple",data:=.seq #[.ref n,.ref (n+1)] }:=by rw[←n2];exact aI _ rfl
 have n3:(h2.push { cls:=.type "tuple",data:=.seq #[.ref n,.ref (n+1)] }).objs.size=n+3:=by rw[bB,n2]
 have k3:∀c o,h2.get? c=aA o→(h2.push { cls:=.type "tuple",data:=.seq #[.ref n,.ref (n+1)] }).get? c=aA o:=λc o e=>aD _ e;generalize h2.push { cls:=.type "tuple",data:=.seq #[.ref n,.ref (n+1)] }=h3 at e3 n3 k3 ⊢;have e4:(h3.push { cls:=.type "tuple",data:=.seq #[.none,.none] }).get? (n+3)=aA { cls:=.type "tuple",data:=.seq #[.none,.none] }:=by rw[←n3];exact aI _ rfl
 have n4:(h3.push { cls:=.type "tuple",data:=.seq #[.none,.none] }).objs.size=n+4:=by rw[bB,n3]
 have k4:∀c o,h3.get? c=aA o→(h3.push { cls:=.type "tuple",data:=.seq #[.none,.none] }).get? c=aA o:=λc o e=>aD _ e;generalize h3.push { cls:=.type "tuple",data:=.seq #[.none,.none] }=h4 at e4 n4 k4 ⊢;have e5:(h4.push { cls:=.type "zip",data:=.fields #[.none,.bool false,.bool false,.ref (n+2),.ref (n+3)] }).get? (n+4)=aA { cls:=.type "zip",data:=.fields #[.none,.bool false,.bool false,.ref (n+2),.ref (n+3)] }:=by rw[←n4];exact aI _ rfl
 have n5:(h4.push { cls:=.type "zip",data:=.fields #[.none,.bool false,.bool false,.ref (n+2),.ref (n+3)] }).objs.size=n+5:=by rw[bB,n4]
 have k5:∀c o,h4.get? c=aA o→(h4.push { cls:=.type "zip",data:=.fields #[.none,.bool false,.bool false,.ref (n+2),.ref (n+3)] }).get? c=aA o:=λc o e=>aD _ e;generalize h4.push { cls:=.type "zip",data:=.fields #[.none,.bool false,.bool false,.ref (n+2),.ref (n+3)] }=h5 at e5 n5 k5 ⊢;have up:∀c o,s.heap.get? c=aA o→h5.get? c=aA o:=λc o e=>k5 _ _ (k4 _ _ (k3 _ _ (k2 _ _ (k1 _ _ e))));obtain ⟨o1,g1,r1⟩:=hl1;obtain ⟨o2,g2,r2⟩:=hl2;exact ⟨⟨_,e5,rfl⟩,h _ ⟨⟨.none,false,e5,.inl rfl⟩,⟨_,_,k5 _ _ e4⟩,k5 _ _ (k4 _ _ e3),⟨⟨_,k5 _ _ (k4 _ _ (k3 _ _ (k2 _ _ e1))),rfl,rfl⟩,⟨o1,up _ _ g1,r1⟩⟩,⟨⟨_,k5 _ _ (k4 _ _ (k3 _ _ e2)),rfl,rfl⟩,⟨o2,up _ _ g2,r2⟩⟩⟩ n5 up⟩
theorem Vi {l1 l2:Addr} {xs ys:Array Value} {Q:Value→aE→Prop} (hl1:s.heap.IsList l1 xs) (hl2:s.heap.IsList l2 ys)
  (h:∀h',Zst false false (s.heap.objs.size+4) (s.heap.objs.size+2) (s.heap.objs.size+3) s.heap.objs.size (s.heap.objs.size+1) l1 l2 xs ys 0 h'→h'.objs.size=s.heap.objs.size+5→
   (∀c o,s.heap.get? c=aA o→h'.get? c=aA o)→Q `bb { s with heap:=h' }):
  aH `e A (call (.type "zip") [.ref l1,.ref l2]) Q E s:=
 call_zip_2 hl1 hl2 λh' a1 a2 a3 a4 a5 a6 keep=>h h' ⟨⟨.none,false,a1,.inl rfl⟩,⟨_,_,a3⟩,a2,⟨a4,hl1.at λo e=>keep _ o e⟩,⟨a5,hl2.at λo e=>keep _ o e⟩⟩ a6 keep
end
structure Mk (xs ys:Array Value) (lo:Addr) (h:Heap) (as:List Addr):Prop where
 nd:as.Nodup
 up:∀a∈as,lo < a
 at':∀(j:Nat) (a:Addr),as[j]?=aA a→∃x y,xs[j]?=aA x∧ys[j]?=aA y∧bX h a x y
section
variable {prog:aU} {w:bA} {A:bE} {s:aE} {R:iE→aE→Prop} {c1 c2:Bool} {z TI TO i1 i2 l1 l2 S:Addr} {xs ys:Array Value}
theorem loop (hh:A.handled=none) (D:cZ z TI TO i1 i2 l1 l2) (hS:S∉[z,TI,TO,i1,i2,l1,l2]) (lo:Addr) (hlo:z≤lo∧TO≤lo∧i1≤lo∧i2≤lo∧S≤lo) (hn:xs.size=ys.size) (hz:xs.size≤sizeLine) (res:Value) {h₁:Heap}
  (hR:∀h' tk acc c as,(∀b o,b∉[S,z,TO,i1,i2]→h₁.get? b=aA o→h'.get? b=aA o)→h'.get? S=aA { cls:=.type "list",dict:=none,data:=.seq acc c,slots:=#[] }→as.length=xs.size→Mk xs ys lo h' as→
   acc.toList=as.map aY→R (.ok (.ret res)) { s with heap:=h',toks:=tk }):
  ∀(k i:Nat) (h:Heap) (tk c:Nat) (acc:Array Value) (as:List Addr),xs.size - i=k→i≤xs.size→Zst c1 c2 z TI TO i1 i2 l1 l2 xs ys i h→(∀b o,b∉[S,z,TO,i1,i2]→h₁.get? b=aA o→h.get? b=aA o)→
   h.get? S=aA { cls:=.type "list",dict:=none,data:=.seq acc c,slots:=#[] }→acc.toList=as.map aY→as.length=i→Mk xs ys lo h as→lo < h.objs.size→
   dM `e A (.builtin "list.extend.loop" ⟨[.ref S,.ref z,res],[]⟩) R { s with heap:=h,toks:=tk }:=by
 simp only[aam,aac,or_false,not_or] at hS;obtain ⟨Sz,STI,STO,S1,S2,Sl1,Sl2⟩:=hS;intro k;induction k with
 | zero=>
  intro i h tk c acc as hk hi hst hkeep hSl hacc hal hG hIs;refine eV jA ?_;rw[fQ dF _];show aH _ A.in1 (cV `p >>=_) _ _ _
  refine aC (pyFin (s:={ s with heap:=h,toks:=tk }) (A:=A.in1) hh D hst (abz (by omega)) λh' he=>?_);refine aG (hR h' tk acc c as (λb o hb e=>?_) (he S _ Sz STO S1 S2 hSl) (by omega) ⟨hG.nd,hG.up,λj a hj=>?_⟩ hacc)
  ·have hb':=hb;simp only[aam,aac,or_false,not_or] at hb';exact he b o hb'.2.1 hb'.2.2.1 hb'.2.2.2.1 hb'.2.2.2.2 (hkeep b o hb e)
  ·obtain ⟨x,y,g1,g2,g3⟩:=hG.at' j a hj;have u:=hG.up a (aai hj);have ne:∀{c:Addr},c≤lo→a≠c:=λq=>ab4 (ac0 q u);exact ⟨x,y,g1,g2,he a _ (ne hlo.1) (ne hlo.2.1) (ne hlo.2.2.1) (ne hlo.2.2.2.1) g3⟩
 | succ k ih=>
  intro i h tk c acc as hk hi hst hkeep hSl hacc hal hG hIs;have hlt:i < xs.size:=by omega
  have hsz:acc.size=i:=by rw[←abf,hacc,aa0,hal]
  refine eV jA ?_;rw[fQ dF _];show aH _ A.in1 (cV `p >>=_) _ _ _
  refine aC (pyItem (s:={ s with heap:=h,toks:=tk }) D hst (aat hlt) (aat (by omega)) λh' hst' ht hz' hkp=>?_);dsimp only at ht hz' hkp ⊢;have hS':=hkp S _ Sz STO S1 S2 hSl;have up:∀b o,b≠S→h'.get? b=aA o→(h'.update S (cR (·.push (aY h.objs.size)))).get? b=aA o:=λb o hb e=>(bO _ _ (cE hb)).trans e;have hSs:S < h.objs.size:=aJ hSl;show aH _ A.in1 (jU S (·.push (aY h.objs.size)) >>=_) _ _ _
  refine aC ?_;refine gB hS' rfl (aG ⟨hV dF _,ih (i+1) _ tk _ (acc.push (aY h.objs.size)) (as++[h.objs.size]) (by omega) hlt
   (hst'.keep (λb hb o e=>up b o (λx=>by subst x;simp only[aam,aac,or_false] at hb;rcases hb with q | q | q | q | q <;> exact absurd q (by assumption)) e) (λo e=>up _ o (cE Sl1) e) λo e=>up _ o (cE Sl2) e)
   (λb o hb e=>?_) (bR _ hS' rfl) (by rw[Array.toList_push,hacc,aaa];rfl) (by rw[aa2,hal];rfl) ⟨?_,?_,?_⟩ ?_⟩) (by rw[hsz];omega) (by show (acc.push (aY h.objs.size)).size≤sizeLine+1;rw[Array.size_push,hsz];omega)
  ·have hb':=hb;simp only[aam,aac,or_false,not_or] at hb';exact up b o hb'.1 (hkp b o hb'.2.1 hb'.2.2.1 hb'.2.2.2.1 hb'.2.2.2.2 (hkeep b o hb e))
  ·refine List.nodup_append.mpr ⟨hG.nd,`b,λa ha b hb=>?_⟩;rw[List.mem_singleton.mp hb];obtain ⟨j,hj⟩:=List.mem_iff_getElem?.mp ha;obtain ⟨_,_,_,_,e3⟩:=hG.at' j a hj;exact aal (aJ e3)
  ·intro a ha;rcases List.mem_append.mp ha with ha | ha
   ·exact hG.up a ha
   ·rw[List.mem_singleton.mp ha];exact hIs
  ·intro j b hj;rcases Nat.lt_trichotomy j as.length with g | g | g
   ·rw[aak g] at hj;obtain ⟨x,y,e1,e2,e3⟩:=hG.at' j b hj;have u:=hG.up b (aai hj);have ne:∀{c:Addr},c≤lo→b≠c:=λq=>ab4 (ac0 q u);exact ⟨x,y,e1,e2,up b _ (ne hlo.2.2.2.2) (hkp b _ (ne hlo.1) (ne hlo.2.1) (ne hlo.2.2.1) (ne hlo.2.2.2.1) e3)⟩
   ·subst g;have hb:h.objs.size=b:=by simpa using hj
    subst hb;exact ⟨_,_,by rw[hal];exact aat hlt,by rw[hal];exact aat (by omega),up _ _ (ab4 hSs) ht⟩
   ·have hnone:(as++[h.objs.size])[j]?=none:=abt (by rw[aa2,aa5];omega);rw[hnone] at hj;cases hj
  ·rw[iA,hz'];exact abw hIs
end
theorem Ia:dZ (.type "zip") "__len__"=pure none:=by rw[eW,dD];kernel_rfl
theorem Ud:dZ (.type "zip") "__length_hint__"=pure none:=by rw[eW,dD];kernel_rfl
section
variable {prog:aU} {w:bA} {A:bE} {E:Value→aE→Prop} {s:aE} {c1 c2:Bool} {z TI TO i1 i2 l1 l2:Addr} {xs ys:Array Value}
theorem extend {R:iE→aE→Prop} (hh:A.handled=none) (D:cZ z TI TO i1 i2 l1 l2) (hz:Zst c1 c2 z TI TO i1 i2 l1 l2 xs ys 0 s.heap) (S:Addr) (hS:S∉[z,TI,TO,i1,i2,l1,l2]) (lo:Addr) (hlo:z≤lo∧TO≤lo∧i1≤lo∧i2≤lo∧S≤lo) (hls:lo < s.heap.objs.size) (hn:xs.size=ys.size) (hsz:xs.size≤sizeLine) (res:Value) (c₀:Nat) (hSl:s.heap.get? S=aA { cls:=.type "list",data:=.seq #[] c₀ })
  (hR:∀h' tk acc c as,(∀b o,b∉[S,z,TO,i1,i2]→s.heap.get? b=aA o→h'.get? b=aA o)→h'.get? S=aA { cls:=.type "list",dict:=none,data:=.seq acc c,slots:=#[] }→as.length=xs.size→Mk xs ys lo h' as→
   acc.toList=as.map aY→R (.ok (.ret res)) { s with heap:=h',toks:=tk }):
  aH `e A.in1 (bU (.ref S) `p res)
   (λfin s'=>match fin with | .done f=>R (.ok f) s' | .again c'=>c'.quiet=true∧dM `e A c' R s') (λe s'=>R (.error e) s') s:=by
 have hT:s.TypeIs `p "zip":=by obtain ⟨⟨f0,b,z0,_⟩,_⟩:=hz;exact ⟨_,z0,rfl⟩
 have hSz:S≠z:=λe=>hS (by simp[e]);unfold bU;refine aC (fF hT ?_);have h1:eL (.ref S) `p=false:=by simp[eL,hSz]
 have h2:(cX "zip"==cX "list")=false:=by decide
 have h3:(cX "zip"==cX "tuple")=false:=by decide
 simp only[h1,h2,h3,adq,abi,if_false];refine aC (pySelf hz ?_);refine aC (bK ?_);unfold fO;refine aC (gA hT Ia ?_);show aH _ A.in1 (specialOf (aY z) (aB "__length_hint__") >>=_) _ _ _
 refine aC (gA hT Ud ?_);refine aG ?_;show aH _ A.in1 (rule "list.extend.makes-room" >>=λ_=>Builtin.List.listTouch (.ref S) >>=λ_=>again (.builtin "list.extend.loop" ⟨[.ref S,.ref z,res],[]⟩)) _ _ _
 refine aC (eU ?_);refine aC ?_;show aH _ A.in1 (jU S (·.push .none) >>=λ_=>jU S (·.pop)) _ _ _
 refine aC (gB hSl rfl ?_);have hS₂:=bR (cR (·.push bV)) hSl rfl;refine gB (hz:=by seq_fits) hS₂ rfl ?_;have hS₃:=bR (cR (·.pop)) hS₂ rfl;have oth:∀b o,b≠S→s.heap.get? b=aA o→((s.heap.update S (cR (·.push bV))).update S (cR (·.pop))).get? b=aA o:=λb o hb e=>(bO _ _ (cE hb)).trans ((bO _ _ (cE hb)).trans e);have hS':=hS;simp only[aam,aac,or_false,not_or] at hS';refine aG ⟨hV dF _,loop (s:=s) (h₁:=s.heap) hh D hS lo hlo hn hsz res hR xs.size 0 _ _ _ #[] [] (aeb _) (aag _) (hz.keep (λb hb o e=>oth b o (λx=>?_) e) (λo e=>oth _ o (cE hS'.2.2.2.2.2.1) e) λo e=>oth _ o (cE hS'.2.2.2.2.2.2) e) (λb o hb e=>oth b o (λx=>hb (by simp[x])) e) hS₃ rfl rfl ⟨ad3,(λ_ ha=>nomatch ha),(λj a hj=>by simp at hj)⟩ ?_⟩
 ·subst x;simp only[aam,aac,or_false] at hb;rcases hb with q | q | q | q | q
  ·exact hS'.1 q
  ·exact hS'.2.1 q
  ·exact hS'.2.2.1 q
  ·exact hS'.2.2.2.1 q
  ·exact hS'.2.2.2.2.1 q
 ·rw[iA,iA];exact hls
theorem Rt {Q:Value→aE→Prop} (hh:A.handled=none) (D:cZ z TI TO i1 i2 l1 l2) (hz:Zst c1 c2 z TI TO i1 i2 l1 l2 xs ys 0 s.heap) (hlt:∀b∈[z,TI,TO,i1,i2,l1,l2],b < s.heap.objs.size) (hn:xs.size=ys.size) (hsz:xs.size≤sizeLine)
  (hQ:∀h' tk acc c as,(∀b o,b∉[z,TO,i1,i2]→s.heap.get? b=aA o→h'.get? b=aA o)→h'.get? s.heap.objs.size=aA { cls:=.type "list",dict:=none,data:=.seq acc c,slots:=#[] }→as.length=xs.size→Mk xs ys s.heap.objs.size h' as→
   acc.toList=as.map aY→Q `m { s with heap:=h',toks:=tk }):
  aH `e A (call (.type "list") [.ref z]) Q E s:=by
 refine lM (Q₁:=λobj s₁=>obj=.ref s.heap.objs.size∧s₁={ s with heap:=s.heap.push { cls:=.type "list",data:=.seq #[] } }) mM (jL _) jM
  (code_list_new _ ⟨rfl,rfl⟩) λobj s₁ h₁=>?_
 obtain ⟨rfl,rfl⟩:=h₁;have hS:(s.heap.push { cls:=.type "list",data:=.seq #[] }).get? s.heap.objs.size=aA { cls:=.type "list",data:=.seq #[] }:=aI _ rfl;have hSf:s.heap.objs.size∉[z,TI,TO,i1,i2,l1,l2]:=λe=>abg _ (hlt _ e);have hz1:=hz.keep (h':=s.heap.push { cls:=.type "list",data:=.seq #[] }) (λb _ o e=>aD _ e) (λo e=>aD _ e) λo e=>aD _ e;refine ⟨⟨_,hS,rfl⟩,jI _ _,?_⟩;have z1:=hlt z `b;have z2:=hlt TO `b;have z3:=hlt i1 `b;have z4:=hlt i2 `b;show aH _ _ (do let old ←eZ `m;jN `m (λ_=>#[]);letGo old.toList.reverse;bU `m `p .none) _ _ _
 refine aC ?_;unfold eZ;refine aC (bQ hS rfl (aG ?_));show aH _ _ (jU s.heap.objs.size (λ_=>#[]) >>=λ_=>letGo (#[]:Array Value).toList.reverse >>=λ_=>bU `m `p .none) _ _ _
 refine aC (gB hS rfl ?_);have hS₂:=bR (cR (λ_=>(#[]:Array Value))) hS rfl;have oth:∀b o,b≠s.heap.objs.size→(s.heap.push { cls:=.type "list",data:=.seq #[] }).get? b=aA o→((s.heap.push { cls:=.type "list",data:=.seq #[] }).update s.heap.objs.size (cR (λ_=>(#[]:Array Value)))).get? b=aA o:=λb o hb e=>(bO _ _ (cE hb)).trans e;refine aC (fW ?_);refine extend (A:=A.in1) hh D (hz1.keep (λb hb o e=>oth b o (aal (hlt b (by simp only[aam,aac,or_false] at hb ⊢;rcases hb with q | q | q | q | q <;> simp[q]))) e) (λo e=>oth _ o (aal (hlt l1 `b)) e) λo e=>oth _ o (aal (hlt l2 `b)) e) _ hSf s.heap.objs.size ⟨ac7 z1,ac7 z2,ac7 z3,ac7 z4,aa3 _⟩ (by show _ < (Heap.update _ _ _).objs.size;rw[iA,bB];exact aek _) hn hsz .none _ hS₂ λh' tk acc c as hk hS' hl hG hacc=>?_;exact ⟨rfl,hQ h' tk acc c as (λb o hb e=>hk b o (λx=>by
  rcases List.mem_cons.mp x with q | q
  ·exact abg _ (q ▸ aJ e)
  ·exact hb q) (oth b o (aal (aJ e)) (aD _ e))) hS' hl hG hacc⟩
end
end L2.Zg
namespace L2
open PySem PySem.Spec PyProof.Rows Zd Zg
theorem O4:bM "zip"=aA (.type "zip"):=by decide+kernel
def SqB (K:aF):Bool→Hp→Addr→List V→Prop
 | true,H,a,xs=>SqT K H a xs
 | false,H,a,xs=>SqL K H a xs
def itB:Bool→Heap→Addr→Addr→Nat→Prop
 | true,h,it,l,i=>h.IsTupleIter it l i
 | false,h,it,l,i=>h.IsListIter it l i
theorem itB.keep {b:Bool} {h h':Heap} {it l:Addr} {i:Nat} (x:itB b h it l i) (k:∀o,h.get? it=aA o→h'.get? it=aA o):itB b h' it l i:=by
 cases b
 ·obtain ⟨o,e,r⟩:=x;exact ⟨o,k _ e,r⟩
 ·obtain ⟨o,e,r⟩:=x;exact ⟨o,k _ e,r⟩
theorem itB.obj {b:Bool} {h:Heap} {it l:Addr} {i:Nat} (x:itB b h it l i):∃o,h.get? it=aA o∧∀v,o.data≠.cell v:=by
 cases b
 ·obtain ⟨o,e,_,d⟩:=x;exact ⟨o,e,λv z=>by rw[d] at z;cases z⟩
 ·obtain ⟨o,e,_,d⟩:=x;exact ⟨o,e,λv z=>by rw[d] at z;cases z⟩
theorem O2 {b:Bool} {it l:Addr} {xs:Array Value} {i:Nat} {h:Heap} (x:Hf b it l xs i h):itB b h it l i:=by
 cases b
 ·exact x.1
 ·exact x.1
def zpN (z TI TO i1 i2:Addr) (h:Heap):Prop:=(∃f0 b,IsZ h z TI TO f0 (.bool b)∧(f0=.none∨∃T:Addr,f0=bZ T))∧(∃a b,bX h TO a b)∧bX h TI (.ref i1) (.ref i2)
section
variable {X:Cx} {pins:List (Addr×Obj)} {σ:St} {H:Hp} {s:aE}
theorem Inv.sqB (I:Inv X pins σ H s) {b:Bool} {a:Addr} {xs:List V} (h:SqB X.K b H a xs):∃its:List Value,Vals xs its∧xs.length≤sizeLine∧a < s.heap.objs.size∧(∀it i,itB b s.heap it a i→Hf b it a its.toArray i s.heap)∧(b=true→s.heap.IsTuple a its.toArray)∧(b=false→s.heap.IsList a its.toArray):=by
 cases b
 ·obtain ⟨its,r,p,z⟩:=I.list h;refine ⟨its,r,z,?_,λit i q=>⟨q,p.isList⟩,(λe=>nomatch e),λ_=>p.isList⟩;obtain ⟨o,e,_⟩:=p.isList;exact aJ e
 ·obtain ⟨its,r,p,z⟩:=I.tuple h;refine ⟨its,r,z,?_,λit i q=>⟨q,p⟩,(λ_=>p),(λe=>nomatch e)⟩;obtain ⟨o,e,_⟩:=p;exact aJ e
theorem Inv.Va (I:Inv X pins σ H s) {b:Bool} {a:Addr} {xs ys:List V} (h:SqB X.K b H a xs) (h':SqB X.K b H a ys):xs=ys:=by
 cases b
 ·exact I.sf h h'
 ·exact I.om h h'
end
theorem go_zip {P:aU} {w:bA} {A:bE} {E:Value→aE→Prop} {s:aE} {tg:Expr} {z TI TO T:Addr} {f0:Value} {b:Bool} {Q:Unit→aE→Prop} (ht:(∃x pos,tg=.Name x pos)∨∃es k pos,tg=.Tuple es k pos) (hz:IsZ s.heap z TI TO f0 (.bool b)) (hf:f0=.none∨∃T:Addr,f0=bZ T)
  (q:∀h' f1,IsZ h' z TI TO f1 (.bool b)→(f1=.none∨∃T:Addr,f1=bZ T)→bF z s.heap h'→Q () { s with heap:=h' }):aH (aL P w) A (eQ tg `p (.ref T)) Q E s:=by
 rcases ht with ⟨x,pos,rfl⟩ | ⟨es,k,pos,rfl⟩
 ·exact aG (q s.heap f0 hz hf (fD _ _))
 ·unfold eQ;refine aC (wpAny_load hz ?_);show aH _ _ (if (["enumerate","zip","dict_itemiterator","dict_reverseitemiterator","odict_iterator","itertools.zip_longest","itertools.pairwise"].contains "zip"&&(#[f0,.bool b,.bool false,.ref TI,.ref TO]:Array Value)[0]?==aA (bZ T))=true then _ else _) Q E s
  refine gC (λ_=>aC (eU ?_)) λ_=>aG (q s.heap f0 hz hf (fD _ _));show aH _ _ (setField `p 0 .none) Q E s
  exact bT hz `b λh' hz' hs'=>q h' .none hz' `O hs'
section
variable {X:Cx}
theorem Ii {pins:List (Addr×Obj)} {σ:St} {H:Hp} {s:aE} {c:Bool} {l1 l2:Addr} {xs ys:List V} {A:bE} {E:Value→aE→Prop} {Q:Value→aE→Prop} (I:Inv X pins σ H s) (h1:SqB X.K c H l1 xs) (h2:SqL X.K H l2 ys)
  (q:∀(u v:List Value) (h':Heap),Vals xs u→Vals ys v→Zst c false (s.heap.objs.size+4) (s.heap.objs.size+2) (s.heap.objs.size+3) s.heap.objs.size (s.heap.objs.size+1) l1 l2 u.toArray v.toArray 0 h'→h'.objs.size=s.heap.objs.size+5→(∀c o,s.heap.get? c=aA o→h'.get? c=aA o)→l1 < s.heap.objs.size→l2 < s.heap.objs.size→Q `bb { s with heap:=h' }):
  aH `d A (call (.type "zip") [.ref l1,.ref l2]) Q E s:=by
 obtain ⟨u,ru,_,lt1,_,t1,g1⟩:=I.sqB h1;obtain ⟨v,rv,_,lt2,_,t2,g2⟩:=I.sqB (b:=false) h2;cases c with
 | true=>exact Tu (t1 rfl) (g2 rfl) λh' a b d=>q u v h' ru rv a b d lt1 lt2
 | false=>exact Vi (g1 rfl) (g2 rfl) λh' a b d=>q u v h' ru rv a b d lt1 lt2
end
noncomputable def jc (H:Hp) (N:Addr→Option HO):Hp:=λb=>match N b with | some o=>aA o | none=>H b
theorem Inv.many {X:Cx} {pins:List (Addr×Obj)} {σ:St} {H:Hp} {s:aE} {h':Heap} {t':Nat} {N:Addr→Option HO} (I:Inv X pins σ H s) (k:∀b u,s.heap.get? b=aA u→h'.get? b=aA u) (hp:∀a o,N a=aA o→s.heap.objs.size≤a) (new:∀a o,N a=aA o→bw X.prog X.w (jc H N) h' a o):
  Inv X pins σ (jc H N) { s with heap:=h',toks:=t' }:=by
 have old:∀b,b < s.heap.objs.size→jc H N b=H b:=λb hb=>by
  unfold jc;cases e:N b with
  | none=>rfl
  | some o=>exact absurd (aan hb (hp b o e)) (abg _)
 have tr:∀b u,H b=aA u→jc H N b=aA u:=λb u e=>by rw[old b (I.hok.lt e)];exact e
 refine I.step (g':=s.gens) (d':=s.drawn) (ch:=[]) (λb hb=>nomatch hb) (λb o _ _ _ e _=>k b o e) (λb o _ _ _ e _=>⟨o.slots,k b o e⟩) (λb o _ e n=>by rw[old b (aJ e)];exact n)
  (λb o _ e=>⟨o,k b o e⟩) (λb xs e=>tr b _ e) (λb o u e=>tr b _ e) (λb ps e=>⟨#[],by rw[tr b _ e];simp⟩) (λm hm=>hm.at λo e=>k _ o e) (λb u e=>?_) I.bare
 cases en:N b with
 | some o=>
  have:jc H N b=aA o:=by unfold jc;rw[en]
  rw[this] at e;cases e
  exact new b _ en
 | none=>
  have:jc H N b=H b:=by unfold jc;rw[en]
  rw[this] at e;exact (I.hok b u e).Fj (λc v _ q=>k c v q) (λc q=>tr c _ q) λc xs q=>tr c _ q
theorem yh {β:Type}:∀{as:List Addr} {ps:List β},as.Nodup→∀{j:Nat} {a:Addr} {p:β},as[j]?=aA a→ps[j]?=aA p→(as.zip ps).lookup a=aA p
 | [],_,_,j,a,p,h,_=>by simp at h
 | _::_,[],_,j,a,p,_,h=>by simp at h
 | b::as,q::ps,nd,0,a,p,h1,h2=>by
  simp at h1 h2;subst h1 h2;simp[List.lookup]
 | b::as,q::ps,nd,j+1,a,p,h1,h2=>by
  simp only[ae0] at h1 h2;have hn:=List.nodup_cons.mp nd;have ne:a≠b:=λe=>hn.1 (e ▸ aai h1);rw[adp,ace];simp only[show (a==b)=false from beq_eq_false_iff_ne.mpr ne];exact yh hn.2 h1 h2
theorem x5 {β:Type}:∀{as:List Addr} {ps:List β} {a:Addr} {p:β},(as.zip ps).lookup a=aA p→∃j:Nat,as[j]?=aA a∧ps[j]?=aA p
 | [],_,a,p,h=>by simp at h
 | _::_,[],a,p,h=>by simp at h
 | b::as,q::ps,a,p,h=>by
  rw[adp,ace] at h;by_cases e:a=b
  ·simp only[show (a==b)=true from beq_iff_eq.mpr e] at h;cases h
   exact ⟨0,by rw[e];rfl,rfl⟩
  ·simp only[show (a==b)=false from beq_eq_false_iff_ne.mpr e] at h;obtain ⟨j,h1,h2⟩:=x5 h;exact ⟨j+1,h1,h2⟩
theorem Bv:∀as:List Addr,Vals (as.map V.ref) (as.map aY)
 | []=>.nil
 | _::as=>.cons rfl (Bv as)
def tLZ (K:aF) (ta:TA):TE:=λσ H Q=>ta σ H λvs H1=>∃(l1 l2:Addr) (xs ys:List V),vs=[.ref l1,.ref l2]∧SqT K H1 l1 xs∧SqL K H1 l2 ys∧xs.length=ys.length∧
 ∀(l:Addr) (as:List Addr) (H2:Hp),ah H1 H2→H1 l=none→as.length=xs.length→H2 l=aA `f→(∀(j:Nat) (x y:V),xs[j]?=aA x→ys[j]?=aA y→∃a,as[j]?=aA a∧H2 a=aA (.tup [x,y]))→Q `D H2
section
variable {X:Cx}
theorem yn {a b:Expr} {ta:TA} {p p2 pos pos2:Pos} (hc:X.calm=true) (hg:Gl X "list") (hm:X.mg "list"=none) (hg2:Gl X "zip") (hm2:X.mg "zip"=none) (ha:PA X [a,b] ta)
  (hs:aZ [.Call (.Name "zip" p2) [a,b] [] pos2] X.env=[(false,eval (.Call (.Name "zip" p2) [a,b] [] pos2) X.env)]:=by rfl) (hs2:aZ [a,b] X.env=(false,eval a X.env)::aZ [b] X.env:=by rfl) (hpl:(cF pos2 (aZ [b] X.env)).any (·.1)=false:=by rfl):
  PE X (.Call (.Name "list" p) [.Call (.Name "zip" p2) [a,b] [] pos2] [] pos) (tLZ X.K ta):=by
 intro pins s σ H Q I h;refine bW (gb I hg hm Dv ?_);refine bH ?_ hs rfl;rw[hs];show aH _ _ (kU ((false,eval _ X.env)::cF pos [])) _ _ s
 refine dO ?_;refine bW (gb I hg2 hm2 O4 ?_);refine bH (thn (ha pos2 pins s σ H _ I h) λus s1 ⟨vs,H1,I1,r1,q1⟩=>?_) hs2 hpl;obtain ⟨l1,l2,xs,ys,rfl,e1,e2,hl,q⟩:=q1;obtain ⟨u1,u2,rfl,ru1,ru2⟩:=vals2 r1;cases ru1
 cases ru2
 have zl:xs.length≤sizeLine:=by obtain ⟨_,_,_,z⟩:=I1.tuple e1;exact z
 refine Ii (c:=true) I1 e1 e2 λu v h' ru rv zs hz keep lt1 lt2=>fB ?_;have n1:=ru.length;have n2:=rv.length;refine Rt (s:={ s1 with heap:=h' }) (I1.ok.hd hc) (nG lt1 lt2) zs (λb hb=>?_) (by rw[aa9,aa9];omega) (by rw[aa9];omega) λh2 tk acc c as kp hL hal hM hacc=>?_
 ·have hz':(fX { s1 with heap:=h' }).objs.size=s1.heap.objs.size+5:=hz;rw[hz'];simp only[aam,aac,or_false] at hb;rcases hb with rfl | rfl | rfl | rfl | rfl | rfl | rfl
  ·exact acv `a _
  ·exact acv `a _
  ·exact acv `a _
  ·exact Nat.lt_add_of_pos_right `a
  ·exact acv `a _
  ·exact aan lt1 (aaz _ _)
  ·exact aan lt2 (aaz _ _)
 have hM:Zg.Mk u.toArray v.toArray h'.objs.size h2 as:=hM;have kp:∀b o,b∉[s1.heap.objs.size+4,s1.heap.objs.size+3,s1.heap.objs.size,s1.heap.objs.size+1]→h'.get? b=aA o→h2.get? b=aA o:=kp;have hL:h2.get? h'.objs.size=aA { cls:=.type "list",dict:=none,data:=.seq acc c,slots:=#[] }:=hL;rw[aa9] at hal;have le:s1.heap.objs.size≤h'.objs.size:=by rw[hz];exact aaz _ _
 have k2:∀b o,s1.heap.get? b=aA o→h2.get? b=aA o:=λb o e=>kp b o (λz=>by
  have lt:=aJ e;simp only[aam,aac,or_false] at z;rcases z with rfl | rfl | rfl | rfl
  ·exact absurd lt (Nat.not_lt.mpr (aaz _ _))
  ·exact absurd lt (Nat.not_lt.mpr (aaz _ _))
  ·exact absurd lt (abg _)
  ·exact absurd lt (Nat.not_lt.mpr (aaz _ _))) (keep b o e)
 let N:Addr→Option HO:=λb=>if b=h'.objs.size then aA `f else ((as.zip (xs.zip ys)).lookup b).map λp=>.tup [p.1,p.2]
 have Nl:N h'.objs.size=aA `f:=if_pos rfl;have Na:∀(j:Nat) (a:Addr) (x y:V),as[j]?=aA a→xs[j]?=aA x→ys[j]?=aA y→N a=aA (.tup [x,y]):=λj a x y h1 h3 h4=>by
  show (if a=h'.objs.size then _ else _)=_
  rw[if_neg (ab4 (hM.up a (aai h1)))];have:(xs.zip ys)[j]?=aA (x,y):=List.getElem?_zip_eq_some.mpr ⟨h3,h4⟩;rw[yh hM.nd h1 this];rfl
 have inv:∀a o,N a=aA o→(a=h'.objs.size∧o=.lst (as.map V.ref))∨∃(j:Nat) (x y:V),as[j]?=aA a∧xs[j]?=aA x∧ys[j]?=aA y∧o=.tup [x,y]:=λa o e=>by
  by_cases h:a=h'.objs.size
  ·subst h;rw[Nl] at e;exact .inl ⟨rfl,(aa7 e).symm⟩
  ·have e:(if a=h'.objs.size then _ else ((as.zip (xs.zip ys)).lookup a).map λp=>HO.tup [p.1,p.2])=aA o:=e;rw[if_neg h] at e;obtain ⟨⟨x,y⟩,h1,h2⟩:=Option.map_eq_some_iff.mp e;obtain ⟨j,g1,g2⟩:=x5 h1;obtain ⟨g3,g4⟩:=List.getElem?_zip_eq_some.mp g2;exact .inr ⟨j,x,y,g1,g3,g4,h2.symm⟩
 have lo:∀a o,N a=aA o→s1.heap.objs.size≤a:=λa o e=>by
  rcases inv a o e with ⟨rfl,_⟩ | ⟨j,x,y,h1,_⟩
  ·exact le
  ·exact ab6 le (ac7 (hM.up a (aai h1)))
 have I2:Inv X pins σ (jc H1 N) { s1 with heap:=h2,toks:=tk }:=I1.many k2 lo λa o e=>by
  rcases inv a o e with ⟨rfl,rfl⟩ | ⟨j,x,y,h1,h3,h4,rfl⟩
  ·refine ⟨by rw[aa0];omega,acc.toList,c,?_,by rw[ae6];exact hL⟩;rw[hacc];exact Bv as
  ·obtain ⟨x',y',g1,g2,g3⟩:=hM.at' j a h1;obtain ⟨xu,hxu,rxu⟩:=ru.get h3;obtain ⟨yu,hyu,ryu⟩:=rv.get h4;rw[acr] at g1 g2;rw[hxu] at g1;rw[hyu] at g2;cases g1
   cases g2
   exact ⟨by show (2:Nat)≤sizeLine;decide,[x',y'],.cons rxu (.cons ryu .nil),⟨_,g3,rfl,_,rfl,rfl⟩⟩
 have same:ah H1 (jc H1 N):=λb o e=>by
  have lt:=I1.hok.lt e;unfold jc;cases en:N b with
  | none=>exact e
  | some o'=>exact absurd (aan lt (lo b o' en)) (abg _)
 refine ⟨.ref h'.objs.size,_,I2,rfl,q _ as _ same (I1.hok.fresh le) (by omega) (by unfold jc;rw[Nl]) λj x y h3 h4=>?_⟩;have hj:j < as.length:=by rw[hal,←n1];exact (List.getElem?_eq_some_iff.mp h3).1
 refine ⟨as[j],aa1 hj,?_⟩;unfold jc;rw[Na j as[j] x y (aa1 hj) h3 h4]
end
end L2
namespace L2.Zd
open PySem
theorem xl:entryFor table "dict.update.loop"=aA cN.«dict.update.loop»:=entryFor_of_tree (by kernel_rfl)
theorem kq:plainId "dict.update.loop"=true:=by decide+kernel
def Zs (d z TI TO i1 i2 l1 l2:Addr) (xs ys:Array Value) (i:Nat) (h:Heap):Prop:=
 ((IsZip h z TI TO .none∧∃a b,bX h TO a b)∨∃(T:Addr) (b:Bool) (o:Obj),IsZ h z TI TO (bZ T) (.bool b)∧h.get? T=aA o∧T≠z∧T≠i1∧T≠i2∧T≠d)∧
  bX h TI (.ref i1) (.ref i2)∧h.IsListIter i1 l1 i∧h.IsListIter i2 l2 i∧h.IsList l1 xs∧h.IsList l2 ys
structure Ap (d z TI TO i1 i2 l1 l2:Addr):Prop where
 za:cZ z TI TO i1 i2 l1 l2
 dz:d≠z
 dTI:d≠TI
 dTO:d≠TO
 d1:d≠i1
 d2:d≠i2
 dl1:d≠l1
 dl2:d≠l2
section
variable {prog:aU} {w:bA} {A:bE} {E:Value→aE→Prop} {s:aE} {d z TI TO i1 i2 l1 l2:Addr} {xs ys:Array Value} {i:Nat}
theorem Zs.dict {h h':Heap} (D:Ap d z TI TO i1 i2 l1 l2) (hs:bF d h h') (x:Zs d z TI TO i1 i2 l1 l2 xs ys i h):Zs d z TI TO i1 i2 l1 l2 xs ys i h':=by
 obtain ⟨a,b,c,e,f,g⟩:=x;refine ⟨?_,hs.extBut _ _ D.dTI.symm b,c.extBut hs.extBut D.d1.symm,e.extBut hs.extBut D.d2.symm,f.extBut hs.extBut D.dl1.symm,g.extBut hs.extBut D.dl2.symm⟩;rcases a with ⟨a1,u,v,a2⟩ | ⟨T,u,o,a1,a2,a3,a4,a5,a6⟩
 ·exact .inl ⟨hs.extBut _ _ D.dz.symm a1,u,v,hs.extBut _ _ D.dTO.symm a2⟩
 ·exact .inr ⟨T,u,o,hs.extBut _ _ D.dz.symm a1,hs.extBut _ _ a6 a2,a3,a4,a5,a6⟩
theorem Rr {x y:Value} {Q:Option Value→aE→Prop} (D:Ap d z TI TO i1 i2 l1 l2) (hz:Zs d z TI TO i1 i2 l1 l2 xs ys i s.heap) (hd:d < s.heap.objs.size) (hx:xs[i]?=aA x) (hy:ys[i]?=aA y)
  (hQ:∀h',Zs d z TI TO i1 i2 l1 l2 xs ys (i+1) h'→bX h' s.heap.objs.size x y→(∀c o,c≠z→c≠TO→c≠i1→c≠i2→s.heap.get? c=aA o→h'.get? c=aA o)→Q (aA `m) { s with heap:=h' }):
  aH `e A (cV `p) Q E s:=by
 obtain ⟨a,hTI,h1,h2,hl1,hl2⟩:=hz;have lt:∀{c o},s.heap.get? c=aA o→s.heap.objs.size≠c:=λe=>ab4 (aJ e);have g1:s.heap.objs.size≠i1:=by obtain ⟨_,e,_⟩:=h1;exact lt e
 have g2:s.heap.objs.size≠i2:=by obtain ⟨_,e,_⟩:=h2;exact lt e
 rcases a with ⟨a1,u,v,a2⟩ | ⟨T,u,o,a1,a2,a3,a4,a5,a6⟩
 ·refine wpAny_pyNext_zip_item D.za a1 hTI a2 h1 h2 hl1 hl2 hx hy λh' b1 b2 b3 b4 b5 b6 hk=>hQ h' ⟨.inr ⟨_,false,_,b1,b5,lt a1,g1,g2,ab4 hd⟩,hk _ _ D.za.TIz D.za.TITO D.za.TIi1 D.za.TIi2 hTI,b3,b4,hl1.at λo e=>hk _ o D.za.l1z D.za.l1TO D.za.l1i1 D.za.l1i2 e,hl2.at λo e=>hk _ o D.za.l2z D.za.l2TO D.za.l2i1 D.za.l2i2 e⟩ b5 hk
 ·have hT:s.TypeIs `p "zip":=⟨_,a1,rfl⟩;unfold cV;refine aC (dJ (bI (name:=aB "__next__") hT bY
   (bL bY hT eJ
    (next_item D.za a1 a2 hTI h1 h2 hl1 hl2 hx hy λh' b1 b3 b4 b5 b6 hk=>aG (hQ h' ⟨.inr ⟨T,true,o,b1,hk _ _ a3 a4 a5 a2,a3,a4,a5,a6⟩,hk _ _ D.za.TIz D.za.TIi1 D.za.TIi2 hTI,b3,b4,hl1.at λo e=>hk _ o D.za.l1z D.za.l1i1 D.za.l1i2 e,hl2.at λo e=>hk _ o D.za.l2z D.za.l2i1 D.za.l2i2 e⟩ b5 λc o c1 _ c3 c4 e=>hk c o c1 c3 c4 e)) (dX _))))
theorem zs_end {Q:Option Value→aE→Prop} (hh:A.handled=none) (D:Ap d z TI TO i1 i2 l1 l2) (hz:Zs d z TI TO i1 i2 l1 l2 xs ys i s.heap) (hx:xs[i]?=none)
  (hQ:∀h',(∀c o,c≠z→c≠TO→c≠i1→c≠i2→s.heap.get? c=aA o→h'.get? c=aA o)→Q none { s with heap:=h' }):aH `e A (cV `p) Q E s:=by
 obtain ⟨a,hTI,h1,h2,hl1,hl2⟩:=hz;rcases a with ⟨a1,u,v,a2⟩ | ⟨T,u,o,a1,a2,a3,a4,a5,a6⟩
 ·exact wpAny_pyNext_zip_end hh D.za a1 hTI a2 h1 h2 hl1 hl2 (.inl hx) hQ
 ·have hT:s.TypeIs `p "zip":=⟨_,a1,rfl⟩;unfold cV;refine aC (dJ (bI (name:=aB "__next__") hT bY
   (bL bY hT eJ (next_end (by first | exact hh | simp[hh]) D.za a1 a2 hTI h1 hl1 hx λh' e hk he=>?_) (dX _))))
  obtain ⟨o,ho,hc⟩:=he;refine aC (dN (T:="StopIteration") (b:=true) ⟨o,ho,hc⟩ fJ ?_);exact aG (hQ _ λc o c1 _ c3 _ e=>hk c o c1 c3 e)
theorem loop {κ:Type} [DecidableEq κ] {knd:KeyKind prog w κ} {R:iE→aE→Prop} (hh:A.in1.handled=none) (D:Ap d z TI TO i1 i2 l1 l2) (ps:List (κ×Value)) (hn:ps.length=xs.size)
  (hps:∀(i:Nat) (k:κ) (v:Value),ps[i]?=aA (k,v)→∃x,xs[i]?=aA x∧knd.is k x=true∧ys[i]?=aA v):
  ∀(m i:Nat) (j:Int) (s:aE) (kvs:List (κ×Value)),ps.length - i=m→i≤ps.length→Zs d z TI TO i1 i2 l1 l2 xs ys i s.heap→s.heap.DictOf knd d kvs→kvs.length+m≤sizeLine→
   (∀h' tk,h'.DictOf knd d (merged kvs (ps.drop i))→(∀c o,c≠d→c≠z→c≠TO→c≠i1→c≠i2→s.heap.get? c=aA o→h'.get? c=aA o)→R (.ok (.ret .none)) { s with heap:=h',toks:=tk })→
   dM `e A (.builtin "dict.update.loop" ⟨[.ref d,.ref z,bZ j,.none],[]⟩) R s:=by
 intro m;induction m with
 | zero=>
  intro i j s kvs hm hi hz hd hsz hR;have e:i=xs.size:=by omega
  refine eV xl ?_;rw[fQ kq _];show aH _ A.in1 (cV `p >>=_) _ _ s
  refine aC (zs_end hh D hz (by rw[e];exact abz (aa3 _)) λh' hk=>?_);show aH _ A.in1 (Builtin.Dict.addKeywords d [] >>=_) _ _ _
  refine aC (aG ?_);refine aG (hR h' s.toks ?_ λc o c1 c2 c3 c4 c5 x=>hk c o c2 c3 c4 c5 x);rw[List.drop_eq_nil_of_le (by omega)];obtain ⟨o,es,ep,ho,r⟩:=hd;exact ⟨o,es,ep,hk d o D.dz D.dTO D.d1 D.d2 ho,r⟩
 | succ m ih=>
  intro i j s kvs hm hi hz hd hsz hR;have hlt:i < ps.length:=by omega
  obtain ⟨x,hx,hk,hy⟩:=hps i ps[i].1 ps[i].2 (aa1 hlt);refine eV xl ?_;rw[fQ kq _];show aH _ A.in1 (cV `p >>=_) _ _ s
  have hdl:d < s.heap.objs.size:=by obtain ⟨_,_,_,e,_⟩:=hd;exact aJ e
  refine aC (Rr D hz hdl hx hy λh₁ hz₁ hP keep=>?_);refine aC (bK ?_);refine aC (wpAny_tryCatch ?_);unfold Builtin.Dict.pairItems;have hT:Shared.TypeIs { s with heap:=h₁ } `m "tuple":=⟨_,hP,rfl⟩;refine aC (fF hT ?_);rw[if_pos `a];refine aC (bQ hP rfl (aG ?_));show aH _ _ (kX [x,ps[i].2] (dictSet d x ps[i].2)) _ _ _
  refine bK ?_;unfold dictSet;refine bK ?_;refine aC (knd.pyHash hk ?_);have hd₁:h₁.DictOf knd d kvs:=by
   obtain ⟨o,es,ep,ho,r⟩:=hd;exact ⟨o,es,ep,keep d o D.dz D.dTO D.d1 D.d2 ho,r⟩
  refine wpAny_dictSetHashed_pairs (s:={ s with heap:=h₁,toks:=s.toks+1 }) hk hd₁ (λh₂ hd₂ hs₂=>?_) (by omega);refine aG ⟨hV kq _,ih (i+1) (j+1) _ _ (by omega) hlt (hz₁.dict D hs₂) hd₂ ?_ λh' tk hd' kp=>?_⟩
  ·have:=merged_length_le kvs [(ps[i].1,ps[i].2)];have e:merged kvs [(ps[i].1,ps[i].2)]=stored kvs ps[i].1 ps[i].2:=rfl;rw[e] at this;have e2:[(ps[i].1,ps[i].2)].length=1:=rfl;omega
  ·refine hR h' tk ?_ λc o c1 c2 c3 c4 c5 x=>kp c o c1 c2 c3 c4 c5 ((hs₂.2 c c1).trans (keep c o c2 c3 c4 c5 x));rw[aay hlt];exact hd'
end
theorem Mo:dZ (.type "zip") "keys"=pure none:=by rw[eW,dD];kernel_rfl
theorem Iv:dZ (.type "zip") "__getattr__"=pure none:=by rw[eW,dD];kernel_rfl
theorem qj:entryFor table "zip.__getattribute__"=aA cN.«object.__getattribute__»:=
 entryFor_alias (id':="object.__getattribute__") (by kernel_rfl) `c `c (by kernel_rfl)
theorem Hn (a:Addr) (vs:Array Value) (u:Tok):
  Meets (cN.«object.__getattribute__» ⟨[.ref a,.str "keys" u],[]⟩) (λA R s=>s.heap.get? a=aA { cls:=.type "zip",dict:=none,data:=.fields vs,slots:=#[] }∧raisesAttr `r "keys" A R s):=
 Meets.of_wp λprog w A R s hs=>by
  obtain ⟨hp,g,d,tk,os⟩:=s;obtain ⟨hx,hs⟩:=hs;have hT:(⟨hp,g,d,tk,os⟩:aE).TypeIs `r "zip":=⟨_,hx,rfl⟩;have hmiss:=Mo;have hname:(["__module__","__name__","__qualname__","__doc__","__annotations__"]:List Str).contains "keys"=false:=by decide+kernel
  unfold cN.«object.__getattribute__»;repeat (any_goals (first | assumption | wp_step))
  exact wpAny_raiseAttrError hs.1 hs.2 (attrMsg_fits `c `c)
section
variable {prog:aU} {w:bA} {A:bE} {E:Value→aE→Prop} {s:aE}
theorem Sr {a:Addr} {vs:Array Value} {Q:Option Value→aE→Prop} (hx:s.heap.get? a=aA { cls:=.type "zip",dict:=none,data:=.fields vs,slots:=#[] }) (hA:A.handled=none)
  (h:∀h' tk,(∀b o,s.heap.get? b=aA o→h'.get? b=aA o)→Q none { s with heap:=h',toks:=tk }):aH `e A (getAttr? `r "keys") Q E s:=by
 obtain ⟨hp,g,d,tk,os⟩:=s;have hT:∀tk',(⟨hp,g,d,tk',os⟩:aE).TypeIs `r "zip":=λ_=>⟨_,hx,rfl⟩;have f1:=sub_AttributeError;have f3:=F.slot_zip_getattribute.lookup;have f4:=F.slot_zip_getattribute.bind `r;have f5:=Iv;unfold getAttr? getAttrBy? getAttrBy;repeat (any_goals (first | assumption | exact hT _ | ((with_reducible show aH _ _ (call (Value.builtin "zip.__getattribute__") _ _) _ _ _);refine iF F.slot_zip_getattribute (hT _) qj (F.args_zip_getattribute_2 _ _) (Hn a vs _) ⟨hx,hA,λh' tk' e hx'=>?_⟩) | wp_step))
 obtain ⟨t',u',he⟩:=hx'.there;show aH _ _ (nH _ _ _ _ _ _ _) _ _ _
 unfold nH;repeat (any_goals (first | assumption | wp_step))
 exact h h' tk' hx'.keeps
end
end L2.Zd
namespace L2
open PySem PySem.Spec PyProof.Rows
section
variable {X:Cx} {pos:Pos} {tg:Expr}
theorem Bx (n:Nat):gO ((n:Int) - 1) (-1) (-1)=n:=by
 unfold gO;cases n with
 | zero=>decide
 | succ n=>
  simp;omega
theorem Oa {n:Nat} (h:n < 2 ^ 62):mN ((n:Int) - 1) (-1) (-1)=true:=by
 unfold mN;rw[Bx];have e1:cJ ((n:Int) - 1)=true:=by
  unfold cJ;rw[decide_eq_true (show -(2:Int) ^ 63≤(n:Int) - 1 by omega),decide_eq_true (show (n:Int) - 1 < (2:Int) ^ 63 by omega)];rfl
 have e2:cJ (n:Int)=true:=by
  unfold cJ;rw[decide_eq_true (show -(2:Int) ^ 63≤(n:Int) by omega),decide_eq_true (show (n:Int) < (2:Int) ^ 63 by omega)];rfl
 rw[e1,e2,show cJ (-1)=true by decide,if_neg `a,show cJ (-1+(-1+1))=true by decide];simp
def iDn (ta:TA):TI:=λσ H R=>ta σ H λvs H1=>∃n:Nat,vs=[.int ((n:Int) - 1),.int (-1),.int (-1)]∧n < 2 ^ 62∧R (Itd n) H1
theorem As {a b c:Expr} {ta:TA} {p pos:Pos} (hg:Gl X "range") (hm:X.mg "range"=none) (ha:PA X [a,b,c] ta) (hs:aZ [a,b,c] X.env=(false,eval a X.env)::aZ [b,c] X.env:=by rfl) (hpl:(cF pos (aZ [b,c] X.env)).any (·.1)=false:=by rfl):
  PI X tg (.Call (.Name "range" p) [a,b,c] [] pos) (iDn ta):=by
 intro pins s σ H R I h;refine Call_ (gb I hg hm boot_range (bH (thn `Y λus s1 ⟨vs,H1,I1,r1,q1⟩=>?_) hs hpl));obtain ⟨n,rfl,hn,q⟩:=q1;cases r1 with
 | cons r rr=>
  cases rr with
  | cons r' rr=>
   cases rr with
   | cons r'' rr=>
    cases rr
    obtain ⟨t,rfl⟩:=r;obtain ⟨t',rfl⟩:=r';obtain ⟨t'',rfl⟩:=r'';refine call_range_3 `a ?_ (.inl (kJ (by omega)));refine mW (IsRange.new ..) (Oa hn) ?_;rw[Bx];have I2:Inv X pins σ H1 { s1 with heap:=s1.heap.push { cls:=.type "range",data:=.fields #[.int ((n:Int) - 1) t,.int (-1) t',.int (-1) t''] },toks:=s1.toks }:=I1.kept λb o e=>aD _ e;refine ⟨(s1.heap.push { cls:=.type "range",data:=.fields #[.int ((n:Int) - 1) t,.int (-1) t',.int (-1) t''] }).objs.size,[(s1.heap.push { cls:=.type "range",data:=.fields #[.int ((n:Int) - 1) t,.int (-1) t',.int (-1) t''] }).objs.size],_,_,H1,rfl,I2.kept (t':=s1.toks) λb o e=>aD _ e,K8 _ n,?_,λb hb=>?_,q⟩
    ·have e1:(n:Int) - 1+((0:Nat):Int)*(-1)=(n:Int) - 1:=by omega
     have e2:(n:Int) - ((0:Nat):Int)=(n:Int):=by omega
     show jZ _ _ ((n:Int) - 1+((0:Nat):Int)*(-1)) ((n:Int) - ((0:Nat):Int)) (-1)
     rw[e1,e2];exact aI _ rfl
    ·have e:b=(s1.heap.push { cls:=.type "range",data:=.fields #[.int ((n:Int) - 1) t,.int (-1) t',.int (-1) t''] }).objs.size:=by simpa using hb
     subst e;exact I2.kh (aa3 _) (I2.hok.fresh (aa3 _))
end
theorem Jm {n:Nat} {g:TG} {tb:TS} {D:Ends} {σ:St} {H:Hp} (Pv:Nat→St→Hp→Prop) (h0:Pv n σ H)
  (hs:∀i σ H,i < n→Pv (i+1) σ H→g (.int (i:Int)) σ H λσ2 H2=>tb { D with nx:=Pv i,ct:=Pv i,bk:=D.nx } σ2 H2) (hd:∀σ H,Pv 0 σ H→D.nx σ H):zv g tb D (Itd n) σ H:=by
 refine ⟨λi m σ H=>m=n - i∧i≤n∧Pv (n - i) σ H,⟨n,by simp,aag _,by simpa using h0⟩,?_⟩;rintro i m σ H ⟨rfl,hi,p⟩;by_cases hlt:i < n
 ·refine .inr ⟨hlt,Pv (n - (i+1)),λσ' H' p'=>⟨n - (i+1),by omega,rfl,hlt,p'⟩,λx H' y=>?_⟩;obtain ⟨rfl,rfl⟩:=y;have e:(n:Int) - 1 - (i:Int)=((n - (i+1):Nat):Int):=by omega
  rw[e];exact hs (n - (i+1)) σ _ (by omega) (by rw[show n - (i+1)+1=n - i by omega];exact p)
 ·have e:i=n:=by omega
  subst e;exact .inl ⟨aa3 _,hd σ H (by simpa using p)⟩
namespace Zd
end Zd
namespace Zd
section
variable {prog:aU} {w:bA} {A:bE} {E:Value→aE→Prop} {s:aE}
theorem Ig {d:Addr} (hd:(d==cQ)=false):
  MeetsIn prog w (cN.«dict.__len__» ⟨[.ref d],[]⟩) (λ_ R s=>∃o es ep,s.heap.get? d=aA o∧o.data=.dict es ep∧R (.ok (.ret (.int es.size s.toks))) { s with toks:=s.toks+1 }):=
 .of_wp λA R s ⟨o,es,ep,ho,hdat,h⟩=>by
  show aH _ _ (dictSize d >>=_) _ _ s
  unfold dictSize;refine aC (aC (wpAny_dictEntries ho hdat (aG ?_)));show aH _ _ (Builtin.Dict.pendingCount d >>=_) _ _ s
  refine aC (wpAny_pendingCount_other hd (wpAny_ret_mkInt ?_));rw[Nat.add_zero];exact h
theorem K1 {d:Addr} {xs:List (List Key×Addr×Value)} {Q:Value→aE→Prop} (hd:(d==cQ)=false) (hm:s.heap.DictOfH (iL (b9 prog w)) d xs) (hfit:(xs.length:Int) < 2 ^ 63)
  (h:Q (.int xs.length (s.toks+1)) { s with toks:=s.toks+1+1 }):aH `e A (call (.builtin "len") [.ref d]) Q E s:=by
 have ht:=hm.typeIs;obtain ⟨o,es,ep,ho,_,hdat,he,_,_⟩:=hm;have hn:es.size=xs.length:=by rw[←abf,he,aa0]
 refine Calls.call_function_entry kind_len plain_len entry_len (args_len1 _) ?_;unfold cN.«len»;refine aC (m:=oneArg "len" _) (aG ?_);refine aC (m:=callSpecial? `aY (aB "__len__")) (bI (name:=aB "__len__") ht F.slot_dict_len (nE F.slot_dict_len ht F.entry_dict_len (F.args_dict_len_1 _) (Ig hd) ⟨o,es,ep,ho,hdat,?_⟩));rw[hn];show aH _ _ _ _ _ { s with toks:=s.toks+1 }
 refine aC (bK (aG ?_));refine aC (fW ?_);show aH _ _ (if ((xs.length:Nat):Int) < 0 then _ else _) _ _ _
 rw[if_neg (by omega)];show aH _ _ (if ((xs.length:Nat):Int)≥2 ^ 63 then _ else _) _ _ _
 rw[if_neg (by omega)];exact aC (wpAny_mkInt (aG ⟨_,rfl,h⟩))
end
end Zd
section
variable {X:Cx}
theorem Lz:fo X (.builtin "len") (λxs H Q=>∃a kvs,xs=[.ref a]∧H a=aA (.dT kvs)∧Q (.int kvs.length) H):=by
 intro pins s σ H xs us Q I r h;obtain ⟨a,kvs,rfl,ha,q⟩:=h;obtain ⟨u,rfl,rx⟩:=vals1 r;cases rx
 obtain ⟨z,hd,xs,kt,dd⟩:=dt_of I.hok ha;have hl:=iR kt;have sz:=aQ;refine Zd.K1 hd dd (by omega) ?_;rw[←hl];exact ⟨.int kvs.length,H,I.tok _,⟨_,rfl⟩,q⟩
end
end L2
namespace Pc
open PySem PySem.Spec L2 PyProof.Rows
abbrev Ky:=Nat×Str
noncomputable def kyK (k:Ky):List Key:=[cK (k.1:Int),aP k.2]
theorem J9 {a b:Ky} (h:kyK a=kyK b):a=b:=by
 obtain ⟨a1,a2⟩:=a;obtain ⟨b1,b2⟩:=b;unfold kyK at h;simp only[acb,Sum.inl.injEq,Sum.inr.injEq,and_true] at h;rw[h.2,show a1=b1 by omega]
noncomputable def kyT (k:Ky):HO:=.tup [.int (k.1:Int),.str k.2]
def vh (H:Hp) (d:Addr) (g:Ky→Option Int) (n:Nat):Prop:=∃kvs:List (List Key×V),H d=aA (.dT kvs)∧kvs.length≤n∧∀k,dk kvs (kyK k)=(g k).map V.int
theorem vh.get {H:Hp} {d b:Addr} {g:Ky→Option Int} {n:Nat} {k:Ky} (h:vh H d g n) (hb:H b=aA (kyT k)):gn H d `Z ((g k).map V.int):=by
 obtain ⟨kvs,h1,_,h3⟩:=h;rw[←h3 k];exact gn.t h1 hb
theorem vh.val {H:Hp} {d b:Addr} {g:Ky→Option Int} {n:Nat} {k:Ky} {v:Int} (h:vh H d g n) (hb:H b=aA (kyT k)) (e:g k=aA v):gn H d `Z (aA (.int v)):=by
 have:=h.get hb;rw[e] at this;exact this
theorem vh.at {H H':Hp} {d:Addr} {g:Ky→Option Int} {n:Nat} (h:vh H d g n) (e:∀o,H d=aA o→H' d=aA o):vh H' d g n:=by
 obtain ⟨kvs,h1,h2⟩:=h;exact ⟨kvs,e _ h1,h2⟩
theorem vh.same {H H':Hp} {d:Addr} {g:Ky→Option Int} {n:Nat} (h:vh H d g n) (s:ah H H'):vh H' d g n:=h.at λo e=>s _ _ e
structure Kx (no:Addr→Prop) (H H':Hp):Prop where
 t:∀{a:Addr} {xs:List V},H a=aA `aU→H' a=aA `aU
 l:∀{a:Addr} {xs:List V},¬no a→H a=aA `U→H' a=aA `U
theorem Kx.same {no:Addr→Prop} {H H':Hp} (s:ah H H'):Kx no H H':=⟨λh=>s _ _ h,λ_ h=>s _ _ h⟩
theorem Kx.weak {no no':Addr→Prop} {H H':Hp} (a:Kx no H H') (h:∀x,no x→no' x):Kx no' H H':=⟨a.t,λn e=>a.l (λz=>n (h _ z)) e⟩
theorem Kx.upd {x:Addr} {H:Hp} {ys:List V} {o:HO} (h:H x=aA (.lst ys)):Kx (·=x) H (L2.upd H x o):=⟨λe=>by rw[ak (jq e h (by intro z;cases z))];exact e,λn e=>by rw[ak n];exact e⟩
def HsAt (H:Hp) (l:Addr) (hs:List Ky):Prop:=∃as:List Addr,H l=aA `f∧as.length=hs.length∧∀(j:Nat) (k:Ky),hs[j]?=aA k→∃a,as[j]?=aA a∧H a=aA (kyT k)
theorem HsAt.kx {no:Addr→Prop} {H H':Hp} {l:Addr} {hs:List Ky} (h:HsAt H l hs) (x:Kx no H H') (n:¬no l):HsAt H' l hs:=by
 obtain ⟨as,h1,h2,h3⟩:=h;exact ⟨as,x.l n h1,h2,λj k e=>by
  obtain ⟨a,g1,g2⟩:=h3 j k e;exact ⟨a,g1,x.t g2⟩⟩
noncomputable def aq (kinds:List Str) (sh:List V):List Str:=sh.filterMap λv=>match v with
 | .str z=>if z∈kinds then aA z else none
 | _=>none
def rq (K:aF):Sp:=λvs H Q _=>∃(st kt ut:Addr) (sh:List V) (kinds:List Str) (u:Und),vs=[.ref st,.ref kt,.ref ut]∧SqT K H st sh∧SqT K H kt `h∧i6 H ut u∧Kinds kinds∧(∀v∈sh,isW v)∧sh.length≤1000∧u.hs.length=(aq kinds sh).length∧∀(l:Addr) (H':Hp),ah H H'→H l=none→HsAt H' l (u.hs.zip (aq kinds sh))→Q `D H'
noncomputable def isH (kinds:List Str):V→Bool
 | .str z=>decide (z∈kinds)
 | _=>false
theorem Ds {kinds:List Str} {v:V} (hv:isW v):inV v `h=isH kinds v:=by
 obtain ⟨k,rfl⟩:=hv;cases k with
 | inl i=>
  show inV (.int i) `h=false
  induction kinds with
  | nil=>rfl
  | cons z r ih=>exact ih
 | inr z=>
  show inV `Q `h=decide (z∈kinds)
  by_cases h:z∈kinds
  ·rw[decide_eq_true h];exact Ug (List.mem_map.mpr ⟨z,h,rfl⟩)
  ·rw[decide_eq_false h];cases e:inV `Q `h with
   | false=>rfl
   | true=>
    obtain ⟨y,hy,e'⟩:=List.mem_map.mp (og e);cases e'
    exact absurd hy h
theorem rj {kinds:List Str} (hk:Kinds kinds) {v:V} (hv:isW v):bh kinds v=lH↔isH kinds v=true:=by
 obtain ⟨b1,b2,b3,_,_,_⟩:=lets;rcases df (kinds:=kinds) hv with ⟨rfl,h⟩ | ⟨rfl,h⟩ | ⟨⟨z,hz,rfl⟩,h⟩ | ⟨h,hno⟩
 ·rw[h];refine ⟨λe=>absurd e b1,λe=>?_⟩;exact absurd rfl (hk _ (of_decide_eq_true (show decide (aB "any"∈kinds)=true from e))).2.1
 ·rw[h];refine ⟨λe=>absurd e b2,λe=>?_⟩;exact absurd rfl (hk _ (of_decide_eq_true (show decide (aB "var"∈kinds)=true from e))).2.2
 ·exact ⟨λ_=>decide_eq_true hz,λ_=>h⟩
 ·rw[h];refine ⟨λe=>absurd e b3,λe=>?_⟩;rw[Ds hv,e] at hno;cases hno
theorem Hk (kinds:List Str) (v:V) (r:List V):aq kinds (v::r)=(match v with | .str z=>if z∈kinds then [z] else [] | _=>[])++aq kinds r:=by
 unfold aq;rw[acf];cases v with
 | str z=>
  by_cases h:z∈kinds
  ·simp[h]
  ·simp[h]
 | _=>rfl
theorem jl (kinds:List Str):∀(sh:List V),(aq kinds sh).map V.str=sh.filter (isH kinds)
 | []=>rfl
 | v::r=>by
  rw[Hk,aaa,jl kinds r,ab2];cases v with
  | str z=>
   by_cases h:z∈kinds
   ·simp[h,isH]
   ·simp[h,isH]
  | _=>simp[isH]
theorem Lm (kinds:List Str) (v:V) (r:List V):(aq kinds (v::r)).length=(if isH kinds v=true then 1 else 0)+(aq kinds r).length:=by
 have e:=congrArg ac5 (jl kinds (v::r));have e':=congrArg ac5 (jl kinds r);rw[aa0] at e e';rw[e,e',ab2];by_cases h:isH kinds v=true
 ·rw[if_pos h,if_pos h,aa8];omega
 ·rw[if_neg h,if_neg h];omega
theorem uo {kinds:List Str} {ws:List V} (hk:Kinds kinds):∀(sh:List V) (p:Nat) (u u':Und),(∀v∈sh,isW v)→bq kinds ws sh p u=aA u'→u'.hs.length=u.hs.length+(aq kinds sh).length∧∀h∈u'.hs,h∈u.hs∨p≤h
 | [],p,u,u',_,h=>by
  have h:aA u=aA u':=h;cases h
  exact ⟨rfl,λ_ m=>.inl m⟩
 | v::r,p,u,u',hw,h=>by
  rw[dr] at h;by_cases c:lies `y v `aW=true
  ·rw[if_pos c] at h;obtain ⟨i1,i2⟩:=uo hk r _ _ u' (λx m=>hw x (aab _ m)) h;have hv:=hw v aa6;rw[Lm];by_cases e:isH kinds v=true
   ·have e':=(rj hk hv).mpr e;have ep:u.put `y p `aW=⟨u.hs++[p],u.ns,u.vs⟩:=by
     unfold Und.put;rw[if_pos e']
    rw[ep] at i1 i2;rw[if_pos e'] at i2;rw[if_pos e];have i1:u'.hs.length=(u.hs++[p]).length+(aq kinds r).length:=i1;rw[aa2,aa5] at i1;refine ⟨by omega,λh m=>?_⟩;have le:p≤endAt ws p:=aaz _ _;rcases i2 h m with g | g
    ·rcases List.mem_append.mp (show h∈u.hs++[p] from g) with g | g
     ·exact .inl g
     ·rw[List.mem_singleton.mp g];exact .inr (aa3 _)
    ·exact .inr (by omega)
   ·have e':¬bh kinds v=lH:=λz=>e ((rj hk hv).mp z);have ep:(u.put `y p `aW).hs=u.hs:=by
     unfold Und.put;rw[if_neg e'];split
     ·rfl
     split
     ·rfl
     ·rfl
    rw[ep] at i1 i2;rw[if_neg e'] at i2;rw[if_neg e];refine ⟨by omega,λh m=>?_⟩;rcases i2 h m with g | g
    ·exact .inl g
    ·exact .inr (by omega)
  ·rw[if_neg c] at h;cases h
theorem gr.tb {d:Addr} {H:Hp} (o:HO):gr d H (L2.upd H d o):=λb u n h=>by rw[ak n];exact h
theorem cut2 (a b c d:V):ir [a,b,c,d] none (aA 2)=[a,b]:=sy [a,b,c,d] 2 (by show (2:Nat)≤4;decide)
end Pc
namespace L2
theorem ob2 {α0 α1:Type} {p:α0→α1→Prop} {g:Prop} (h:∃a0 a1,p a0 a1) (k:∀a0 a1,p a0 a1→g):g:=by
 obtain ⟨a0,a1,h⟩:=h;exact k a0 a1 h
theorem ob3 {α0 α1 α2:Type} {p:α0→α1→α2→Prop} {g:Prop} (h:∃a0 a1 a2,p a0 a1 a2) (k:∀a0 a1 a2,p a0 a1 a2→g):g:=by
 obtain ⟨a0,a1,a2,h⟩:=h;exact k a0 a1 a2 h
theorem ob4 {α0 α1 α2 α3:Type} {p:α0→α1→α2→α3→Prop} {g:Prop} (h:∃a0 a1 a2 a3,p a0 a1 a2 a3) (k:∀a0 a1 a2 a3,p a0 a1 a2 a3→g):g:=by
 obtain ⟨a0,a1,a2,a3,h⟩:=h;exact k a0 a1 a2 a3 h
theorem ob6 {α0 α1 α2 α3 α4 α5:Type} {p:α0→α1→α2→α3→α4→α5→Prop} {g:Prop} (h:∃a0 a1 a2 a3 a4 a5,p a0 a1 a2 a3 a4 a5) (k:∀a0 a1 a2 a3 a4 a5,p a0 a1 a2 a3 a4 a5→g):g:=by
 obtain ⟨a0,a1,a2,a3,a4,a5,h⟩:=h;exact k a0 a1 a2 a3 a4 a5 h
theorem ob7 {α0 α1 α2 α3 α4 α5 α6:Type} {p:α0→α1→α2→α3→α4→α5→α6→Prop} {g:Prop} (h:∃a0 a1 a2 a3 a4 a5 a6,p a0 a1 a2 a3 a4 a5 a6) (k:∀a0 a1 a2 a3 a4 a5 a6,p a0 a1 a2 a3 a4 a5 a6→g):g:=by
 obtain ⟨a0,a1,a2,a3,a4,a5,a6,h⟩:=h;exact k a0 a1 a2 a3 a4 a5 a6 h
open PySem PySem.Spec PyProof.Rows
theorem fm {K:aF} {n:Nat} {a:Addr} {x0 x1:V} {i0 i1:Nat} {σ:L2.St} {H:Hp} {Q:L2.St→Hp→Prop} (h:H a=aA (.tup [x0,x1])) (hn:2=n) (q:Q ((σ.set i0 (aA x0)).set i1 (aA x1)) H):gTup K n (yw (i5 i0) (yw (i5 i1) gNil)) `r σ H Q:=⟨a,_,rfl,SqT.of h,hn,_,_,rfl,_,_,rfl,rfl,q⟩
theorem O8 {K:aF} {n:Nat} {a:Addr} {x0 x1 x2 x3:V} {i0 i1 i2 i3:Nat} {σ:L2.St} {H:Hp} {Q:L2.St→Hp→Prop} (h:H a=aA (.tup [x0,x1,x2,x3])) (hn:4=n) (q:Q ((((σ.set i0 (aA x0)).set i1 (aA x1)).set i2 (aA x2)).set i3 (aA x3)) H):gTup K n (yw (i5 i0) (yw (i5 i1) (yw (i5 i2) (yw (i5 i3) gNil)))) `r σ H Q:=⟨a,_,rfl,SqT.of h,hn,_,_,rfl,_,_,rfl,_,_,rfl,_,_,rfl,rfl,q⟩
end L2
namespace Pc
open PySem PySem.Spec L2 PyProof.Rows
theorem Sy {K:aF} {v:V} {kt:Addr} {kinds:List Str} {H:Hp} {Q:VK} {E:XK} (p0:isW v) (p1:SqT K H kt `h) (p2:Q (.str `y) H):(kz K) [v,.ref kt] H Q E:=⟨v,kt,kinds,rfl,p0,p1,p2⟩
theorem mkLies {l:Str} {v x:V} {H:Hp} {Q:VK} {E:XK} (p0:isW v) (p1:isW x) (p2:Q (.bl (lies l v x)) H):Cm [.str l,v,x] H Q E:=⟨l,v,x,rfl,p0,p1,p2⟩
theorem mkLaid {K:aF} {st kt wt:Addr} {sh:List V} {kinds:List Str} {ws:List V} {p n:Nat} {H:Hp} {Q:VK} {E:XK} (p0:SqT K H st sh) (p1:SqT K H kt `h) (p2:SqT K H wt ws) (p3:Kinds kinds) (p4:(∀v∈sh,isW v)) (p5:(∀v∈ws,isW v)) (p6:isTerm sh) (p7:eat 1 `au=aA n) (p8:sh.length≤1000) (p9:ws.length≤1000) (p10:∀H',ah H H'→told (bq kinds ws sh p ⟨[],[],[]⟩) H' Q):(Cp K) [.ref st,.ref kt,.ref wt,.int (p:Int)] H Q E:=⟨st,kt,wt,sh,kinds,ws,p,n,rfl,p0,p1,p2,p3,p4,p5,p6,p7,p8,p9,p10⟩
theorem Rc {K:aF} {st kt ut:Addr} {sh:List V} {kinds:List Str} {u:Und} {H:Hp} {Q:VK} {E:XK} (p0:SqT K H st sh) (p1:SqT K H kt `h) (p2:i6 H ut u) (p3:Kinds kinds) (p4:(∀v∈sh,isW v)) (p5:sh.length≤1000) (p6:u.hs.length=(aq kinds sh).length) (p7:∀(l:Addr) (H':Hp),ah H H'→H l=none→HsAt H' l (u.hs.zip (aq kinds sh))→Q `D H'):(rq K) [.ref st,.ref kt,.ref ut] H Q E:=⟨st,kt,ut,sh,kinds,u,rfl,p0,p1,p2,p3,p4,p5,p6,p7⟩
end Pc
namespace L2.Zd
open PySem
section
variable {prog:aU} {w:bA} {A:bE} {E:Value→aE→Prop} {s:aE} {z TI TO i1 i2 l1 l2:Addr} {xs ys:Array Value}
theorem iter_z {f0 f1:Value} {Q:Value→aE→Prop} (hz:IsZ s.heap z TI TO f0 f1) (h:Q `p s):aH `e A (iO `p) Q E s:=by
 have hT:s.TypeIs `p "zip":=⟨_,hz,rfl⟩;refine gU hT dH (bL dH hT hZ ?_ (gV _));show aH _ _ (ret `p) _ _ s
 exact aG ⟨_,rfl,"zip",_,hT,F.slot_zip_next.lookup,h⟩
theorem Lw {κ:Type} [DecidableEq κ] {knd:KeyKind prog w κ} {a b:Value} {Q:Value→aE→Prop} (hh:A.handled=none) (D:cZ z TI TO i1 i2 l1 l2) (hz:IsZip s.heap z TI TO .none) (hTI:bX s.heap TI (.ref i1) (.ref i2)) (hTO:bX s.heap TO a b)
  (h1:s.heap.IsListIter i1 l1 0) (h2:s.heap.IsListIter i2 l2 0) (hl1:s.heap.IsList l1 xs) (hl2:s.heap.IsList l2 ys) (ps:List (κ×Value)) (hn:ps.length=xs.size)
  (hps:∀(i:Nat) (k:κ) (v:Value),ps[i]?=aA (k,v)→∃x,xs[i]?=aA x∧knd.is k x=true∧ys[i]?=aA v) (hsz:ps.length≤sizeLine)
  (h:∀h' tk,h'.DictOf knd s.heap.objs.size (merged [] ps)→(∀c o,c≠z→c≠TO→c≠i1→c≠i2→s.heap.get? c=aA o→h'.get? c=aA o)→Q `m { s with heap:=h',toks:=tk }):
  aH `e A (call (.type "dict") [.ref z]) Q E s:=by
 refine lM (Q₁:=λobj s₁=>obj=.ref s.heap.objs.size∧s₁={ s with heap:=s.heap.push { cls:=.type "dict",data:=.dict #[] } }) F.kt_called_dict (F.kt_typeCall_dict_1 _) F.entry_dict_init (kt_code_dict_new _ ⟨rfl,rfl⟩) ?_;rintro obj s₁ ⟨rfl,rfl⟩;have hnew:(s.heap.push { cls:=.type "dict",data:=.dict #[] }).DictOf knd s.heap.objs.size []:=Heap.DictOf.new s.heap;have gt:∀{c o},s.heap.get? c=aA o→s.heap.objs.size≠c:=λe=>ab4 (aJ e);have up:∀{c o},s.heap.get? c=aA o→(s.heap.push { cls:=.type "dict",data:=.dict #[] }).get? c=aA o:=λe=>aD _ e;have ap:Ap s.heap.objs.size z TI TO i1 i2 l1 l2:=⟨D,gt hz,gt hTI,gt hTO,by obtain ⟨_,e,_⟩:=h1;exact gt e,by obtain ⟨_,e,_⟩:=h2;exact gt e,by obtain ⟨_,e,_⟩:=hl1;exact gt e,by obtain ⟨_,e,_⟩:=hl2;exact gt e⟩;refine ⟨hnew.typeIs,F.args_dict_init_2 _ _,?_⟩;unfold cN.«dict.__init__»;refine aC ?_;unfold Builtin.Dict.selfAndRest;refine aC (wpAny_notOrdered_dict hnew.typeIs ?_);show aH _ _ (pure (s.heap.objs.size,[aY z])) _ _ _
 refine aG ?_;show aH _ _ (jO "dict.__init__" s.heap.objs.size `p [] .none) _ _ _
 unfold jO;have hT:Shared.TypeIs { s with heap:=s.heap.push { cls:=.type "dict",data:=.dict #[] } } `p "zip":=⟨_,up hz,rfl⟩;refine aC (fF hT ?_);rw[if_pos `a];refine aC (Sr (up hz) (by simp[hh]) λh₁ tk₁ kp₁=>?_);rw[if_pos (show (none:Option Value).isNone=true from rfl)];refine aC (eU (aC (iter_z (kp₁ _ _ (up hz)) ?_)));have kp:∀{c o},s.heap.get? c=aA o→h₁.get? c=aA o:=λe=>kp₁ _ _ (up e);have hd₁:h₁.DictOf knd s.heap.objs.size []:=by
  obtain ⟨o,es,ep,ho,r⟩:=hnew;exact ⟨o,es,ep,kp₁ _ _ ho,r⟩
 refine aG ⟨hV kq _,loop (xs:=xs) (ys:=ys) (by simp[hh]) ap ps hn hps ps.length 0 0 _ [] rfl (aag _) ⟨.inl ⟨kp hz,a,b,kp hTO⟩,kp hTI,h1.at λo e=>kp e,h2.at λo e=>kp e,hl1.at λo e=>kp e,hl2.at λo e=>kp e⟩ hd₁ (by show 0+_≤_;omega) λh' tk hd' k'=>⟨rfl,?_⟩⟩;exact h h' tk hd' λc o c2 c3 c4 c5 e=>k' c o (gt e).symm c2 c3 c4 c5 (kp e)
end
end L2.Zd
namespace L2
open PySem PySem.Spec PyProof.Rows
theorem b_zip:bM "zip"=aA (.type "zip"):=by decide+kernel
theorem b_max:bM "max"=aA (.builtin "max"):=by decide+kernel
noncomputable def gc (ps acc:List (Key×V)):List (Key×V):=ps.foldl (λacc p=>putK acc p.1 p.2) acc
theorem KV.Mw:∀{ps:List (Key×V)} {qs:List (Key×Value)},KV ps qs→∀{acc:List (Key×V)} {acc':List (Key×Value)},KV acc acc'→KV (gc ps acc) (merged acc' qs)
 | _,_,.nil,_,_,r=>r
 | (k,v)::ps,(k',u)::qs,.cons h t,acc,acc',r=>by
  obtain ⟨h1,h2⟩:=h;have h1:k=k':=h1;subst h1;exact KV.Mw t (r.put k h2)
theorem qx:∀(ps acc:List (Key×V)),(gc ps acc).length≤acc.length+ps.length
 | [],acc=>aa3 _
 | p::ps,acc=>by
  have h1:=qx ps (putK acc p.1 p.2);have h2:=jb acc p.1 p.2;show (gc ps (putK acc p.1 p.2)).length≤_
  rw[aa8];omega
theorem Pq:∀{ks:List Key} {ys:List V} {us:List Value},Vals ys us→KV (ks.zip ys) (ks.zip us)
 | [],_,_,_=>.nil
 | _::_,_,_,.nil=>.nil
 | k::ks,_,_,.cons r t=>.cons ⟨rfl,r⟩ (Pq t)
def tDZ (K:aF) (ta:TA):TE:=λσ H Q=>ta σ H λvs H1=>∃(l1 l2:Addr) (ks:List Key) (ys:List V),vs=[.ref l1,.ref l2]∧SqL K H1 l1 (ks.map kV)∧SqL K H1 l2 ys∧ks.length=ys.length∧ks.length≤1000∧∀d,H1 d=none→Q `aY (upd H1 d (.dK (gc (ks.zip ys) [])))
section
variable {X:Cx}
theorem Hx {a b:Expr} {ta:TA} {p p2 pos pos2:Pos} (hc:X.calm=true) (hg:Gl X "dict") (hm:X.mg "dict"=none) (hg2:Gl X "zip") (hm2:X.mg "zip"=none) (ha:PA X [a,b] ta)
  (hs:aZ [.Call (.Name "zip" p2) [a,b] [] pos2] X.env=[(false,eval (.Call (.Name "zip" p2) [a,b] [] pos2) X.env)]:=by rfl) (hs2:aZ [a,b] X.env=(false,eval a X.env)::aZ [b] X.env:=by rfl) (hpl:(cF pos2 (aZ [b] X.env)).any (·.1)=false:=by rfl):
  PE X (.Call (.Name "dict" p) [.Call (.Name "zip" p2) [a,b] [] pos2] [] pos) (tDZ X.K ta):=by
 intro pins s σ H Q I h;refine bW (gb I hg hm b_dict ?_);refine bH ?_ hs rfl;rw[hs];show aH _ _ (kU ((false,eval _ X.env)::cF pos [])) _ _ s
 refine dO ?_;refine bW (gb I hg2 hm2 b_zip ?_);refine bH (thn (ha pos2 pins s σ H _ I h) λus s1 ⟨vs,H1,I1,r1,q1⟩=>?_) hs2 hpl;obtain ⟨l1,l2,ks,ys,rfl,e1,e2,hl,hz,q⟩:=q1;obtain ⟨u1,u2,rfl,ru1,ru2⟩:=vals2 r1;cases ru1
 cases ru2
 have sz:=aQ;obtain ⟨i1,v1,p1,_⟩:=I1.list e1;obtain ⟨i2,v2,p2',_⟩:=I1.list e2;have n1:=v1.length;have n2:=v2.length;rw[aa0] at n1;have lt1:l1 < s1.heap.objs.size:=by obtain ⟨_,e,_⟩:=p1.isList;exact aJ e
 have lt2:l2 < s1.heap.objs.size:=by obtain ⟨_,e,_⟩:=p2'.isList;exact aJ e
 refine call_zip_2 p1.isList p2'.isList λh' z1 z2 z3 z4 z5 z6 keep=>fB ?_;have old:∀{b u},s1.heap.get? b=aA u→b < s1.heap.objs.size:=λe=>aJ e;refine Zd.Lw (s:={ s1 with heap:=h' }) (knd:=b9 X.prog X.w) (I1.ok.hd hc) (nG lt1 lt2) z1 z2 z3 z4 z5 (p1.isList.at λo e=>keep _ _ e) (p2'.isList.at λo e=>keep _ _ e) (ks.zip i2) (by rw[abr,aa9];omega) (λi k v hi=>?_) (by rw[abr];omega) λh2 tk hd kp=>?_
 ·obtain ⟨hi1,hi2⟩:=List.getElem?_zip_eq_some.mp hi;obtain ⟨u,hu,ru⟩:=v1.get (i:=i) (x:=kV k) (by rw[aa4,hi1];rfl);exact ⟨u,by rw[acr];exact hu,ug ru,by rw[acr];exact hi2⟩
 ·have zl:(gc (ks.zip ys) []).length≤sizeLine:=by
   have:=qx (ks.zip ys) [];rw[abr,adh] at this;omega
  have le:s1.heap.objs.size≤h'.objs.size:=by rw[z6];omega
  refine ⟨.ref h'.objs.size,_,I1.laid (t':=tk) (λb u e=>kp b u (aal (aan (old e) (aaz _ _))) (aal (aan (old e) (aaz _ _))) (aal (old e)) (aal (aan (old e) (aaz _ _))) (keep b u e)) le (show bw X.prog X.w _ _ _ (.dK (gc (ks.zip ys) [])) from ⟨zl,?_,_,KV.Mw (Pq v2) .nil,hd⟩),rfl,q _ (I1.hok.fresh le)⟩;exact beq_eq_false_iff_ne.mpr (cE (aal (aan I1.big le)))
end
end L2
namespace Pc
open PySem PySem.Spec L2 PyProof.Rows
def TbK (H:Hp) (d:Addr) (g:Ky→Option Int) (ks:List Ky):Prop:=∃kvs:List (List Key×V),H d=aA (.dT kvs)∧kvs.map (·.1)=ks.map kyK∧ks.Nodup∧∀k,dk kvs (kyK k)=(g k).map V.int
theorem TbK.tb {H:Hp} {d:Addr} {g:Ky→Option Int} {ks:List Ky} (h:TbK H d g ks):vh H d g ks.length:=by
 obtain ⟨kvs,h1,h2,_,h3⟩:=h;have:=congrArg ac5 h2;rw[aa0,aa0] at this;exact ⟨kvs,h1,by omega,h3⟩
theorem TbK.at {H H':Hp} {d:Addr} {g:Ky→Option Int} {ks:List Ky} (h:TbK H d g ks) (e:∀o,H d=aA o→H' d=aA o):TbK H' d g ks:=by
 obtain ⟨kvs,h1,h2⟩:=h;exact ⟨kvs,e _ h1,h2⟩
theorem TbK.same {H H':Hp} {d:Addr} {g:Ky→Option Int} {ks:List Ky} (h:TbK H d g ks) (s:ah H H'):TbK H' d g ks:=h.at λo e=>s _ _ e
theorem TbK.nil {H:Hp} {d:Addr}:TbK (upd H d (.dT [])) d (λ_=>none) []:=⟨[],aa,rfl,ad3,λ_=>rfl⟩
theorem TbK.mem {H:Hp} {d:Addr} {g:Ky→Option Int} {ks:List Ky} (h:TbK H d g ks) (k:Ky):k∈ks↔(g k).isSome=true:=by
 obtain ⟨kvs,h1,h2,h3,h4⟩:=h;have e:(dk kvs (kyK k)).isSome=(g k).isSome:=by rw[h4 k];cases g k <;> rfl
 rw[←e,←j0,List.any_eq_true];constructor
 ·intro hk;have:kyK k∈kvs.map (·.1):=by rw[h2];exact List.mem_map.mpr ⟨k,hk,rfl⟩
  obtain ⟨p,hp,e⟩:=List.mem_map.mp this;exact ⟨p,hp,decide_eq_true e⟩
 ·rintro ⟨p,hp,e⟩;have:kyK k∈kvs.map (·.1):=List.mem_map.mpr ⟨p,hp,of_decide_eq_true e⟩;rw[h2] at this;obtain ⟨k',hk',e'⟩:=List.mem_map.mp this;rw[←J9 e'];exact hk'
end Pc
namespace L2
open PySem PySem.Spec PyProof.Rows
structure fu (fs ch:List Addr) (h h':Heap):Prop where
 keep:∀b o,h.get? b=aA o→b∉fs→b∉ch→h'.get? b=aA o
 slot:∀b o,h.get? b=aA o→b∉ch→∃sl,h'.get? b=aA { o with slots:=sl }
theorem fu.refl {fs ch:List Addr} {h:Heap}:fu fs ch h h:=⟨λ_ _ e _ _=>e,λ_ o e _=>⟨o.slots,e⟩⟩
theorem fu.un {fs ch:List Addr} {H:Hp} {h h':Heap} (t:fu fs ch h h') (hc:∀b∈ch,∃o,h'.get? b=aA o):Un fs ch H H h h' where
 keep:=λb o e _ hb hx=>t.keep b o e hb hx
 slot:=λb o e _ _ hx=>t.slot b o e hx
 free:=λ_ _ _ n _=>n
 there:=λb o e hx=>let ⟨_,q⟩:=t.slot b o e hx;⟨_,q⟩
 tups:=λ_ _ e=>e
 frzs:=λ_ _ _ e=>e
 tbls:=λ_ _ e=>⟨#[],by rw[e];simp⟩
theorem fu.hok {P:aU} {w:bA} {fs ch:List Addr} {H:Hp} {h h':Heap} (t:fu fs ch h h') (ok:HOk P w H h) (hf:∀b∈fs,H b=none) (hc:∀b∈ch,H b=none):HOk P w H h':=λb u e=>
 (ok b u e).Fj (λc v hcb q=>by
  have key:∀{z},H c=aA z→h'.get? c=aA v:=λ{z} hz=>t.keep c v q (λx=>by rw[hf c x] at hz;cases hz) λx=>by rw[hc c x] at hz;cases hz
  rcases hcb with rfl | hcb
  ·exact key e
  ·exact key hcb) (λ_ q=>q) λ_ _ q=>q
structure Fly (n:Nat) (H:Hp) (h:Heap) (a:Addr) (cls:Value) (dx:Option Addr):Prop where
 lo:n≤a
 un:H a=none
 ob:∃oe vs,h.get? a=aA oe∧oe.cls=cls∧oe.dict=dx∧oe.data=.fields vs∧1 < vs.size∧
  (vs[1]?=aA .none∨∃T oT ts,vs[1]?=aA (.ref T)∧n≤T∧H T=none∧T≠a∧h.get? T=aA oT∧oT.data=.fields ts∧3 < ts.size)
structure yl (n:Nat) (H:Hp) (h:Heap) (a:Addr) (cls:Value) (dx:Option Addr):Prop where
 lo:n≤a
 un:H a=none
 ob:∃oe vs,h.get? a=aA oe∧oe.cls=cls∧oe.dict=dx∧oe.data=.fields vs∧1 < vs.size∧
  ∃T oT ts,vs[1]?=aA (.ref T)∧n≤T∧H T=none∧T≠a∧h.get? T=aA oT∧oT.data=.fields ts∧3 < ts.size
section
variable {n m:Nat} {H:Hp} {h:Heap} {a:Addr} {cls:Value} {dx:Option Addr}
theorem yl.fly (x:yl n H h a cls dx):Fly n H h a cls dx:=let ⟨oe,vs,h1,h2,h3,h4,h5,h6⟩:=x.ob;⟨x.lo,x.un,oe,vs,h1,h2,h3,h4,h5,.inr h6⟩
theorem Fly.le (x:Fly n H h a cls dx) (hm:m≤n):Fly m H h a cls dx:=by
 obtain ⟨oe,vs,h1,h2,h3,h4,h5,h6⟩:=x.ob;refine ⟨ab6 hm x.lo,x.un,oe,vs,h1,h2,h3,h4,h5,?_⟩;rcases h6 with h6 | ⟨T,oT,ts,k1,k2,k3,k4,k5,k6,k7⟩
 ·exact .inl h6
 ·exact .inr ⟨T,oT,ts,k1,ab6 hm k2,k3,k4,k5,k6,k7⟩
end
section
variable {M:jQ} {A:bE} {E:Value→aE→Prop} {s:aE} {n:Nat} {H:Hp} {a:Addr} {cls:Value} {dx:Option Addr}
theorem yi (o:Obj) (f:Array Value→Array Value):(o.mapFields f).dict=o.dict:=by
 obtain ⟨c,d,dt,sl⟩:=o;cases dt <;> rfl
theorem zw {fr:Option Addr} {Q:Unit→aE→Prop} {fs:List Addr} (F:yl n H s.heap a cls dx)
  (q:∀h' ch,(∀b∈ch,n≤b∧H b=none∧∃o,h'.get? b=aA o)→fu fs ch s.heap h'→yl n H h' a cls dx→Q () { s with heap:=h' }):aH M A (setFlight `r fr) Q E s:=by
 obtain ⟨oe,vs,h1,h2,h3,h4,h5,T,oT,ts,k1,k2,k3,k4,k5,k6,k7⟩:=F.ob;unfold setFlight;refine aC (bC h1 h4 k1 ?_);rw[if_pos (show (aY T !=bV)=true from by simp)];refine fH k5 k6 k7 ?_;have self:=bR (cM (·.setIfInBounds 3 (fr.elim bV λf=>bZ f))) k5 (fI (dP k6 _));have other:∀b o,b≠T→s.heap.get? b=aA o→(s.heap.update T (cM (·.setIfInBounds 3 (fr.elim bV λf=>bZ f)))).get? b=aA o:=λb o hb e=>(bO _ _ (cE hb)).trans e;refine q _ [T] (λb hb=>?_) ⟨λb o e _ hb=>other b o (λz=>hb (by simp[z])) e,λb o e hb=>⟨o.slots,other b o (λz=>hb (by simp[z])) e⟩⟩ ⟨F.lo,F.un,oe,vs,other a oe (cE k4) h1,h2,h3,h4,h5,T,_,_,k1,k2,k3,k4,self,dP k6 _,by simpa using k7⟩;obtain rfl:b=T:=by simpa using hb
 exact ⟨k2,k3,_,self⟩
theorem Ag {base:Heap} {j7 env:Env} {outer:List Env} {L:Addr} {hadNext:Bool} {head:Value} {oe:Obj} {vs:Array Value} {Q:Unit→aE→Prop}
  (hfr:A.frames=aA (j7::outer)) (hl:s.heap.FunFrames base (j7::outer)) (hf0:j7.frame=aA L) (hf:env.frame=aA L) (lo:n≤a) (un:H a=none) (fresh:∀b,s.heap.objs.size≤b→H b=none)
  (h1:s.heap.get? a=aA oe) (h2:oe.cls=cls) (h3:oe.dict=dx) (h4:oe.data=.fields vs) (h5:1 < vs.size)
  (q:∀h' ch,(∀b∈ch,n≤b∧H b=none∧∃o,h'.get? b=aA o)→fu (frs (j7::outer)) ch s.heap h'→yl n H h' a cls dx→Q () { s with heap:=h' }):
  aH M A (do let f ←iW env;let pl ←entryPlaceOf L hadNext;let t ←mO head f .none (bZ L) .none pl;setField `r 1 t) Q E s:=by
 have na:a∉frs (j7::outer):=λhm=>by
  obtain ⟨_,o,ho,hnf⟩:=hl.mem hm;rw[h1] at ho;cases ho
  exact hnf vs h4
 have e0:iW env=iW j7:=by unfold iW;rw[hf,hf0]
 rw[e0];refine aC (wpAny_frameOf_fun hfr hl hf0 λg sl=>?_);refine aC (wpAny_entryPlaceOf λpl hpl=>?_);unfold mO newFields;refine aC (cO ?_ (hpl.sizeOk5 _ _ _ _ _));generalize ht:([head,aY L,.none,bZ L,.none]++(if pl.isEmpty then aba 6 bV else pl)).toArray=ts;have hts:3 < ts.size:=by rw[←ht];simp only[aa9,aa2,aa8,adh] <;> omega
 have g1:g.get? a=aA oe:=(sl.2.1 a na).trans h1;have sz:g.objs.size=s.heap.objs.size:=sl.1;have p1:(g.push { cls:=.type "traceback",dict:=none,data:=.fields ts }).get? a=aA oe:=aD _ g1;refine fH p1 h4 h5 ?_;have na2:g.objs.size≠a:=ab4 (aJ g1);have d1:=dP h4 (·.setIfInBounds 1 (aY g.objs.size));have u1:=bR (cM (·.setIfInBounds 1 (aY g.objs.size))) p1 (fI d1);have u2:((g.push { cls:=.type "traceback",dict:=none,data:=.fields ts }).update a (cM (·.setIfInBounds 1 (aY g.objs.size)))).get? g.objs.size=aA { cls:=.type "traceback",dict:=none,data:=.fields ts }:=
  (bO _ _ (cE na2)).trans (aI g rfl)
 have other:∀b o,b≠a→g.get? b=aA o→((g.push { cls:=.type "traceback",dict:=none,data:=.fields ts }).update a (cM (·.setIfInBounds 1 (aY g.objs.size)))).get? b=aA o:=λb o hb e=>
  (bO _ _ (cE hb)).trans (aD _ e)
 refine q _ [a] (λb hb=>?_) ⟨λb o e hb hc=>other b o (λz=>hc (by simp[z])) ((sl.2.1 b hb).trans e),λb o e hc=>?_⟩ ⟨lo,un,_,_,u1,(nP _ _).trans h2,(yi _ _).trans h3,d1,by simpa using h5,g.objs.size,_,_,by simp[h5],?_,?_,na2,u2,rfl,hts⟩
 ·obtain rfl:b=a:=by simpa using hb
  exact ⟨lo,un,_,u1⟩
 ·obtain ⟨sl',e'⟩:=sl.2.2 b o e;exact ⟨sl',other b _ (λz=>hc (by simp[z])) e'⟩
 ·exact ab6 lo (ac7 (aJ g1))
 ·exact fresh _ (by rw[sz];exact aa3 _)
theorem fu.trans {fs c1 c2:List Addr} {h h1 h2:Heap} (x:fu fs c1 h h1) (y:fu fs c2 h1 h2):fu fs (c1++c2) h h2:=by
 refine ⟨λb o e hb hc=>y.keep b o (x.keep b o e hb λz=>hc (abe _ z)) hb λz=>hc (aao _ z),λb o e hc=>?_⟩;obtain ⟨s1,e1⟩:=x.slot b o e λz=>hc (abe _ z);obtain ⟨s2,e2⟩:=y.slot b _ e1 λz=>hc (aao _ z);exact ⟨s2,e2⟩
theorem Ot {base:Heap} {j7 env:Env} {outer:List Env} {L:Addr} {Q:Unit→aE→Prop}
  (hfr:A.frames=aA (j7::outer)) (hl:s.heap.FunFrames base (j7::outer)) (hf0:j7.frame=aA L) (hf:env.frame=aA L) (fresh:∀b,s.heap.objs.size≤b→H b=none) (F:Fly n H s.heap a cls dx)
  (q:∀h' ch,(∀b∈ch,n≤b∧H b=none∧∃o,h'.get? b=aA o)→fu (frs (j7::outer)) ch s.heap h'→yl n H h' a cls dx→Q () { s with heap:=h' }):aH M A (nD `r env) Q E s:=by
 obtain ⟨oe,vs,h1,h2,h3,h4,h5,h6⟩:=F.ob;unfold nD;simp only[hf];rcases h6 with h6 | ⟨T,oT,ts,k1,k2,k3,k4,k5,k6,k7⟩
 ·refine aC (bC h1 h4 h6 ?_);rw[if_neg `a];exact Ag hfr hl hf0 hf F.lo F.un fresh h1 h2 h3 h4 h5 q
 ·refine aC (bC h1 h4 k1 ?_);rw[if_pos (show (aY T !=bV)=true from by simp)];refine aC (bC k5 k6 (x:=ts[3]) (by simp[k7]) ?_);by_cases hm:(ts[3]==bZ L)=true
  ·rw[if_pos hm];exact aG (q s.heap [] (λb hb=>by cases hb) .refl ⟨F.lo,F.un,oe,vs,h1,h2,h3,h4,h5,T,oT,ts,k1,k2,k3,k4,k5,k6,k7⟩)
  ·rw[if_neg hm];refine aC (fH k5 k6 k7 ?_);have self:=bR (cM (·.setIfInBounds 3 bV)) k5 (fI (dP k6 _));have other:∀b o,b≠T→s.heap.get? b=aA o→(s.heap.update T (cM (·.setIfInBounds 3 bV))).get? b=aA o:=λb o hb e=>(bO _ _ (cE hb)).trans e;have nT:∀b o,s.heap.get? b=aA o→(∀vs,o.data≠.fields vs)→b≠T:=λb o e d z=>by
    rw[z,k5] at e;cases e
    exact d ts k6
   have tu:fu (frs (j7::outer)) [T] s.heap (s.heap.update T (cM (·.setIfInBounds 3 bV))):=⟨λb o e _ hb=>other b o (λz=>hb (by simp[z])) e,λb o e hb=>⟨o.slots,other b o (λz=>hb (by simp[z])) e⟩⟩;refine Ag hfr (hl.of_keeps λb o e d=>⟨o,other b o (nT b o e d) e,rfl⟩) hf0 hf F.lo F.un (λb hb=>fresh b (by rw[show (s.heap.update T (cM (·.setIfInBounds 3 bV))).objs.size=s.heap.objs.size from Heap.size_after_update ..] at hb;exact hb)) (other a oe (cE k4) h1) h2 h3 h4 h5 λh' ch hc tn fl=>?_;refine q h' ([T]++ch) (λb hb=>?_) (tu.trans tn) fl;rcases List.mem_append.mp hb with hb | hb
   ·obtain rfl:b=T:=by simpa using hb
    refine ⟨k2,k3,?_⟩;by_cases hc2:b∈ch
    ·exact (hc b hc2).2.2
    ·obtain ⟨sl,e⟩:=tn.slot b _ self hc2;exact ⟨_,e⟩
   ·exact hc b hb
end
def Bnd (X:Cx) (pins:List (Addr×Obj)) (n:Nat):Prop:=X.s₀.heap.objs.size≤n∧X.env.locals < n∧(∀x c,X.env.cells.lookup x=aA c→c < n)∧∀p∈X.pn++pins,p.1 < n
def XE (X:Cx) (E:XK):Value→aE→Prop:=λe s'=>∃pins σ H n a cls dx,e=.ref a∧Inv X pins σ H s'∧Bnd X pins n∧Fly n H s'.heap a cls dx∧E cls dx H
noncomputable abbrev Cx.xp (X:Cx) (E:XK):Cx:=X.wa (XE X E)
def Jt (X:Cx):Prop:=∃j7 outer0 L,X.stack=j7::outer0∧j7.frame=aA L∧X.env.frame=aA L
noncomputable def CXE (P:aU) (w:bA):CXT:=λouter H s E e s'=>∃H' a cls dx,e=.ref a∧s'.os=s.os∧gL s'.gens∧Un (frs outer) [] H H' s.heap s'.heap∧HOk P w H' s'.heap∧Fly s.heap.objs.size H' s'.heap a cls dx∧E cls dx H'
section
variable {X:Cx} {pins:List (Addr×Obj)} {σ:St} {H:Hp} {s:aE} {n:Nat} {a:Addr} {cls:Value} {dx:Option Addr} {M:jQ} {A:bE} {E':Value→aE→Prop} {env:Env} {E:XK}
theorem Inv.bnd (I:Inv X pins σ H s):Bnd X pins s.heap.objs.size:=
 ⟨I.sz,I.lt,λx c e=>let ⟨_,z⟩:=I.cell x c e;z.lt,λp hp=>aJ (I.pin p hp).1⟩
theorem Inv.turn {ch:List Addr} {h':Heap} (I:Inv X pins σ H s) (B:Bnd X pins n) (hc:∀b∈ch,n≤b∧H b=none∧∃o,h'.get? b=aA o) (t:fu (frs X.stack) ch s.heap h'):Inv X pins σ H { s with heap:=h' }:=by
 refine I.call (g':=s.gens) (d':=s.drawn) (t':=s.toks) (t.un λb hb=>(hc b hb).2.2) (t.hok I.hok I.wu λb hb=>(hc b hb).2.1) I.bare λb hb=>?_;have lo:=(hc b hb).1;exact ⟨.inr (ab6 B.1 lo),ab4 (aan B.2.1 lo),λx c e=>aal (aan (B.2.2.1 x c e) lo),λp hp=>aal (aan (B.2.2.2 p hp) lo)⟩
theorem Qt {Q:Unit→aE→Prop} (I:Inv X pins σ H s) (B:Bnd X pins n) (F:Fly n H s.heap a cls dx) (S:Jt X) (hA:A.frames=X.A.frames) (hE:env.frame=X.env.frame)
  (q:∀h',Inv X pins σ H { s with heap:=h' }→yl n H h' a cls dx→Q () { s with heap:=h' }):aH M A (nD `r env) Q E' s:=by
 obtain ⟨j7,outer0,L,hs,h0,h1⟩:=S;have fr:A.frames=aA (j7::outer0):=by rw[hA,I.ok.frames,hs]
 have st:=I.stack;rw[hs] at st;refine Ot fr st h0 (hE.trans h1) (λb hb=>I.hok.fresh hb) F λh' ch hc t fl=>q h' (I.turn B hc ?_) fl;rw[hs];exact t
theorem vt {fr:Option Addr} {Q:Unit→aE→Prop} (I:Inv X pins σ H s) (B:Bnd X pins n) (F:yl n H s.heap a cls dx)
  (q:∀h',Inv X pins σ H { s with heap:=h' }→yl n H h' a cls dx→Q () { s with heap:=h' }):aH M A (setFlight `r fr) Q E' s:=
 zw (fs:=frs X.stack) F λh' ch hc t fl=>q h' (I.turn B hc t) fl
theorem yl.head {h:Heap} (F:yl n H h a cls dx):∃oe vs T,h.get? a=aA oe∧oe.data=.fields vs∧vs[1]?=aA (.ref T):=
 let ⟨oe,vs,h1,_,_,h4,_,T,_,_,k1,_⟩:=F.ob;⟨oe,vs,T,h1,h4,k1⟩
theorem Gk (S:Jt X):PassesOwn `d X.A X.env (XE X E):=by
 rintro e s' ⟨pins,σ,H,n,a,cls,dx,rfl,I,B,F,q⟩;refine Qt I B F S rfl rfl λh' I' F'=>?_;obtain ⟨oe,vs,T,h1,h2,h3⟩:=F'.head;show aH _ _ _ _ _ _
 refine aC (bC (s:={ s' with heap:=h' }) h1 h2 h3 ?_);rw[if_neg (show ¬((aY T==bV)=true) from by simp)];exact vt I' B F' λh'' I'' F''=>⟨pins,σ,H,n,a,cls,dx,rfl,I'',B,F''.fly,q⟩
theorem Uj {e:Value} {R:Value→aE→Prop} (S:Jt X) (hx:X.ex=[]) (z:XE X E e s) (q:∀s',CXE X.prog X.w X.outer X.H₀ X.s₀ E e s'→R e s'):aH M X.A (leaving X.env e) (λ_ s'=>R e s') E' s:=by
 obtain ⟨pins,σ,H,n,a,cls,dx,rfl,I,B,F,qE⟩:=z;unfold leaving;refine aC (Qt I B F S rfl rfl λh' I' F'=>?_);refine vt (s:={ s with heap:=h' }) I' B F' λh'' I'' F''=>q _ ?_;have u:=I''.base;rw[hx] at u;exact ⟨H,a,cls,dx,rfl,I''.os,I''.bare,u,I''.hok,F''.fly.le B.1,qE⟩
theorem passX:Passes (CXE X.prog X.w) (X.xp E) E:=by
 rintro pins σ H s e s' I ⟨H',a,cls,dx,rfl,os,bare,un,hok,F,q⟩;have I0:=I.ib;exact ⟨pins,σ,H',_,a,cls,dx,rfl,I0.N5 (ch:=[]) os un hok bare (λb z=>absurd z `b),I0.bnd,F,q⟩
end
section
variable {P:aU} {w:bA} {K:aF} {mg:Str→Option Value} {base:Heap}
theorem Ij {CX:CXT} {N:List Str} {qual:Str} {scope:Scope} {f:Addr} {cd:Value} {A:bE} {outer:List Env} {s:aE} {H:Hp} {E:XK}:Jt (qr CX P w K mg base N qual scope f cd A outer s H E):=⟨_,_,_,rfl,rfl,rfl⟩
theorem Fun.okX {x qual:Str} {st:Stmt} {f:Addr} {fd:cP} {N ps:List Str} {k:Nat} {sp:Sp} (F:Fun K x qual st f fd) (S:av N ps (af st)) (len:∀vs H Q E,sp vs H Q E→vs.length=ps.length)
  (hbody:∀(cdv:Value) (A:bE) (outer:List Env) (s:aE) (H:Hp) (vs:List V) (Q:VK) (E:XK),ie k (A.deeper (gE qual (af st) s.heap.objs.size f cdv))→sp vs H Q E→
   ∃t,PSs ((qr (CXE P w) P w K mg base N qual (af st) f cdv A outer s H E).xp E) (au st) t∧t { nx:=λ_ H'=>Q .non H',rt:=Q } (start N vs) H):ox P w K mg base (CXE P w) (k+1) f fd ps sp:=by
 obtain ⟨oc,od,kV,doc,pm,an,cdv,ct,osl,rfl,lk,hcd⟩:=F.ex;refine fn_of lk hcd S len λA outer s H vs Q E hr hsp=>?_;obtain ⟨t,h,q⟩:=hbody cdv A outer s H vs Q E hr hsp;refine ⟨t,λpins s' σ H' D I hw=>bG (h pins s' σ H' D (I.wa _) hw) (λ_ _ q=>q.ib) λe s'' z=>?_,q⟩;exact Uj Ij rfl z λ_ y=>y
def rb (P:aU) (w:bA) (K:aF) (mg:Str→Option Value) (base:Heap) (k:Nat) (x:Str) (ps:List Str) (sp:Sp):Prop:=
 ∃(f:Addr) (fd:cP),ox P w K mg base (CXE P w) k f fd ps sp∧Binds K fd ps []∧aO K (.ref f)=true∧mg x=aA (.ref f)
theorem rb.up {j k:Nat} {x:Str} {ps:List Str} {sp:Sp} (h:rb P w K mg base j x ps sp) (l:j≤k):rb P w K mg base k x ps sp:=by
 obtain ⟨f,fd,F,r⟩:=h;exact ⟨f,fd,F.mono l,r⟩
theorem Def.hasX {k:Nat} {x:Str} {st:Stmt} {N ps:List Str} {sp:Sp} (D:Def K mg x st ps) (S:av N ps (af st)) (len:∀vs H Q E,sp vs H Q E→vs.length=ps.length)
  (hbody:∀(f:Addr) (cdv:Value) (A:bE) (outer:List Env) (s:aE) (H:Hp) (vs:List V) (Q:VK) (E:XK),ie k (A.deeper (gE x (af st) s.heap.objs.size f cdv))→sp vs H Q E→
   ∃t,PSs ((qr (CXE P w) P w K mg base N x (af st) f cdv A outer s H E).xp E) (au st) t∧t { nx:=λ_ H'=>Q .non H',rt:=Q } (start N vs) H):rb P w K mg base (k+1) x ps sp:=by
 obtain ⟨f,fd,F,b,m⟩:=D;exact ⟨f,fd,F.okX S len λcdv A outer s H vs Q E hr h=>hbody f cdv A outer s H vs Q E hr h,b,F.kp,m⟩
end
section
variable {X:Cx} {E:XK} {k:Nat} {ps:List Str} {sp:Sp} {x:Str} {p pos:Pos} {e:Expr} {es:List Expr} {t:TA}
theorem Ju (h:rb X.prog X.w X.K X.mg X.base k x ps sp) (hr:ie k X.A) (ha:PA (X.xp E) (e::es) t) (hg:Gl X x:=by rfl) (hdb:(x==("__debug__":Str))=false:=by decide+kernel)
  (he:aZ (e::es) X.env=(false,eval e X.env)::aZ es X.env:=by rfl) (hpl:(cF pos (aZ es X.env)).any (·.1)=false:=by rfl):
  PE (X.xp E) `az (E9 sp [] E t):=by
 obtain ⟨f,fd,F,b,kp,m⟩:=h;exact Dr (X:=X.xp E) F hr hg m kp b .nil passX ha hdb he hpl
end
end L2
namespace PySem
open Sem (wp)
structure Xc (K:W.Frag) (C:Addr) (bm:List Value):Prop where
 lk:∃nm q N bs sn sub ab col dd k0 k1 k2 k3 k5,K.lookup C=aA (kS nm q C N bs bm true sn sub ab col dd k0 k1 k2 k3 k5 "ValueError.__new__")
 hv:bm.contains (.type "ValueError")=true
 hb:bm.contains (.type "BaseException")=true
 ha:bm.contains (.type "AttributeError")=false
 hn:bm.contains (.type "NameError")=false
 ho:bm.contains (.type "object")=true
 kp:W.keepIn K (.ref C)=true
 sa:∀self:Value,refuseLoop self "__setattr__" bm=pure ()
 fs:jJ K (.ref C) "__setattr__"=aA `aS
 fg:jJ K (.ref C) "__getattribute__"=aA `aO
 fh:jJ K (.ref C) "__getattr__"=aA none
 fc:jJ K (.ref C) "__class__"=aA (aA `ay)
section
variable {prog:aU} {w:bA} {A:bE} {E:Value→aE→Prop} {K:W.Frag} {C:Addr} {bm rest:List Value} {init:Value}
theorem Q5 {h:Heap} {g:Array lT} {d:Drawn} {t:Nat} {os:OsState} {R:iE→aE→Prop} (X:K.In h) (c:Xc K C bm) (hl:rest.length≤sizeLine)
  (q:R (.ok (.ret (.ref (h.objs.size+1)))) ⟨(h.push { cls:=.type "tuple",data:=.seq rest.toArray }).push { cls:=.ref C,data:=.fields #[.ref h.objs.size,.none,.none,.none,.bool false,.none] },g,d,t,os⟩):
  dM `e A (.builtin "ValueError.__new__" ⟨.ref C::rest,[]⟩) R ⟨h,g,d,t,os⟩:=by
 obtain ⟨nm,qn,N,bs,sn,sub,ab,col,dd,k0,k1,k2,k3,k5,lk⟩:=c.lk;have hC:=X _ _ lk;have Fv:=fS;have hends:=Fv.ends;have z1:(aY C::bm).contains (.type "ValueError")=true:=by rw[acj,c.hv,aed]
 have z2:(aY C::bm).contains (.type "AttributeError")=false:=by rw[acj,c.ha];rfl
 have z3:(aY C::bm).contains (.type "NameError")=false:=by rw[acj,c.hn];rfl
 refine codeAny_builtinAt Fv.entry ?_;unfold cN.«BaseException.__new__»;refine wpAt_bind ?_;show wpAt _ _ _ (stack >>=_) _ _ _
 refine wpAt_bind (wpAt_stack λp below=>wpAt_of_wpAny ?_);wp_walk
 refine wpAt_of_wpAny ?_;rw[Fv.owner];repeat (first | with_reducible refine wpAny_madeHere_exc Fv.canon hC ?_ | with_reducible refine cU hC ?_ | (with_reducible refine fY hC ?_;first | rw[z1] | rw[z2] | rw[z3]) | wp_step)
 show R _ _
 rw[bB];exact q
theorem Ik {h:Heap} {g:Array lT} {d:Drawn} {t:Nat} {os:OsState} {Q:Fin→aE→Prop} (X:K.In h) (c:Xc K C bm) (hi:jJ K (.ref C) "__init__"=aA (aA init))
  (hb:∀self,W.Looks `e h (bindSpecial init self) (init,[self])) (hl:rest.length≤sizeLine)
  (q:aH `e A (call init (.ref (h.objs.size+1)::rest)) (λr s'=>r=.none∧Q (.done (.ret (.ref (h.objs.size+1)))) s') E
   ⟨(h.push { cls:=.type "tuple",data:=.seq rest.toArray }).push { cls:=.ref C,data:=.fields #[.ref h.objs.size,.none,.none,.none,.bool false,.none] },g,d,t,os⟩):
  aH `e A (cN.«type.__call__» ⟨.ref C::rest,[]⟩) Q E ⟨h,g,d,t,os⟩:=by
 obtain ⟨nm,qn,N,bs,sn,sub,ab,col,dd,k0,k1,k2,k3,k5,lk⟩:=c.lk;have hC:=X _ _ lk;have Fv:=fS;repeat (first | with_reducible refine cU hC ?_ | with_reducible refine wpAny_madeBy_exc hC ?_ | wp_step)
 refine codeAny_call_builtin_code (gI _ Fv.quiet) (wpAny_check_new_subU Fv c.hv .base hC ?_);refine Q5 X c hl ?_;show aH _ _ _ _ _ _
 have kk:∀b o,h.get? b=aA o→((h.push { cls:=.type "tuple",data:=.seq rest.toArray }).push { cls:=.ref C,data:=.fields #[.ref h.objs.size,.none,.none,.none,.bool false,.none] }).get? b=aA o:=
  λb o e=>aD _ (aD _ e)
 have hC2:=kk _ _ hC;have he:((h.push { cls:=.type "tuple",data:=.seq rest.toArray }).push { cls:=.ref C,data:=.fields #[.ref h.objs.size,.none,.none,.none,.bool false,.none] }).get? (h.objs.size+1)=aA
   { cls:=.ref C,data:=.fields #[.ref h.objs.size,.none,.none,.none,.bool false,.none] }:=by heap_get
 have z4:(aY C::bm).contains (.ref C)=true:=by simp
 unfold isInstance;repeat (first | with_reducible refine cU he ?_ | (with_reducible refine fY hC2 ?_;rw[z4]) | wp_step)
 show aH _ _ (dZ (.ref C) _) _ _ _
 refine ((W.looks_findIn X hi).keeps kk).here ?_;refine bK (aC (((hb _).keeps kk).here ?_));refine aC (bG q (λr s' hr=>?_) λ_ _ z=>z);obtain ⟨rfl,hQ⟩:=hr;wp_walk
 exact hQ
theorem Nb {s:aE} {Q:Value→aE→Prop} (X:K.In s.heap) (c:Xc K C bm) (hi:jJ K (.ref C) "__init__"=aA (aA init)) (hb:∀self,W.Looks `e s.heap (bindSpecial init self) (init,[self]))
  (hl:rest.length≤sizeLine)
  (q:aH `e (A.under (.builtin "type.__call__" ⟨.ref C::rest,[]⟩)) (call init (.ref (s.heap.objs.size+1)::rest)) (λr s'=>r=.none∧Q (.ref (s.heap.objs.size+1)) s') E
   { s with heap:=(s.heap.push { cls:=.type "tuple",data:=.seq rest.toArray }).push { cls:=.ref C,data:=.fields #[.ref s.heap.objs.size,.none,.none,.none,.bool false,.none] } }):
  aH `e A (call (.ref C) rest) Q E s:=by
 obtain ⟨h,g,d,t,os⟩:=s;obtain ⟨nm,qn,N,bs,sn,sub,ab,col,dd,k0,k1,k2,k3,k5,lk⟩:=c.lk;have hC:=X _ _ lk;dsimp only at hC q;have g1:=tc_lookup;have g2:=tc_bind (.ref C);have g3:(⟨h,g,d,t,os⟩:aE).TypeIs (.ref C) "type":=⟨_,hC,rfl⟩;refine iY (jV ?_);show aH _ _ (callAny (.ref C) _) _ _ _
 repeat (any_goals (first | assumption | with_reducible refine cU hC ?_ | wp_step))
 refine ⟨rfl,?_⟩;refine codeAny_call_builtin_at (gI _ `c) entry_typeCall (wpAny_check_type_call_sub hC (Ik X c hi hb hl ?_));exact q
end
end PySem
namespace PySem
open Sem (wp)
open Builtin Builtin.ObjectAttr
section
variable {prog:aU} {w:bA} {A:bE} {E:Value→aE→Prop} {K:W.Frag} {C x:Addr} {bm rest:List Value} {h:Heap} {g:Array lT} {d:Drawn} {t:Nat} {os:OsState} {o:Obj} {vs:Array Value}
theorem Mj {R:iE→aE→Prop} (X:K.In h) (c:Xc K C bm) (hx:h.get? x=aA o) (hc:o.cls=.ref C) {t0:Addr} (hd:o.data=.fields #[.ref t0,.none,.none,.none,.bool false,.none]) (hl:rest.length≤sizeLine)
  (q:R (.ok (.ret .none)) ⟨(h.push { cls:=.type "tuple",data:=.seq rest.toArray }).update x (cM (·.setIfInBounds 0 (.ref h.objs.size))),g,d,t,os⟩):
  dM `e A (.call (.builtin "ValueError.__init__") ⟨.ref x::rest,[]⟩) R ⟨h,g,d,t,os⟩:=by
 obtain ⟨nm,qn,N,bs,sn,sub,ab,col,dd,k0,k1,k2,k3,k5,lk⟩:=c.lk;have hC:=X _ _ lk;have Fv:=fS;have z1:(aY C::bm).contains (.type "ValueError")=true:=by rw[acj,c.hv,aed]
 have short:=Fv.noStar;refine eF Fv.init.plain Fv.initEntry ?_;simp only[checkBuiltinCall,Fv.initKind,Fv.initSplit,Fv.initRow];repeat (first | (with_reducible refine cU hx ?_;rw[hc]) | with_reducible refine cU hC ?_ | (with_reducible refine fY hC ?_;rw[z1]) | wp_step)
 refine eP ?_;rw[show ∀(a b:String) (n:Nat),Bind.check ⟨.positional,"*","ValueError",.self,[⟨"args",.varPos,false⟩]⟩ a b n (acz (λy=>y.fst) ({ pos:=aY x::rest }:Args).kw)=pure () from λa b n=>check_star_args _ _ _ _ _ _];refine aG ?_;unfold cN.«BaseException.__init__»;have hx2:(h.push { cls:=.type "tuple",data:=.seq rest.toArray }).get? x=aA o:=aD _ hx;have hz:0 < (#[.ref t0,.none,.none,.none,.bool false,.none]:Array Value).size:=by show 0 < 6;decide
 have hz1:(#[.ref t0,.none,.none,.none,.bool false,.none]:Array Value)[0]?=aA (.ref t0):=rfl;repeat (first | with_reducible refine bC hx2 hd hz1 ?_ | with_reducible refine fH hx2 hd hz ?_ | wp_step)
 all_goals first | exact q | skip
theorem xraise {env:Env} {s:aE} {m:Sem Value} {Q:Flow→aE→Prop} (hh:A.handled=none)
  (q:aH `e A m (λv s₁=>∃e o vs C bm,v=.ref e∧K.In s₁.heap∧Xc K C bm∧s₁.heap.get? e=aA o∧o.cls=.ref C∧o.data=.fields vs∧vs[1]?=aA .none∧E (.ref e) s₁) E s):
  aH `e A (raiseStmt env (aA m) none) Q E s:=by
 unfold raiseStmt;refine aC (bG q (λv s₁ h₁=>?_) λ_ _ x=>x);obtain ⟨e,o,vs,C,bm,rfl,X,c,he,hc,hd,h1,hE⟩:=h₁;obtain ⟨nm,qn,N,bs,sn,sub,ab,col,dd,k0,k1,k2,k3,k5,lk⟩:=c.lk;have hC:=X _ _ lk;have z1:(aY C::bm).contains (.type "BaseException")=true:=by rw[acj,c.hb,aed]
 obtain ⟨hp,g,d,tk,os⟩:=s₁;obtain ⟨oc,od,odt,osl⟩:=o;obtain rfl:oc=.ref C:=hc;obtain rfl:odt=.fields vs:=hd;dsimp only at X he hC hE;repeat (first | with_reducible refine cU he ?_ | with_reducible refine cU hC ?_ | (with_reducible refine fY hC ?_;rw[z1]) | wp_step)
 rw[h1];refine aG ?_;rw[if_neg `a];exact aG (wpAny_raiseNew_none hh hE)
end
end PySem
namespace L2
open PySem PySem.Spec PyProof.Rows
def wb (C:Addr) (E:XK) (t:TA):TS:=λ_ σ H=>t σ H λvs H1=>vs.length≤100∧E (.ref C) none H1
section
variable {X:Cx} {E:XK} {k:Nat} {f C:Addr} {bm:List Value} {fd:cP} {ps:List Str} {sp:Sp} {x:Str} {p cpos pos:Pos} {e:Expr} {es:List Expr} {t:TA}
theorem Mq (c:Xc X.K C bm) (hi:bP X.K (.ref C) "__init__"=aA (aA (.builtin "ValueError.__init__"))) (hr:ie k X.A) (hm:X.mg x=aA (.ref C)) (ha:PA (X.xp E) (e::es) t) (hg:Gl X x:=by rfl) (hdb:(x==("__debug__":Str))=false:=by decide+kernel)
  (he:aZ (e::es) X.env=(false,eval e X.env)::aZ es X.env:=by rfl) (hpl:(cF cpos (aZ es X.env)).any (·.1)=false:=by rfl):
  PS (X.xp E) (.Raise (aA (.Call (.Name x p) (e::es) [] cpos)) none pos) (wb C E t):=by
 intro pins s σ H D I h;rw[arm_exec_Raise];refine aC (fR (xraise (K:=X.K) hr.hd (aC (bG (bW (Cb I hg hm ?_ hdb)) (λv s₃ h₃=>aC (fR (aG h₃))) λ_ _ x=>x))));refine mY (h₀:=X.base) I.ok.mod.kin c.kp (thn (ha cpos pins s σ H _ I h) λus s1 ⟨vs,H1,I1,r,hl,q⟩=>⟨I1.kIn,?_⟩) he hpl;have hl2:us.length≤sizeLine:=by
  rw[aQ,←r.length];omega
 refine Nb I1.kIn c hi (λself=>PySem.W.Looks.of_pure (PySem.F.excBase_ValueError.init.bind self)) hl2 ?_;obtain ⟨h1,g,d,tk,os⟩:=s1;have kk:∀b o,h1.get? b=aA o→((h1.push { cls:=.type "tuple",data:=.seq us.toArray }).push { cls:=.ref C,data:=.fields #[.ref h1.objs.size,.none,.none,.none,.bool false,.none] }).get? b=aA o:=
  λb o e=>aD _ (aD _ e)
 have sz:(h1.push { cls:=.type "tuple",data:=.seq us.toArray }).objs.size=h1.objs.size+1:=bB ..;have g1:=aI (h1.push { cls:=.type "tuple",data:=.seq us.toArray }) (o:={ cls:=.ref C,data:=.fields #[.ref h1.objs.size,.none,.none,.none,.bool false,.none] }) rfl;rw[sz] at g1;refine iY (Mj (λb o e=>kk b o (I1.kIn b o e)) c g1 rfl rfl hl2 ⟨rfl,?_⟩);have g2:=bR (cM (·.setIfInBounds 0 `aw))
  (aD { cls:=.type "tuple",data:=.seq us.toArray } g1) rfl
 have k3:∀b o,h1.get? b=aA o→((((h1.push { cls:=.type "tuple",data:=.seq us.toArray }).push { cls:=.ref C,data:=.fields #[.ref h1.objs.size,.none,.none,.none,.bool false,.none] }).push { cls:=.type "tuple",data:=.seq us.toArray }).update (h1.objs.size+1)
   (cM (·.setIfInBounds 0 `aw))).get? b=aA o:=λb o e=>
  (bO _ _ (ab4 (abw (aJ e)))).trans (aD _ (kk b o e))
 have I3:=I1.kept (t':=tk) k3;exact ⟨_,_,_,C,bm,rfl,I3.kIn,c,g2,rfl,rfl,rfl,pins,σ,H1,h1.objs.size,_,.ref C,none,rfl,I3.ib,I1.ib.bnd,⟨ab7 _,I1.hok.fresh (ab7 _),_,_,g2,rfl,rfl,rfl,(by show 1 < 6;decide),.inl rfl⟩,q⟩
end
section
variable {X:Cx} {E:XK} {k:Nat} {C:Addr} {bm:List Value} {ps:List Str} {sp:Sp} {x:Str} {p cpos pos:Pos} {e:Expr} {es:List Expr} {t:TA}
theorem Jl (h:rb X.prog X.w X.K X.mg X.base k x ps sp) (hr:ie k X.A) (ha:PA X (e::es) t) (hg:Gl X x:=by rfl) (hdb:(x==("__debug__":Str))=false:=by decide+kernel)
  (he:aZ (e::es) X.env=(false,eval e X.env)::aZ es X.env:=by rfl) (hpl:(cF pos (aZ es X.env)).any (·.1)=false:=by rfl):
  PE X `az (E9 sp [] E0 t):=by
 obtain ⟨f,fd,F,b,kp,m⟩:=h;refine Dr F hr hg m kp b .nil ?_ ha hdb he hpl;rintro pins σ H s e s' I ⟨H',a,cls,dx,rfl,os,bare,un,hok,F,q⟩;exact q.elim
end
end L2
namespace Pc
open PySem PySem.Spec L2 PyProof.Rows
structure Cl where
 cov:Addr
 noTerm:Addr
 noBox:Addr
 badCover:Addr
 noCover:Addr
 badRow:Addr
 noValue:Addr
 twice:Addr
 noName:Addr
 badShape:Addr
 badDeed:Addr
 unsound:Addr
noncomputable abbrev vbm:List Value:=[.type "ValueError",.type "Exception",.type "BaseException",.type "object"]
noncomputable abbrev cbm (c:Cl):List Value:=.ref c.cov::vbm
theorem Xc.mk' {K:aF} {C:Addr} {bm:List Value} {nm q:Str} {N:Addr} {bs:List Value} {sn:List Str} {sub:List Value} {ab:Bool} {col:Option Bool} {dd:Option Addr} {k0 k1 k2 k3 k5:Option Value}
  (lk:K.lookup C=aA (kS nm q C N bs bm true sn sub ab col dd k0 k1 k2 k3 k5 "ValueError.__new__")) (kp:aO K (.ref C)=true) (fs:bP K (.ref C) "__setattr__"=aA `aS)
  (fg:bP K (.ref C) "__getattribute__"=aA `aO) (fh:bP K (.ref C) "__getattr__"=aA none) (fc:bP K (.ref C) "__class__"=aA (aA `ay))
  (hb:bm=vbm∨∃D,bm=.ref D::vbm):Xc K C bm where
 lk:=⟨_,_,_,_,_,_,_,_,_,_,_,_,_,_,lk⟩
 hv:=by rcases hb with rfl | ⟨D,rfl⟩ <;> rfl
 hb:=by rcases hb with rfl | ⟨D,rfl⟩ <;> rfl
 ha:=by rcases hb with rfl | ⟨D,rfl⟩ <;> rfl
 hn:=by rcases hb with rfl | ⟨D,rfl⟩ <;> rfl
 ho:=by rcases hb with rfl | ⟨D,rfl⟩ <;> rfl
 kp:=kp
 sa:=λself=>by
  rcases hb with rfl | ⟨D,rfl⟩
  ·exact PySem.F.store_ValueError.passes self
  ·rw[refuseLoop_ref];exact PySem.F.store_ValueError.passes self
 fs:=fs
 fg:=fg
 fh:=fh
 fc:=fc
theorem find_name {rs:List Rl} (nd:(rs.map (·.name)).Nodup):∀{i:Nat} {r:Rl},rs[i]?=aA r→rs.find? (λx=>decide (x.name=r.name))=aA r:=by
 induction rs with
 | nil=>intro i r h;simp at h
 | cons x rs ih=>
  intro i r h;have nd:(x.name::rs.map (·.name)).Nodup:=nd;obtain ⟨n1,n2⟩:=List.nodup_cons.mp nd;cases i with
  | zero=>
   cases h
   rw[List.find?_cons_of_pos `b]
  | succ i=>
   have h:rs[i]?=aA r:=h;have ne:¬x.name=r.name:=λe=>n1 (e ▸ List.mem_map.mpr ⟨r,aai h,rfl⟩);rw[List.find?_cons_of_neg (by simpa using ne)];exact ih n2 h
def Hw (H:Hp) (t:Addr) (r:Rl) (u:Und):Prop:=∃ra ut:Addr,H t=aA (.tup [.ref ra,.ref ut])∧mi H ra r∧i6 H ut u
def Hd (H:Hp) (l:Addr) (ks:List Ky):Prop:=∃as:List Addr,H l=aA `f∧as.length=ks.length∧∀(j:Nat) (k:Ky),ks[j]?=aA k→∃a,as[j]?=aA a∧H a=aA (kyT k)
def Cs:Sp:=λvs H Q _=>∃(b t:Addr) (kinds:List Str) (rs:List Rl) (r:Rl) (u:Und),vs=[.ref b,.ref t]∧qz H b kinds rs∧Bk kinds rs∧r∈rs∧Hw H t r u∧u.hs.length=(aq kinds r.shape).length∧∀(l:Addr) (H':Hp),ah H H'→H l=none→Hd H' l (u.hs.zip (aq kinds r.shape)).reverse→Q `D H'
theorem mkLast {b t:Addr} {kinds:List Str} {rs:List Rl} {r:Rl} {u:Und} {H:Hp} {Q:VK} {E:XK} (p0:qz H b kinds rs) (p1:Bk kinds rs) (p2:r∈rs) (p3:Hw H t r u) (p4:u.hs.length=(aq kinds r.shape).length) (p5:∀(l:Addr) (H':Hp),ah H H'→H l=none→Hd H' l (u.hs.zip (aq kinds r.shape)).reverse→Q `D H'):Cs [.ref b,.ref t] H Q E:=⟨b,t,kinds,rs,r,u,rfl,p0,p1,p2,p3,p4,p5⟩
end Pc
namespace L2.Lrv
open PySem PySem.Spec PyProof.Rows PySem.W
theorem Ia:dZ (.type "list_reverseiterator") "__len__"=pure none:=by rw[eW,dD];kernel_rfl
theorem hint:dZ (.type "list_reverseiterator") "__length_hint__"=pure (aA (.builtin "list_reverseiterator.__length_hint__")):=by rw[eW,dD];kernel_rfl
section
variable {prog:aU} {w:bA} {A:bE} {E:Value→aE→Prop} {s:aE} {r:Addr}
theorem Qi {Q:Bool→aE→Prop} (hT:s.TypeIs (.ref r) "list_reverseiterator") (h:Q false s):aH `e A (fO (.ref r)) Q E s:=by
 unfold fO;refine aC (gA hT Ia ?_);show aH _ A (specialOf (aY r) (aB "__length_hint__") >>=_) _ _ _
 refine aC (gA hT hint ?_);generalize hid:("list_reverseiterator.__length_hint__":String)=id0;wp_delta
 rw[show splitId id0=aA ("list_reverseiterator","__length_hint__") from by subst hid;decide+kernel];subst hid;refine aC (dN (T:="list_reverseiterator") (b:=true) hT (by rw[isSubtype_type];kernel_rfl) ?_);refine gC (λhab=>absurd hab `a) (λ_=>?_);refine gC (λ_=>?_) (λhab=>absurd `c hab);refine gC (λhab=>absurd hab `c) (λ_=>?_);exact aG h
theorem Hi {R:iE→aE→Prop} {I l:Addr} {items:Array Value} (hh:A.handled=none) (hI:s.heap.IsRevIter I l ((items.size:Int) - 1)) (hl:s.heap.IsList l items) (hne:l≠I) (hn:items.size≤sizeLine) (S:Addr) (hSI:S≠I) (hSl:S≠l) (res:Value) (c₀:Nat) (hS:s.heap.get? S=aA { cls:=.type "list",data:=.seq #[] c₀ })
  (hR:∀h' tk acc' c',(∀b o,b≠S→b≠I→s.heap.get? b=aA o→h'.get? b=aA o)→h'.get? S=aA { cls:=.type "list",dict:=none,data:=.seq acc' c',slots:=#[] }→ItemsOf (λi v=>items[items.size - 1 - i]?=aA v) acc' items.size→R (.ok (.ret res)) { s with heap:=h',toks:=tk }):
  aH `e A.in1 (bU (.ref S) (.ref I) res)
   (λfin s'=>match fin with | .done f=>R (.ok f) s' | .again c'=>c'.quiet=true∧dM `e A c' R s') (λe s'=>R (.error e) s') s:=by
 have W:=Walks.listRev (prog:=prog) (w:=w) (A:=A.in1) hh I l hne items;have hSf:S∉[I,l]:=by simp only[aam,aac,or_false,not_or];exact ⟨hSI,hSl⟩
 have key:∀(h:Heap) (c₁ tk:Nat),(0≤items.size∧h.IsRevIter I l ((items.size:Int) - 1 - ((0:Nat):Int))∧h.IsList l items)→(∀b o,b≠S→s.heap.get? b=aA o→h.get? b=aA o)→
   h.get? S=aA { cls:=.type "list",data:=.seq #[] c₁ }→dM `e A (.builtin "list.extend.loop" ⟨[.ref S,.ref I,res],[]⟩) R { s with heap:=h,toks:=tk }:=by
  intro h c₁ tk hst hk hS₁;refine codeAny_extend_loopS W.toS hn S hSf res items.size 0 _ #[] c₁ rfl (aag _) hst hS₁ (ItemsOf.nil _) λs' acc' c' hm hS' hacc=>?_;rw[Moved.eq_with hm];refine hR s'.heap s'.toks acc' c' (λb o hb hbI e=>hm.heap b o (λhmem=>?_) (hk b o hb e)) hS' hacc;rcases List.mem_cons.mp hmem with e' | hmem
  ·exact hb e'
  ·exact hbI (List.mem_singleton.mp hmem)
 have hT:=hI.typeIs;unfold bU;refine aC (fF (T:="list_reverseiterator") hT ?_);have h1:eL (.ref S) (.ref I)=false:=by simp[eL,hSI]
 have h2:(cX "list_reverseiterator"==cX "list")=false:=by decide
 have h3:(cX "list_reverseiterator"==cX "tuple")=false:=by decide
 simp only[h1,h2,h3,adq,abi,if_false];refine aC (wpAny_pyIter_revIter hI ?_);refine aC (bK (Qi hT ?_));refine gC (λhab=>absurd hab `a) (λ_=>aG ⟨hV dF _,key _ c₀ _ ⟨aag _,by rw[show (items.size:Int) - 1 - ((0:Nat):Int)=(items.size:Int) - 1 by omega];exact hI,hl⟩ (λb o _ e=>e) hS⟩)
theorem N6 {Q:Value→aE→Prop} {I l:Addr} {items:Array Value} (hh:A.handled=none) (hI:s.heap.IsRevIter I l ((items.size:Int) - 1)) (hl:s.heap.IsList l items) (hne:l≠I) (hlI:I < s.heap.objs.size) (hll:l < s.heap.objs.size) (hn:items.size≤sizeLine)
  (hQ:∀h' tk acc c,(∀b o,b≠I→s.heap.get? b=aA o→h'.get? b=aA o)→h'.get? s.heap.objs.size=aA { cls:=.type "list",dict:=none,data:=.seq acc c,slots:=#[] }→ItemsOf (λi v=>items[items.size - 1 - i]?=aA v) acc items.size→Q `m { s with heap:=h',toks:=tk }):
  aH `e A (call (.type "list") [.ref I]) Q E s:=by
 refine lM (Q₁:=λobj s₁=>obj=.ref s.heap.objs.size∧s₁={ s with heap:=s.heap.push { cls:=.type "list",data:=.seq #[] } }) mM (jL _) jM
  (code_list_new _ ⟨rfl,rfl⟩) λobj s₁ h₁=>?_
 obtain ⟨rfl,rfl⟩:=h₁;have hS:(s.heap.push { cls:=.type "list",data:=.seq #[] }).get? s.heap.objs.size=aA { cls:=.type "list",data:=.seq #[] }:=aI _ rfl;refine ⟨⟨_,hS,rfl⟩,jI _ _,?_⟩;show aH _ _ (do let old ←eZ `m;jN `m (λ_=>#[]);letGo old.toList.reverse;bU `m (.ref I) .none) _ _ _
 refine aC ?_;unfold eZ;refine aC (bQ hS rfl (aG ?_));show aH _ _ (jU s.heap.objs.size (λ_=>#[]) >>=λ_=>letGo (#[]:Array Value).toList.reverse >>=λ_=>bU `m (.ref I) .none) _ _ _
 refine aC (gB hS rfl ?_);have hS₂:=bR (cR (λ_=>(#[]:Array Value))) hS rfl;have oth:∀b o,b≠s.heap.objs.size→(s.heap.push { cls:=.type "list",data:=.seq #[] }).get? b=aA o→((s.heap.push { cls:=.type "list",data:=.seq #[] }).update s.heap.objs.size (cR (λ_=>(#[]:Array Value)))).get? b=aA o:=λb o hb e=>(bO _ _ (cE hb)).trans e;refine aC (fW ?_);have up:∀b o,b < s.heap.objs.size→s.heap.get? b=aA o→((s.heap.push { cls:=.type "list",data:=.seq #[] }).update s.heap.objs.size (cR (λ_=>(#[]:Array Value)))).get? b=aA o:=λb o hb e=>oth b o (aal hb) (aD _ e);refine Hi (A:=A.in1) hh (hI.at λo e=>up I o hlI e) (hl.at λo e=>up l o hll e) hne hn s.heap.objs.size (ab4 hlI) (ab4 hll) .none _ hS₂ λh' tk acc c hk hS' hacc=>?_;exact ⟨rfl,hQ h' tk acc c (λb o hbI e=>hk b o (aal (aJ e)) hbI (up b o (aJ e) e)) hS' hacc⟩
end
end L2.Lrv
namespace L2
open PySem PySem.Spec PyProof.Rows
def tLR (K:aF) (ta:TA):TE:=λσ H Q=>ta σ H λvs H1=>∃(l:Addr) (xs:List V),vs=[.ref l]∧SqL K H1 l xs∧∀p,H1 p=none→Q `a4 (upd H1 p (.lst xs.reverse))
section
variable {X:Cx}
theorem yx {a:Expr} {ta:TA} {p p2 pos pos2:Pos} (hc:X.calm=true) (hg:Gl X "list") (hm:X.mg "list"=none) (hg2:Gl X "reversed") (hm2:X.mg "reversed"=none) (ha:PA X [a] ta)
  (hs:aZ [.Call (.Name "reversed" p2) [a] [] pos2] X.env=[(false,eval (.Call (.Name "reversed" p2) [a] [] pos2) X.env)]:=by rfl) (hs2:aZ [a] X.env=[(false,eval a X.env)]:=by rfl):
  PE X (.Call (.Name "list" p) [.Call (.Name "reversed" p2) [a] [] pos2] [] pos) (tLR X.K ta):=by
 intro pins s σ H Q I h;refine bW (gb I hg hm Dv ?_);refine bH ?_ hs rfl;rw[hs];show aH _ _ (kU ((false,eval _ X.env)::cF pos [])) _ _ s
 refine dO ?_;refine bW (gb I hg2 hm2 Hv ?_);refine bH (thn (ha pos2 pins s σ H _ I h) λus s1 ⟨vs,H1,I1,r1,q1⟩=>?_) hs2 rfl;obtain ⟨l,xs,e,hq,q⟩:=q1;subst e;obtain ⟨u1,rfl,ru1⟩:=vals1 r1;cases ru1
 obtain ⟨its,rv,pl,hz⟩:=I1.list hq;have hlen:=rv.length;refine call_reversed_list pl.isList (fB ?_);have lt:l < s1.heap.objs.size:=by
  obtain ⟨o,ho,_⟩:=pl.isList;exact aJ ho
 have hsz:(s1.heap.push (revObj l ((its.toArray.size:Int) - 1))).objs.size=s1.heap.objs.size+1:=bB _ _;refine Lrv.N6 (s:={ s1 with heap:=s1.heap.push (revObj l ((its.toArray.size:Int) - 1)) }) (I:=s1.heap.objs.size) (l:=l) (items:=its.toArray) (I1.ok.hd hc) ⟨_,aI _ rfl,rfl,rfl⟩ (pl.isList.at λo e=>aD _ e) (aal lt) (by rw[hsz];exact aek _) (by rw[hsz];exact abw lt) (by rw[aa9,←hlen];exact hz) λh' tk acc c kp hL hacc=>?_;have k2:∀b o,s1.heap.get? b=aA o→h'.get? b=aA o:=λb o e=>kp b o (aal (aJ e)) (aD _ e);have ea:acc.toList=its.reverse:=by
  apply aeg
  intro j;have h1:acc.size=its.length:=by
   have h1:acc.size=its.toArray.size:=hacc.1;rw[h1,aa9]
  by_cases hj:j < its.length
  ·have hj2:j < acc.size:=by omega
   have g:its.toArray[its.toArray.size - 1 - j]?=aA acc[j]:=hacc.2 j _ (aat hj2);rw[acr,aa9] at g;rw[adb hj,g,aco,aat hj2]
  ·rw[abt (by rw[abf];omega),abt (by rw[ab8];omega)]
 refine ⟨.ref _,_,I1.laid (t':=tk) k2 (show s1.heap.objs.size≤(s1.heap.push (revObj l ((its.toArray.size:Int) - 1))).objs.size by rw[hsz];exact ab7 _) (show bw X.prog X.w _ h' _ (.lst xs.reverse) from ⟨by rw[ab8];exact hz,its.reverse,c,rv.reverse,by rw[←ea,ae6];exact hL⟩),rfl,q _ (I1.hok.fresh (by rw[hsz];exact ab7 _))⟩
end
section
open Builtin Builtin.Str
end
section
variable {X:Cx} {v o a:Expr} {tv to ta:TE} {p1 p2 pos apos cpos:Pos} {c y z:Str} {j j1 j2:Nat}
def Q9 (tv:TE):TE:=λσ H Q=>tv σ H λx H1=>∃z,x=.str z∧(∀c∈z.cps.toList,c < 128)∧z.length≤1000000∧∀m,Q (.str m) H1
theorem Sq (hv:PE X v tv) (hc:c.length≤100:=by decide+kernel):PE X (.JoinedStr [.FormattedValue v 114 none p1,.Constant (.str c) j p2] pos) (Q9 tv):=by
 intro pins s σ H Q I h;refine jW ?_;refine jB (thn (hv pins s σ H _ I h) λu s1 ⟨x,H1,I1,r1,z,e,ha,hz,q⟩=>?_);subst e;obtain ⟨t,rfl⟩:=r1;have hl:=lZ z λc hc=>aea (ha c hc) `a;have sz:=aQ;refine pyReprObj_str ?_ (by omega);have e0:∀w:Str,(gD++w).length=w.length:=λw=>by rw[cD];exact abn _
 refine jX (λt' tk=>⟨_,t',rfl,by rw[e0];omega,?_⟩) (by omega);refine iM ⟨c,_,rfl,by rw[cD,e0];omega,by rw[cD,e0];omega,?_⟩;exact ⟨.str _,H1,I1.tok _,⟨_,rfl⟩,q _⟩
end
abbrev TF:=St→Hp→(Hp→Prop)→Prop
def PF (X:Cx) (es:List Expr) (n:Nat) (t:TF):Prop:=
 ∀(pins:List (Addr×Obj)) (s:aE) (σ:St) (H:Hp) (Q:Hp→Prop) (acc:Str),Inv X pins σ H s→acc.length+n≤sizeLine→t σ H Q→
  Joins `d X.A X.xe (evalEach es X.env) acc (λout s1=>out.length≤sizeLine∧∃H1,Inv X pins σ H1 s1∧Q H1) s
noncomputable def tF0:TF:=λ_ H Q=>Q H
noncomputable def tFR (tv:TE) (t:TF):TF:=λσ H Q=>tv σ H λx H1=>∃z,x=.str z∧(∀c∈z.cps.toList,c < 128)∧z.length≤1000∧t σ H1 Q
noncomputable def tFI (tv:TE) (t:TF):TF:=λσ H Q=>tv σ H λx H1=>∃a,x=.int a∧a.natAbs.log2 < 1920∧t σ H1 Q
def tFmts (t:TF):TE:=λσ H Q=>t σ H λH1=>∀m,Q (.str m) H1
section
variable {X:Cx} {v e1 e2:Expr} {es:List Expr} {tv:TE} {t:TF} {p pos:Pos} {c:Str} {j n:Nat}
theorem pf_nil:PF X [] 0 tF0:=λpins s σ H Q acc I ha h=>⟨ha,H,I,h⟩
theorem pf_c (r:PF X es n t) (hc:c.length≤100:=by decide+kernel):PF X (.Constant (.str c) j p::es) (100+n) t:=λpins s σ H Q acc I ha h=>
 iM ⟨c,_,rfl,by rw[cD];omega,r pins _ σ H Q _ (I.tok _) (by rw[cD];omega) h⟩
theorem pf_r (hv:PE X v tv) (r:PF X es n t):PF X (.FormattedValue v 114 none p::es) (20000+n) (tFR tv t):=λpins s σ H Q acc I ha h=>by
 refine jB (thn (hv pins s σ H _ I h) λu s1 ⟨x,H1,I1,r1,z,e,hz,hl,q⟩=>?_);subst e;obtain ⟨t,rfl⟩:=r1;have hl:=lZ z λc hc=>aea (hz c hc) `a;have sz:=aQ;refine pyReprObj_str ?_ (by omega);exact jX (λt' tk=>⟨_,t',rfl,by rw[cD];omega,r pins _ σ H1 Q _ (I1.tok _) (by rw[cD];omega) q⟩) (by omega)
theorem pf_i (hv:PE X v tv) (r:PF X es n t):PF X (.FormattedValue v (-1) none p::es) (2000+n) (tFI tv t):=λpins s σ H Q acc I ha h=>by
 refine fT (thn (hv pins s σ H _ I h) λu s1 ⟨x,H1,I1,r1,a,e,hl,q⟩=>?_);subst e;obtain ⟨t,rfl⟩:=r1;have hx:(aB (toString a)).length≤1921:=by rw[lP];exact nI `a hl
 have sz:=aQ;refine lQ hl ?_;exact ⟨_,_,rfl,by rw[cD];show _+(aB (toString a)).length≤_;omega,r pins _ σ H1 Q _ (I1.tok _) (by rw[cD];show _+(aB (toString a)).length+_≤_;omega) q⟩
theorem Sx (h:PF X (e1::e2::es) n t) (hn:n≤1000000:=by decide):PE X (.JoinedStr (e1::e2::es) pos) (tFmts t):=by
 intro pins s σ H Q I hq;have sz:=aQ;refine jW ?_;have:=h pins s σ H _ gD I (by show 0+n≤_;omega) hq;have mono:∀(xs:List (Sem Value)) (acc:Str) (Q Q':Str→aE→Prop) (s:aE),(∀o s,Q o s→Q' o s)→Joins `d X.A X.xe xs acc Q s→Joins `d X.A X.xe xs acc Q' s:=by
  intro xs;induction xs with
  | nil=>intro acc Q Q' s hQ h;exact hQ _ _ h
  | cons x r ih=>intro acc Q Q' s hQ h;exact thn h λu s1 ⟨y,t,e,hl,hj⟩=>⟨y,t,e,hl,ih _ _ _ _ hQ hj⟩
 exact mono _ _ _ _ _ (λo s1 ⟨hl,H1,I1,q⟩=>⟨hl,.str o,H1,I1.tok _,⟨_,rfl⟩,q o⟩) this
end
end L2
theorem L2.us6 {α:Type} {P:List α→Prop} {us:List α} (hl:us.length=6) (h:∀a b c d e f,P [a,b,c,d,e,f]):P us:=
 match us,hl with
 | [_,_,_,_,_,_],_=>h _ _ _ _ _ _
namespace Pc
open PySem PySem.Spec L2 PyProof.Rows
theorem xg {kinds:List Str} {ws:List V} (hk:Kinds kinds) (hw:∀v∈ws,isW v):∀(sh:List V) (p:Nat) (u u':Und) (d m:Nat),(∀v∈sh,isW v)→pend d (sh.map arV)=aA 0→eat d `au=aA m→(∀h∈u.hs,h < ws.length)→bq kinds ws sh p u=aA u'→∀h∈u'.hs,h < ws.length
 | [],p,u,u',d,m,_,_,_,hu,h=>by
  have h:aA u=aA u':=h;cases h
  exact hu
 | v::r,p,u,u',0,m,_,hp,_,_,_=>nomatch hp
 | v::r,p,u,u',d+1,m,hs,hp,he,hu,h=>by
  have hpl:p < ws.length:=by
   rcases adk p ws.length with g | g
   ·exact g
   ·rw[ac6 g] at he;cases he
  have hx:ws[p]?=aA ws[p]:=aa1 hpl;rw[dr] at h;have eg:ws.getD p .non=ws[p]:=by rw[aaj,hx];rfl
  rw[eg] at h;by_cases c:lies `y v ws[p]=true
  ·rw[if_pos c] at h;obtain ⟨d',m',h1,h2⟩:=gx hk (hs v aa6) hx (hw _ (aaf hpl)) hp he c;refine xg hk hw r _ _ u' d' m' (λx hx=>hs x (aab _ hx)) h1 h2 (λy hy=>?_) h;unfold Und.put at hy;split at hy
   ·rcases List.mem_append.mp hy with z | z
    ·exact hu y z
    ·rw[List.mem_singleton.mp z];exact hpl
   ·split at hy
    ·exact hu y hy
    ·split at hy
     ·exact hu y hy
     ·exact hu y hy
  ·rw[if_neg c] at h;cases h
theorem Mm (kinds:List Str) (sh:List V):∀z∈aq kinds sh,z∈kinds:=λz hz=>by
 unfold aq at hz;obtain ⟨v,_,hv⟩:=List.mem_filterMap.mp hz;cases v with
 | str y=>
  dsimp only at hv;split at hv
  ·cases hv
   assumption
  ·cases hv
 | _=>cases hv
theorem Lx (kinds:List Str) (sh:List V):(aq kinds sh).length≤sh.length:=ad1 _ _
noncomputable def du (kinds:List Str) (rs:List Rl) (ws:List V) (nm kd:Str) (p:Nat):Option (Rl×Und):=
 match rs.find? (λr=>decide (r.name=nm)) with
 | some r=>if r.kind=kd then (bq kinds ws r.shape p ⟨[],[],[]⟩).map (λu=>(r,u)) else none
 | none=>none
theorem En {kinds:List Str} {rs:List Rl} {ws:List V} {p i:Nat} {r:Rl} (bk:Bk kinds rs) (h:rs[i]?=aA r):du kinds rs ws r.name r.kind p=(bq kinds ws r.shape p ⟨[],[],[]⟩).map (λu=>(r,u)):=by
 unfold du;rw[find_name bk.nd h];dsimp only;rw[if_pos rfl]
theorem Ln {kinds:List Str} {rs:List Rl} {ws:List V} {p:Nat} {nm kd:Str} (h:∀(i:Nat) (x:Rl),rs[i]?=aA x→x.name=nm→x.kind=kd→bq kinds ws x.shape p ⟨[],[],[]⟩=none):du kinds rs ws nm kd p=none:=by
 unfold du;cases e:rs.find? (λr=>decide (r.name=nm)) with
 | none=>rfl
 | some r=>
  dsimp only;by_cases c:r.kind=kd
  ·obtain ⟨i,hi⟩:=List.mem_iff_getElem?.mp (adv e);rw[if_pos c,h i r hi (by simpa using aeq e) c];rfl
  ·rw[if_neg c]
theorem oa {kinds:List Str} {rs:List Rl} {ws:List V} {p:Nat} {nm kd:Str} {r:Rl} {u:Und} (h:du kinds rs ws nm kd p=aA (r,u)):r∈rs∧r.name=nm∧r.kind=kd∧bq kinds ws r.shape p ⟨[],[],[]⟩=aA u:=by
 unfold du at h;cases e:rs.find? (λr=>decide (r.name=nm)) with
 | none=>rw[e] at h;cases h
 | some x=>
  rw[e] at h;dsimp only at h;by_cases c:x.kind=kd
  ·rw[if_pos c] at h;obtain ⟨u',h1,h2⟩:=Option.map_eq_some_iff.mp h;cases h2
   exact ⟨adv e,by simpa using aeq e,c,h1⟩
  ·rw[if_neg c] at h;cases h
noncomputable def Ae (kinds:List Str) (d:Rl×Und):List Ky:=d.2.hs.zip (aq kinds d.1.shape)
noncomputable def cf (kinds:List Str) (rs:List Rl) (ws:List V):List Str→List Ky→Option (List (Rl×Und))
 | [],[]=>aA []
 | [],_::_=>none
 | _::_,[]=>none
 | nm::r,k::st=>match du kinds rs ws nm k.2 k.1 with
  | some d=>(cf kinds rs ws r (Ae kinds d++st)).map (d::·)
  | none=>none
theorem gs {kinds:List Str} {rs:List Rl} {ws:List V} {nm:Str} {r:List Str} {k:Ky} {st:List Ky} {d:Rl×Und} (h:du kinds rs ws nm k.2 k.1=aA d):cf kinds rs ws (nm::r) (k::st)=(cf kinds rs ws r (Ae kinds d++st)).map (d::·):=by
 simp only[cf,h]
theorem g9 {kinds:List Str} {rs:List Rl} {ws:List V} {nm:Str} {r:List Str} {k:Ky} {st:List Ky} (h:du kinds rs ws nm k.2 k.1=none):cf kinds rs ws (nm::r) (k::st)=none:=by
 simp only[cf,h]
theorem vm {kinds:List Str} {rs:List Rl} {ws:List V}:∀{ns:List Str} {st:List Ky} {ds:List (Rl×Und)},cf kinds rs ws ns st=aA ds→ds.length=ns.length∧∀d∈ds,d.1∈rs
 | [],[],ds,h=>by cases h;exact ⟨rfl,λd hd=>nomatch hd⟩
 | [],_::_,ds,h=>nomatch h
 | _::_,[],ds,h=>nomatch h
 | nm::r,k::st,ds,h=>by
  cases e:du kinds rs ws nm k.2 k.1 with
  | none=>rw[g9 e] at h;cases h
  | some d=>
   rw[gs e] at h;obtain ⟨ds',h1,rfl⟩:=Option.map_eq_some_iff.mp h;obtain ⟨g1,g2⟩:=vm h1;refine ⟨by rw[aa8,aa8,g1],λx hx=>?_⟩;rcases List.mem_cons.mp hx with rfl | hx
   ·exact (oa (r:=x.1) (u:=x.2) e).1
   ·exact g2 x hx
def KyOk (ws:List V) (st:List Ky):Prop:=∀k∈st,k.1 < ws.length∧jj k.2
theorem KyOk.step {kinds:List Str} {rs:List Rl} {ws:List V} (bk:Bk kinds rs) (tw:Tw ws) (kt:∀z∈kinds,jj z) {k:Ky} {st:List Ky} (h:KyOk ws (k::st)) {nm:Str} {d:Rl×Und} (hr:du kinds rs ws nm k.2 k.1=aA d):KyOk ws (Ae kinds d++st)∧(Ae kinds d).length≤100∧d.2.hs.length=(aq kinds d.1.shape).length:=by
 obtain ⟨h1,h2,h3,h4⟩:=oa (r:=d.1) (u:=d.2) hr;obtain ⟨w1,w2,w3⟩:=bk.sh _ h1;obtain ⟨n,hn⟩:=tw.eat (h k aa6).1;have li:=xg bk.kd (λv hv=>(tw.w v hv).1) _ _ _ _ 1 n w1 w2 hn (λ_ z=>(aac z).elim) h4;have hl:d.2.hs.length=(aq kinds d.1.shape).length:=by
  have:=(uo bk.kd _ _ _ _ w1 h4).1;simpa using this
 refine ⟨λx hx=>?_,?_,hl⟩
 ·rcases List.mem_append.mp hx with hx | hx
  ·have:=ac9 (show (x.1,x.2)∈_ from hx);exact ⟨li _ this.1,kt _ (Mm _ _ _ this.2)⟩
  ·exact h x (aab _ hx)
 ·unfold Ae;have:=Lx kinds d.1.shape;rw[abr];omega
def KsL (H:Hp) (as:List Addr) (ks:List Ky):Prop:=as.length=ks.length∧∀(j:Nat) (k:Ky),ks[j]?=aA k→∃a,as[j]?=aA a∧H a=aA (kyT k)
theorem KsL.tk {H H':Hp} {as:List Addr} {ks:List Ky} (h:KsL H as ks) (s:TK H H'):KsL H' as ks:=⟨h.1,λj d e=>by obtain ⟨a,a1,a2⟩:=h.2 j d e;exact ⟨a,a1,s _ _ a2⟩⟩
theorem KsL.app {H:Hp} {as bs:List Addr} {ks js:List Ky} (h:KsL H as ks) (g:KsL H bs js):KsL H (as++bs) (ks++js):=by
 refine ⟨by rw[aa2,aa2,h.1,g.1],λj x hj=>?_⟩;by_cases c:j < ks.length
 ·rw[aak c] at hj;obtain ⟨a',h1,h2⟩:=h.2 j x hj;exact ⟨a',by rw[aak (by rw[h.1];exact c)];exact h1,h2⟩
 ·rw[aah (by omega)] at hj;obtain ⟨a',h1,h2⟩:=g.2 _ x hj;exact ⟨a',by rw[aah (by rw[h.1];omega),h.1];exact h1,h2⟩
theorem KsL.one {H:Hp} {a:Addr} {k:Ky} (h:H a=aA (kyT k)):KsL H [a] [k]:=⟨rfl,λj x hj=>by
 cases j with
 | zero=>cases hj;exact ⟨a,rfl,h⟩
 | succ j=>simp at hj⟩
theorem KsL.pop {H:Hp} {as:List Addr} {k:Ky} {st:List Ky} (h:KsL H as (k::st).reverse):∃(bs:List Addr) (a:Addr),as=bs++[a]∧KsL H bs st.reverse∧H a=aA (kyT k):=by
 obtain ⟨h1,h2⟩:=h;rw[acm] at h1 h2;rw[aa2,aa5] at h1;have hne:as≠[]:=λe=>by rw[e] at h1;simp at h1
 obtain ⟨a,ha,hk⟩:=h2 st.reverse.length k (by rw[aah (aa3 _),ad0];rfl);have el:as.length - 1=st.reverse.length:=by omega
 have ea:as.getLast hne=a:=by
  rw[List.getLast_eq_getElem];have:=(List.getElem?_eq_some_iff.mp ha).2;rw[←this];congr 1
 refine ⟨as.dropLast,a,by rw[←ea,List.dropLast_concat_getLast],⟨by rw[ae5];omega,λj x hj=>?_⟩,hk⟩;have hjl:=(List.getElem?_eq_some_iff.mp hj).1;obtain ⟨a',h3,h4⟩:=h2 j x (by rw[aak hjl];exact hj);refine ⟨a',?_,h4⟩;rw[List.getElem?_dropLast,if_pos (by omega)];exact h3
theorem Hd.l {H:Hp} {l:Addr} {ks:List Ky} (h:Hd H l ks):∃as:List Addr,H l=aA `f∧KsL H as ks:=by
 obtain ⟨as,h1,h2,h3⟩:=h;exact ⟨as,h1,h2,h3⟩
theorem Ta {P:Str→Prop} {xs ys:List Str} (h:∀z∈xs,P z) (g:∀z∈ys,P z):∀z∈xs++ys,P z:=λz hz=>(List.mem_append.mp hz).elim (h z) (g z)
theorem zx (x:Int) {n:Nat} (h:0 < n):∃i:Nat,i < n∧x % (n:Int)=(i:Int):=by
 have h1:=ab9 x (show (n:Int)≠0 by omega);have h2:=abk x (show (0:Int) < (n:Int) by omega);exact ⟨(x % (n:Int)).toNat,by omega,by omega⟩
end Pc
namespace PySem
open Sem (wp)
open AutoSeq1 (wpAny_loadPart')
theorem Fw (a v:Value):checkTypeCall "enumerate" ⟨[a],[("start",v)]⟩=pure ():=by kernel_rfl
theorem Je (a v:Value):checkBuiltinCall "enumerate.__new__" ⟨[.type "enumerate",a],[("start",v)]⟩=pure ():=by kernel_rfl
theorem Em (a b v:Value):argsOk "object.__init__" ⟨[a,b],[("start",v)]⟩:=by
 unfold argsOk;rw[signature?_of (id:="object.__init__") (n:="__tini__".toList) (o:="tcejbo".toList) (by kernel_rfl) F.owner_object];kernel_rfl
noncomputable def ik (l:Addr):Obj:={ cls:=.type "list_iterator",data:=.fields #[.ref l,.int 0 0] }
noncomputable def ig (it:Addr):Obj:={ cls:=.type "enumerate",data:=.fields #[.none,.bool false,.ref it,bZ 1,.none,.none] }
theorem K4 (l:Addr) (items:Array Value) (n:Nat) (t:Tok) (dct:Option Addr) (sl:Array (Option Value)):
  Meets (cN.«enumerate.__new__» ⟨[.type "enumerate",.ref l],[("start",.int 1 t)]⟩) (λ_ R s=>s.heap.get? l=aA { cls:=.type "list",dict:=dct,data:=.seq items n,slots:=sl }∧
   R (.ok (.ret `aN)) { s with heap:=(s.heap.push (ik l)).push `a1 }):=
 .of_wp λprog w A R s h=>by
  obtain ⟨hp,g,d,tk,os⟩:=s;obtain ⟨hl,h⟩:=h;have hsb:=mK;have hLs:Heap.IsList (fX ⟨hp,g,d,tk,os⟩) l items:=⟨_,hl,rfl,n,rfl⟩;wp_walk using wpAny_loadPart' hl
  refine jY λst=>aG ?_;split
  ·next c _ _ _ _ _=>
   cases (c==cX "enumerate") <;> (wp_walk using wpAny_loadPart' hl,dW hLs;exact ⟨_,rfl,h⟩)
  ·wp_walk using wpAny_loadPart' hl,dW hLs
   exact ⟨_,rfl,h⟩
theorem yg {T newId:String} {self a v:Value} (hl:dZ (.type T) "__init__"=pure (aA (.builtin "object.__init__"))) (hm:Bind.madeBy (.type T)=pure (aA newId)) (hne:(aA newId !=aA "object.__new__")=true):
  Meets (cN.«object.__init__» ⟨[self,a],[("start",v)]⟩) (λ_ R s=>s.TypeIs self T∧R (.ok (.ret .none)) s):=by
 refine Meets.of_wp λprog w A R s ⟨hT,hq⟩=>?_;repeat (any_goals (first | assumption | wp_step))
 exact ⟨_,rfl,hq⟩
section
variable {prog:aU} {w:bA} {A:bE} {E:Value→aE→Prop} {s:aE}
theorem Ni {l:Addr} {t:Tok} {items:Array Value} {Q:Value→aE→Prop} (hL:s.heap.IsList l items)
  (h:Q `aN { s with heap:=(s.heap.push (ik l)).push `a1 }):
  aH `e A (call (.type "enumerate") [.ref l] [("start",.int 1 t)]) Q E s:=by
 have ft:=iQ;obtain ⟨c0,tl,hmro⟩:=ft.mro;have hmade:=ft.made;have hsub:=ft.sub;have hct:=Fw `D (.int 1 t);obtain ⟨⟨c,dct,dt,sl⟩,hl,hc,n,hd⟩:=hL;replace hc:c=.type "list":=hc
 replace hd:dt=.seq items n:=hd
 subst hc hd;refine iY (jV (show aH _ _ (callAny (.type "enumerate") _) _ _ _ from ?_));refine aG ⟨gI _ `c,eV nQ ?_⟩;rw[nJ (lR "enumerate" [.ref l] [("start",.int 1 t)]) (mD _ _ _)];have h1:=ft.notType;have h2:=ft.canCreate;repeat (any_goals (first | assumption | wp_step))
 have hen:(ig s.heap.objs.size).cls=.type "enumerate":=rfl;have hT:({ s with heap:=(s.heap.push (ik l)).push `a1 }:aE).TypeIs `aN "enumerate":=⟨_,aI _ rfl,rfl⟩;refine fE (R:=wants (λv s1=>v=.ref (s.heap.push (ik l)).objs.size∧s1={ s with heap:=(s.heap.push (ik l)).push `a1 }) E) (eF ft.plain iB (nS (Je `D (.int 1 t)) (K4 l items n t dct sl prog w A.in1 _ s ⟨hl,rfl,rfl⟩))) λr s1 hr=>?_;match r,hr with
 | .error e,hr=>exact hr
 | .ok (.ret obj),hr=>
  obtain ⟨rfl,rfl⟩:=hr;have hli:=ft.init.lookup;have hbi:=ft.init.bind `aN;repeat (any_goals (first | assumption | wp_step))
  have gi:=yg (T:="enumerate") (self:=.ref (s.heap.push (ik l)).objs.size) (a:=.ref l) (v:=.int 1 t) ft.init.lookup ft.made `a;refine fE (eF ft.init.plain mP (ft.init.check _ _ _ _ _ _ _ _ hT (Em _ _ _) (gi prog w A.in1 (wants (λr s2=>r=.none∧Q `aN s2) E) _ ⟨hT,rfl,h⟩))) λr2 s2 hr2=>?_;match r2,hr2 with
  | .error e,hr2=>exact hr2
  | .ok (.ret r),hr2=>
   obtain ⟨rfl,hq⟩:=hr2;repeat (any_goals (first | assumption | wp_step))
end
end PySem
namespace L2
open PySem PySem.Spec PyProof.Rows
theorem draws1 {prog:aU} {w:bA} {A:bE} (hh:A.handled=none) (it l:Addr) (hne:l≠it) (items:Array Value):
  Draws prog w A it [it,l] (items.size+1) (λi v=>∃j,i=j+1∧items[j]?=aA v) (λi h=>∃j,i=j+1∧h.IsListIter it l j∧h.IsList l items) where
 live:=λ_ _ ⟨_,_,⟨o,ho,_⟩,_⟩=>⟨o,ho⟩
 frame:=λ_ _ _ ⟨j,e,a,b⟩ hk=>⟨j,e,a.at λo e=>hk it aa6 o e,b.at λo e=>hk l (aab _ aa6) o e⟩
 item:=by
  rintro i s Q E hi ⟨j,rfl,a,b⟩ hQ;have hj:j < items.size:=ae2 hi;exact eY a b (aat hj) λh' a' hs=>hQ _ h' s.toks ⟨j,rfl,aat hj⟩ ⟨j+1,rfl,a',b.extBut hs.extBut hne⟩ hs
 done:=by
  rintro s Q E ⟨j,e,a,b⟩ hE;obtain rfl:j=items.size:=(acp e).symm;exact fG hh a b (abz (aa3 _)) hE
noncomputable def Ite1 (K:aF) (a:Addr):It:=
 ⟨λi H=>∃xs x,SqL K H a xs∧xs[i]?=aA x,λi H x H'=>∃p y,(∀xs,SqL K H a xs→xs[i]?=aA y)∧H p=none∧x=.ref p∧H'=upd H p (.tup [.int ((i+1:Nat):Int),y]),λi H=>∃xs,SqL K H a xs∧xs.length≤i⟩
theorem Io {P:aU} {w:bA} {K:aF} {elts:List Expr} {x1} {tpos:Pos} (a it e:Addr) (hne:e≠it) (hea:e≠a) (hai:a≠it):Turn P w K (.Tuple elts x1 tpos) (Ite1 K a) [e,it] e (λi h=>(∃old,lL h e it ((i+1:Nat):Int) old)∧h.IsListIter it a i) where
 mem:=by simp
 obj:=λi h st b hb=>by
  obtain ⟨⟨old,he⟩,o',e',c',d'⟩:=st;rcases List.mem_cons.mp hb with rfl | z
  ·exact ⟨_,he,λv z=>by cases z⟩
  ·cases List.mem_singleton.mp z
   exact ⟨o',e',λv z=>by rw[d'] at z;cases z⟩
 keep:=λi h h' ⟨⟨old,he⟩,st2⟩ k=>⟨⟨old,k e `b _ he⟩,st2.at λo' e'=>k it `b o' e'⟩
 item:=by
  intro X hP hw hK hc i pins s σ H E I hf st hg;subst hP hw hK;obtain ⟨xs,x,hq,hx⟩:=hg;obtain ⟨⟨old,he⟩,st2⟩:=st;obtain ⟨its,rv,p,hz⟩:=I.list hq;obtain ⟨u,hu,ru⟩:=rv.get hx;have le:e < s.heap.objs.size:=aJ he;have li:it < s.heap.objs.size:=let ⟨_,e',_⟩:=st2;aJ e'
  have hil:i < its.toArray.size:=by
   have:=(List.getElem?_eq_some_iff.mp hu).1;simpa using this
  refine gR (draws1 (A:=X.A.in1) `aF it a hai its.toArray) he ⟨i,rfl,st2,p.isList⟩ (ael hil) hne (λz=>by
   rcases List.mem_cons.mp z with z | z
   ·exact hne z
   ·exact hea (List.mem_singleton.mp z)) λu' h1 tk hP heo hst1 ht1 hz1 hk1=>⟨_,rfl,?_⟩
  obtain ⟨j,ej,hu'⟩:=hP;cases acp ej
  obtain rfl:u'=u:=by
   have:its.toArray[i]?=aA u:=by simpa using hu
   exact aa7 (hu'.symm.trans this)
  obtain ⟨j,ej,hit1,_⟩:=hst1;cases acp ej
  refine dS heo λh2 he2 sb=>?_;have sb:bF e h1 h2:=sb;have hfr:H s.heap.objs.size=none:=I.hok.fresh (aa3 _);have I1:Inv X pins σ (upd H s.heap.objs.size `T) { s with heap:=s.heap.push { cls:=.type "tuple",data:=.seq #[.int ((i+1:Nat):Int) tk,u'] },toks:=tk+1 }:=
   I.laid (t':=tk+1) (λb o' e'=>aD _ e') (aa3 _) (show bw X.prog X.w _ _ _ `T from ⟨by show (2:Nat)≤sizeLine;decide,[.int ((i+1:Nat):Int) tk,u'],.cons ⟨_,rfl⟩ (.cons ru .nil),⟨_,aI _ rfl,rfl,_,rfl,rfl⟩⟩)
  have nup:∀b,b < s.heap.objs.size→(upd H s.heap.objs.size `T) b=H b:=λb hb=>ak (aal hb);have fpl:∀b∈[e,it],b < s.heap.objs.size:=λb hb=>(List.mem_cons.mp hb).elim (λz=>z ▸ le) λz=>by rw[List.mem_singleton.mp z];exact li
  have I2:=Inv.nk (h':=h2) (t':=tk+1) (fp:=[e,it]) I1 (λb o' hb e'=>by
   have be:b≠e:=λz=>hb (by rw[z];exact aa6);have bi:b≠it:=λz=>hb (by rw[z];exact aab _ aa6);have e':(s.heap.push { cls:=.type "tuple",data:=.seq #[.int ((i+1:Nat):Int) tk,u'] }).get? b=aA o':=e';by_cases hbs:b=s.heap.objs.size
   ·subst hbs;rw[aI _ rfl] at e';cases e'
    exact (sb.2 _ be).trans ht1
   ·rw[fC _ _ _ hbs] at e';exact (sb.2 _ be).trans (hk1 b o' be bi e')) λb hb=>by
   obtain ⟨f0,f⟩:=hf b hb;exact ⟨(nup b (fpl b hb)).trans f0,f⟩
  exact ⟨.ref s.heap.objs.size,_,I2,rfl,⟨_,x,λys hy=>by rw[I.sf hy hq];exact hx,hfr,rfl,rfl⟩,⟨⟨u',he2⟩,hit1.at λo' e'=>(sb.2 _ hne.symm).trans e'⟩,λb hb=>(nup b (fpl b hb)).trans (hf b hb).1⟩
 done:=by
  intro X hP hw hK hc i pins s σ H E I hf st hg;subst hP hw hK;obtain ⟨xs,hq,hx⟩:=hg;obtain ⟨⟨old,he⟩,st2⟩:=st;obtain ⟨its,rv,p,hz⟩:=I.list hq;have hl:=rv.length;obtain ⟨f0,f1,f2,f3,f4,f5⟩:=hf it `b;have hT:s.TypeIs (.ref e) "enumerate":=⟨_,he,rfl⟩;have hnone:its.toArray[i]?=none:=by simp;omega
  unfold cV;refine aC (dJ (bI (name:=aB "__next__") hT dE (bL dE hT hJ ?_ (gS _))));show aH _ _ (eB (.ref e) 2 >>=_) _ _ _
  refine aC (bC he rfl (x:=.ref it) rfl (aC (fG `aF st2 p.isList hnone λh' x eb ⟨o,ho,hc'⟩=>aC (dN (T:="StopIteration") (b:=true) ⟨o,ho,hc'⟩ fJ ?_))));exact aG ⟨rfl,I.turned (t':=s.toks) (λb o' hb e'=>eb b o' hb e') f0 f1 f3 f4 f5⟩
 self:=λ_ _ _ _ _ st h=>by
  obtain ⟨⟨old,he⟩,_⟩:=st;exact cT he h
theorem G3 {K:aF} {a:Addr} {xs:List V} {g:TG} {tb:TS} {D:Ends} {σ:St} {H:Hp} (Pv:Nat→St→Hp→Prop) (h0:Pv 0 σ H) (hl:∀i σ H,i≤xs.length→Pv i σ H→SqL K H a xs)
  (hs:∀i x σ H p,xs[i]?=aA x→Pv i σ H→H p=none→g `a4 σ (upd H p `T) λσ2 H2=>tb { D with nx:=Pv (i+1),ct:=Pv (i+1),bk:=D.nx } σ2 H2) (hd:∀σ H,Pv xs.length σ H→D.nx σ H):zv g tb D (Ite1 K a) σ H:=by
 refine ⟨λi m σ H=>m=xs.length - i∧i≤xs.length∧Pv i σ H,⟨xs.length,by simp,aag _,h0⟩,?_⟩;rintro i m σ H ⟨rfl,hi,p⟩;have q:=hl i σ H hi p;by_cases hlt:i < xs.length
 ·refine .inr ⟨⟨xs,_,q,aa1 hlt⟩,Pv (i+1),λσ' H' p'=>⟨xs.length - (i+1),by omega,rfl,hlt,p'⟩,λx H' y=>?_⟩;obtain ⟨t,v,hv,hn,rfl,rfl⟩:=y;exact hs i v σ H t (hv xs q) p hn
 ·obtain rfl:i=xs.length:=by omega
  exact .inl ⟨⟨xs,q,aa3 _⟩,hd σ H p⟩
section
variable {X:Cx}
theorem Ck {M:jQ} {A:bE} {E:Value→aE→Prop} {s:aE} {env:Env} {pos:Pos} {T:String} {e:Expr} {kws:List jC} {Q:Value→aE→Prop}
  (h:aH M A (kU (cF pos (aZ [e] env))) (λvs s1=>aH M A (evalAll ((hX pos (eX kws env)).map (·.2))) (λkvs s2=>aH M A (call (.type T) vs (((hX pos (eX kws env)).filterMap (·.1)).zip kvs)) Q E s2) E s1) E s)
  (he:cF pos (aZ [e] env)=(false,eval e env)::cF pos (aZ [] env)) (hp:(cF pos (aZ [e] env)).any (·.1)=false)
  (hall:(hX pos (eX kws env)).all (·.1.isSome)=true) (hkw:(hX pos (eX kws env)).any (·.1.isNone)=false):
  aH M A (callWith pos (.type T) [] (cF pos (aZ [e] env)) (hX pos (eX kws env))) Q E s:=by
 unfold callWith;refine aC (bK (bG (Q:=λa s1=>aH M A (call (.type T) a.pos a.kw) Q E s1) ?_ (λa s1 h1=>aC (fR ?_)) λ_ _ x=>x))
 ·rw[he] at h ⊢;exact evalArgs_kwB hall h
 ·simp only[hp,hkw,adq];refine aC (aG ?_);exact aC (bG h1 (λr s2 hr=>aC (bK (wpAny_point (aG hr)))) λ_ _ x=>x)
end
end L2
namespace Pc
open PySem PySem.Spec L2 PyProof.Rows
noncomputable def drwC (ns:List Int) (k:Nat):Int:=if 0 < ns.length then ns.getD (k % ns.length) 0 % 2147483629 else 0
noncomputable def drwM (ns:List Int) (k:Nat):Int:=(drwC ns k+7+91813*((k / max 1 ns.length:Nat):Int))*50021 % 2147483629
noncomputable def drw (ns:List Int) (k:Nat):Int:=drwM ns k*drwM ns k % 2147483587
theorem u7 (ns:List Int) (k:Nat):0≤drw ns k:=ab9 _ `a
theorem Ca (ns:List Int) (k:Nat):drw ns k < 2147483587:=abk _ `a
def lp (K:aF):Sp:=λvs H Q _=>∃(a:Addr) (ns:List Int) (k:Nat),vs=[.ref a,.int (k:Int)]∧SqL K H a `J∧ns.length≤63∧k≤1000000∧Q (.int (drw ns k)) H
theorem cz {K:aF} {a:Addr} {ns:List Int} {k:Nat} {H:Hp} {Q:VK} {E:XK} (p0:SqL K H a `J) (p1:ns.length≤63) (p2:k≤1000000) (p3:Q (.int (drw ns k)) H):lp K [.ref a,.int (k:Int)] H Q E:=⟨a,ns,k,rfl,p0,p1,p2,p3⟩
noncomputable def wPl (ns:List Int):Nat:=(drw ns 1 % 8).toNat
noncomputable def wTl (ns:List Int) (i:Nat):Nat:=if drw ns 1 / 8 % 2=1 then (drw ns (4+i) % (8 - drw ns 1 % 8)).toNat else (drw ns 2 % (8 - drw ns 1 % 8)).toNat
noncomputable def wd0 (ns:List Int) (i:Nat):Str:=su (ltr (drw ns 0)) (wPl ns)++ltr ((i:Int)+drw ns 3)++su (ltr (drw ns 0)) (wTl ns i)
noncomputable def wd (ns:List Int) (i:Nat):Str:=if wd0 ns i=aB "add" then aB "addd" else wd0 ns i
theorem Ql (ns:List Int):wPl ns < 8:=by
 unfold wPl;have:=abk (drw ns 1) (show (0:Int) < 8 by decide);have:=ab9 (drw ns 1) (show (8:Int)≠0 by decide);omega
theorem O0 (ns:List Int) (i:Nat):wTl ns i < 8:=by
 unfold wTl;have h1:=abk (drw ns 1) (show (0:Int) < 8 by decide);have h2:=ab9 (drw ns 1) (show (8:Int)≠0 by decide);generalize drw ns 1 % 8=x at h1 h2;split
 ·have:=abk (drw ns (4+i)) (show (0:Int) < 8 - x by omega);omega
 ·have:=abk (drw ns 2) (show (0:Int) < 8 - x by omega);omega
theorem jo (ns:List Int) (i:Nat):(wd0 ns i).cps.toList=aba (wPl ns) (97+(drw ns 0 % 26).toNat)++((97+(((i:Int)+drw ns 3) % 26).toNat)::aba (wTl ns i) (97+(drw ns 0 % 26).toNat)):=by
 unfold wd0;rw[Cc,Cc,vb,vb,Aq,ac1];rfl
theorem Lc {x y z a b p t:Nat} (hxy:x≠y) (hyz:y≠z) (hxz:x≠z) (e:aba p a++(b::aba t a)=[x,y,z]):False:=by
 have hl:=congrArg ac5 e;rw[aa2,aa8,abb,abb] at hl;have hl:p+(t+1)=3:=hl;rcases (show p=0∨p=1∨p=2 by omega) with rfl | rfl | rfl
 ·obtain rfl:t=2:=by omega
  have e:[b,a,a]=[x,y,z]:=e;simp only[acb,and_true] at e;exact hyz (e.2.1.symm.trans e.2.2)
 ·obtain rfl:t=1:=by omega
  have e:[a,b,a]=[x,y,z]:=e;simp only[acb,and_true] at e;exact hxz (e.1.symm.trans e.2.2)
 ·obtain rfl:t=0:=by omega
  have e:[a,a,b]=[x,y,z]:=e;simp only[acb,and_true] at e;exact hxy (e.1.symm.trans e.2.1)
theorem addW:(aB "add").cps.toList=[97,100,100]∧(aB "addd").cps.toList=[97,100,100,100]:=by decide+kernel
theorem wd_at (ns:List Int) (i:Nat):(wd ns i).cps.toList[wPl ns]?=aA (97+(((i:Int)+drw ns 3) % 26).toNat):=by
 have z:(wd0 ns i).cps.toList[wPl ns]?=aA (97+(((i:Int)+drw ns 3) % 26).toNat):=by
  rw[jo,aah (by rw[abb];exact aa3 _),abb,ad0];rfl
 unfold wd;by_cases c:wd0 ns i=aB "add"
 ·rw[if_pos c];have e:=jo ns i;rw[c,addW.1] at e;rw[c,addW.1] at z;rw[addW.2];have p0:wPl ns=0:=by
   rcases adk (wPl ns) 3 with h | h
   ·rcases (show wPl ns=0∨wPl ns=1∨wPl ns=2 by omega) with h | h | h
    ·exact h
    ·rw[h] at e;have ht:wTl ns i=1:=by
      have hl:=congrArg ac5 e;simp at hl;omega
     rw[ht] at e;simp only[aba,ad6,adl,acb,and_true] at e;omega
    ·rw[h] at e;simp only[aba,ad6,adl,acb,and_true] at e;omega
   ·rw[abt (by exact h)] at z;cases z
  rw[p0] at z ⊢;exact z
 ·rw[if_neg c];exact z
theorem Nf {ns:List Int} {i j:Nat} (hi:i < 26) (hj:j < 26) (h:wd ns i=wd ns j):i=j:=by
 have h1:=wd_at ns i;rw[h,wd_at ns j] at h1;have h1:=aa7 h1;have a1:=Rz (n:=26) `a h1;rw[Int.add_comm,Int.add_comm (i:Int)] at a1;have:=add_mod a1;omega
theorem Ek (ns:List Int) (i:Nat):nmOk (wd ns i)∧jj (wd ns i)∧(wd ns i).length≤20:=by
 have hp:=Ql ns;have ht:=O0 ns i;by_cases c:wd0 ns i=aB "add"
 ·unfold wd;rw[if_pos c];refine ⟨⟨by decide+kernel,by decide+kernel,by decide+kernel⟩,⟨by decide+kernel,by decide+kernel⟩,by decide+kernel⟩
 ·have e:wd ns i=wd0 ns i:=by unfold wd;rw[if_neg c]
  rw[e];have hl:(wd0 ns i).length≤20:=by
   have:(wd0 ns i).length=(wd0 ns i).cps.toList.length:=rfl;rw[this,jo,aa2,aa8,abb,abb];omega
  have no:∀{z:Str} {x y w:Nat},z.cps.toList=[x,y,w]→x≠y→y≠w→x≠w→wd0 ns i≠z:=λhz h1 h2 h3 hw=>by
   have:=jo ns i;rw[hw,hz] at this;exact Lc h1 h2 h3 this.symm
  refine ⟨⟨?_,?_,?_⟩,⟨λx hx=>?_,by omega⟩,hl⟩
  ·rcases ad2 (arS (wd0 ns i)) with g | g
   ·exact g
   ·exfalso
    rcases nr g with h | h | h | h
    ·exact c h
    ·exact no (z:=aB "sub") (x:=115) (y:=117) (w:=98) `c `a `a `a h
    ·exact no (z:=aB "mul") (x:=109) (y:=117) (w:=108) `c `a `a `a h
    ·exact no (z:=aB "neg") (x:=110) (y:=101) (w:=103) `c `a `a `a h
  ·exact λh=>no (z:=aB "any") (x:=97) (y:=110) (w:=121) `c `a `a `a (V.str.inj h)
  ·exact λh=>no (z:=aB "var") (x:=118) (y:=97) (w:=114) `c `a `a `a (V.str.inj h)
  ·rw[jo] at hx;have h26:∀x:Int,97+(x % 26).toNat < 128:=λx=>by omega
   rcases List.mem_append.mp hx with hx | hx
   ·rw[(List.mem_replicate.mp hx).2];exact h26 _
   ·rcases List.mem_cons.mp hx with hx | hx
    ·rw[hx];exact h26 _
    ·rw[(List.mem_replicate.mp hx).2];exact h26 _
def yd (K:aF):Sp:=λvs H Q _=>∃(a:Addr) (ns:List Int) (i:Nat),vs=[.ref a,.int (i:Int)]∧SqL K H a `J∧ns.length≤63∧i≤1000∧Q (.str (wd ns i)) H
theorem Dc {K:aF} {a:Addr} {ns:List Int} {i:Nat} {H:Hp} {Q:VK} {E:XK} (p0:SqL K H a `J) (p1:ns.length≤63) (p2:i≤1000) (p3:Q (.str (wd ns i)) H):yd K [.ref a,.int (i:Int)] H Q E:=⟨a,ns,i,rfl,p0,p1,p2,p3⟩
def zi:Sp:=λvs H Q _=>∃c:Int,vs=[.int c]∧0≤c∧c < 2147483587∧∀(x:Int) (H':Hp),ah H H'→x.natAbs < 10 ^ 12→Q (.int x) H'
theorem Pz {c:Int} {H:Hp} {Q:VK} {E:XK} (p0:0≤c) (p1:c < 2147483587) (p2:∀(x:Int) (H':Hp),ah H H'→x.natAbs < 10 ^ 12→Q (.int x) H'):zi [.int c] H Q E:=⟨c,rfl,p0,p1,p2⟩
def sj:Sp:=λvs H Q _=>∃c:Int,vs=[.int c]∧0≤c∧∀(x:Int) (H':Hp),ah H H'→1≤x→x < 1000000→Q (.int x) H'
theorem Ex {c:Int} {H:Hp} {Q:VK} {E:XK} (p0:0≤c) (p1:∀(x:Int) (H':Hp),ah H H'→1≤x→x < 1000000→Q (.int x) H'):sj [.int c] H Q E:=⟨c,rfl,p0,p1⟩
noncomputable def lab (c:Str) (n:Nat):Str:=c++Az (.int (n:Int))
inductive Lv where
 | h (k:Str)
 | n
 | v
 | c (x:Int)
structure Cnt where
 h:Nat
 n:Nat
 v:Nat
noncomputable def c0:Cnt:=⟨0,0,0⟩
noncomputable def Lv.word:Lv→V
 | .h k=>.str k
 | .n=>gz
 | .v=>gf
 | .c x=>.int x
noncomputable def Lv.ia (l:Lv) (k:Cnt) (bx:Str):List `z:=match l with
 | .h _=>[]
 | .n=>[[.str "put",.str bx,.str (lab "n" (k.n+1))]]
 | .v=>[[.str "load",.str bx,.str (lab "v" (k.v+1))]]
 | .c x=>[[.str "put",.str bx,.int x]]
noncomputable def Lv.lbl (l:Lv) (k:Cnt) (bx:Str):Str:=match l with
 | .h _=>lab "h" (k.h+1)
 | _=>bx
noncomputable def Lv.next (l:Lv) (k:Cnt):Cnt:=match l with
 | .h _=>⟨k.h+1,k.n,k.v⟩
 | .n=>⟨k.h,k.n+1,k.v⟩
 | .v=>⟨k.h,k.n,k.v+1⟩
 | .c _=>k
def Lv.ok (kinds:List Str):Lv→Prop
 | .h k=>k∈kinds
 | .c x=>0≤x∧x < 3
 | _=>True
noncomputable def Cnt.vs (k:Cnt):List V:=[.int (k.h:Int),.int (k.n:Int),.int (k.v:Int)]
noncomputable def r6:List Str:=["add","sub","mul"]
inductive Mk (kinds:List Str):List V→List `z→Prop
 | any:Mk kinds [gz] [[.str "put",.str "out",.str "n1"]]
 | var:Mk kinds [gf] [[.str "load",.str "out",.str "v1"]]
 | neg {k:Str} (h:k∈kinds):Mk kinds [.str "neg",.str k] [[.str "neg",.str "out",.str "h1"]]
 | two {w k1 k2:Str} (hw:w∈r6) (h1:k1∈kinds) (h2:k2∈kinds):Mk kinds [.str w,.str k1,.str k2] [[.str w,.str "out",.str "h1",.str "h2"]]
 | four {k1 k2 k3 k4:Str} (h1:k1∈kinds) (h2:k2∈kinds) (h3:k3∈kinds) (h4:k4∈kinds):Mk kinds [.str "add",.str "add",.str k1,.str k2,.str "add",.str k3,.str k4] [[.str "add",.str "t1",.str "h1",.str "h2"],[.str "add",.str "t2",.str "h3",.str "h4"],[.str "add",.str "out",.str "t1",.str "t2"]]
 | zero {k:Str} (h:k∈kinds):Mk kinds [.str "mul",.int 0,.str k] [[.str "put",.str "t3",.int 1],[.str "put",.str "out",.int 0]]
 | twice {k:Str} (h:k∈kinds):Mk kinds [.str "mul",.int 2,.str k] [[.str "put",.str "t1",.int 9],[.str "add",.str "t1",.str "h1",.str "h1"],[.str "neg",.str "t1",.str "t1"],[.str "neg",.str "out",.str "t1"]]
 | vzero:Mk kinds [.str "mul",gf,.int 0] [[.str "put",.str "out",.int 0]]
 | way {k:Str} {x:Int} (h:k∈kinds) (hx:x.natAbs < 10 ^ 12):Mk kinds [.str k] [[.str "put",.str "t1",.int x],[.str "add",.str "out",.str "h1",.str "t1"],[.str "sub",.str "out",.str "out",.str "t1"]]
 | s1 {l:Lv} (h:l.ok kinds):Mk kinds [.str "neg",l.word] (l.ia c0 "t1"++[[.str "neg",.str "out",.str (l.lbl c0 "t1")]])
 | s2 {w:Str} {l m:Lv} (hw:w∈r6) (hl:l.ok kinds) (hm:m.ok kinds):Mk kinds [.str w,l.word,m.word] (l.ia c0 "t1"++m.ia (l.next c0) "t2"++[[.str w,.str "out",.str (l.lbl c0 "t1"),.str (m.lbl (l.next c0) "t2")]])
 | s3 {w o:Str} {l m r:Lv} (hw:w∈r6) (ho:o∈r6) (hl:l.ok kinds) (hm:m.ok kinds) (hr:r.ok kinds):Mk kinds [.str w,l.word,.str o,m.word,r.word] (m.ia (l.next c0) "t2"++r.ia (m.next (l.next c0)) "t3"++[[.str o,.str "out",.str (m.lbl (l.next c0) "t2"),.str (r.lbl (m.next (l.next c0)) "t3")]]++l.ia c0 "t1"++[[.str w,.str "out",.str (l.lbl c0 "t1"),.str "out"]])
 | s4 {w o:Str} {l m r:Lv} (hw:w∈r6) (ho:o∈r6) (hl:l.ok kinds) (hm:m.ok kinds) (hr:r.ok kinds):Mk kinds [.str w,.str o,l.word,m.word,r.word] (l.ia c0 "t1"++m.ia (l.next c0) "t2"++[[.str o,.str "out",.str (l.lbl c0 "t1"),.str (m.lbl (l.next c0) "t2")]]++r.ia (m.next (l.next c0)) "t3"++[[.str w,.str "out",.str "out",.str (r.lbl (m.next (l.next c0)) "t3")]])
def bc (H:Hp) (as:List Addr) (dd:List `z):Prop:=as.length=dd.length∧∀(j:Nat) (x:List V),dd[j]?=aA x→∃a,as[j]?=aA a∧H a=aA (.tup x)
theorem bc.nil (H:Hp):bc H [] []:=⟨rfl,λj d h=>by simp at h⟩
theorem bc.tk {H H':Hp} {as:List Addr} {dd:List `z} (h:bc H as dd) (s:TK H H'):bc H' as dd:=⟨h.1,λj d e=>by obtain ⟨a,a1,a2⟩:=h.2 j d e;exact ⟨a,a1,s _ _ a2⟩⟩
theorem bc.app {H:Hp} {as bs:List Addr} {ks js:List `z} (h:bc H as ks) (g:bc H bs js):bc H (as++bs) (ks++js):=by
 refine ⟨by rw[aa2,aa2,h.1,g.1],λj x hj=>?_⟩;by_cases c:j < ks.length
 ·rw[aak c] at hj;obtain ⟨a',h1,h2⟩:=h.2 j x hj;exact ⟨a',by rw[aak (by rw[h.1];exact c)];exact h1,h2⟩
 ·rw[aah (by omega)] at hj;obtain ⟨a',h1,h2⟩:=g.2 _ x hj;exact ⟨a',by rw[aah (by rw[h.1];omega),h.1];exact h1,h2⟩
theorem bc.one {H:Hp} {a:Addr} {x:List V} (h:H a=aA (.tup x)):bc H [a] [x]:=⟨rfl,λj y hj=>by
 cases j with
 | zero=>cases hj;exact ⟨a,rfl,h⟩
 | succ j=>simp at hj⟩
theorem bc.cons {H:Hp} {a:Addr} {x:List V} {as:List Addr} {dd:List `z} (h:H a=aA (.tup x)) (g:bc H as dd):bc H (a::as) (x::dd):=(bc.one h).app g
def dw (H:Hp) (da:Addr) (dd:List `z):Prop:=∃as:List Addr,H da=aA (.tup (as.map V.ref))∧bc H as dd
theorem dw.tk {H H':Hp} {da:Addr} {dd:List `z} (h:dw H da dd) (s:TK H H'):dw H' da dd:=by
 obtain ⟨as,h1,h2⟩:=h;exact ⟨as,s _ _ h1,h2.tk s⟩
def Qq (H:Hp) (t:Addr) (l:Lv) (k:Cnt) (bx:Str):Prop:=∃da:Addr,H t=aA (.tup [l.word,.ref da,.str (l.lbl k bx)])∧dw H da (l.ia k bx)
def jg (H:Hp) (t:Addr) (sh:List V) (dd:List `z):Prop:=∃sa da:Addr,H t=aA (.tup [.ref sa,.ref da])∧H sa=aA (.tup sh)∧dw H da dd
theorem jg.tk {H H':Hp} {t:Addr} {sh:List V} {dd:List `z} (h:jg H t sh dd) (s:TK H H'):jg H' t sh dd:=by
 obtain ⟨sa,da,h1,h2,h3⟩:=h;exact ⟨sa,da,s _ _ h1,s _ _ h2,h3.tk s⟩
def wm:Sp:=λvs H Q _=>∃(c:Int) (kl sn:Addr) (bx:Str) (kinds:List Str) (k:Cnt),vs=[.int c,.ref kl,.ref sn,.str bx]∧H kl=aA (.lst `h)∧H sn=aA (.lst k.vs)∧1≤kinds.length∧k.h≤9∧k.n≤9∧k.v≤9∧∀(l:Lv) (t:Addr) (H':Hp),l.ok kinds→gr sn H H'→H' sn=aA (.lst (l.next k).vs)→Qq H' t l k bx→Q `N H'
theorem Ct {c:Int} {kl sn:Addr} {bx:Str} {kinds:List Str} {k:Cnt} {H:Hp} {Q:VK} {E:XK} (p0:H kl=aA (.lst `h)) (p1:H sn=aA (.lst k.vs)) (p2:1≤kinds.length) (p3:k.h≤9) (p4:k.n≤9) (p5:k.v≤9) (p6:∀(l:Lv) (t:Addr) (H':Hp),l.ok kinds→gr sn H H'→H' sn=aA (.lst (l.next k).vs)→Qq H' t l k bx→Q `N H'):wm [.int c,.ref kl,.ref sn,.str bx] H Q E:=⟨c,kl,sn,bx,kinds,k,rfl,p0,p1,p2,p3,p4,p5,p6⟩
def ui:Sp:=λvs H Q _=>∃(c m:Int) (kl:Addr) (kinds:List Str),vs=[.int c,.int m,.ref kl]∧H kl=aA (.lst `h)∧1≤kinds.length∧0≤c∧c < 2147483587∧0≤m∧m < 2147483587∧∀(t:Addr) (sh:List V) (dd:List `z) (H':Hp),Mk kinds sh dd→ah H H'→jg H' t sh dd→Q `N H'
theorem Od {c m:Int} {kl:Addr} {kinds:List Str} {H:Hp} {Q:VK} {E:XK} (p0:H kl=aA (.lst `h)) (p1:1≤kinds.length) (p2:0≤c) (p3:c < 2147483587) (p4:0≤m) (p5:m < 2147483587) (p6:∀(t:Addr) (sh:List V) (dd:List `z) (H':Hp),Mk kinds sh dd→ah H H'→jg H' t sh dd→Q `N H'):ui [.int c,.int m,.ref kl] H Q E:=⟨c,m,kl,kinds,rfl,p0,p1,p2,p3,p4,p5,p6⟩
theorem catD {H:Hp} {a b:Addr} {d1 d2:List `z} {Q:VK} (h1:dw H a d1) (h2:dw H b d2) (hz:d1.length+d2.length≤1000) (q:∀(p:Addr) (H':Hp),ah H H'→dw H' p (d1++d2)→Q `a4 H'):Kb `r `Z H Q:=by
 obtain ⟨as,a1,a2⟩:=h1;obtain ⟨bs,b1,b2⟩:=h2;have sz:=aQ;refine g7 a1 b1 (by rw[aa0,aa0,a2.1,b2.1];omega) λp H' s hp=>q p H' s ⟨as++bs,by rw[aaa];exact hp,(a2.app b2).tk (TK.of s)⟩
theorem Bo {H:Hp} {a:Addr} {dd:List `z} {deed:List V} {Q:VK} (h:dw H a dd) (hl:deed.length≤10) (hz:dd.length≤100) (q:∀(p:Addr) (H':Hp),ah H H'→dw H' p (dd++[deed])→Q `a4 H'):deed.length≤sizeLine∧∀p2,H p2=none→[V.ref p2].length≤sizeLine∧∀p3,upd H p2 (.tup deed) p3=none→Kb `r (.ref p3) (upd (upd H p2 (.tup deed)) p3 (.tup [.ref p2])) Q:=by
 have sz:=aQ;refine ⟨by omega,λp2 hp2=>⟨by show (1:Nat)≤_;omega,λp3 hp3=>?_⟩⟩;have s2:=ae hp2 (.tup deed);have s3:=ae hp3 (.tup [.ref p2]);have s:=s2.trans s3;exact catD (h.tk (TK.of s)) ⟨[p2],aa,bc.one (s3 _ _ aa)⟩ (by show _+1≤_;omega) λp H' s' hp=>q p H' (s.trans s') hp
theorem Iw {H:Hp} {sa da:Addr} {sh:List V} {dd:List `z} {Q:VK} (h1:H sa=aA (.tup sh)) (h2:dw H da dd) (q:∀(t:Addr) (H':Hp),ah H H'→jg H' t sh dd→Q `N H'):[V.ref sa,V.ref da].length≤sizeLine∧∀p,H p=none→Q `a4 (upd H p (.tup [.ref sa,.ref da])):=by
 refine ⟨by show (2:Nat)≤sizeLine;decide,λp hp=>?_⟩;have s:=ae hp (.tup [.ref sa,.ref da]);exact q p _ s ⟨sa,da,aa,s _ _ h1,h2.tk (TK.of s)⟩
theorem Lv.ux (l:Lv) (k:Cnt) (bx:Str):(l.ia k bx).length≤1:=by
 cases l <;> simp[Lv.ia]
theorem Lv.gm (l:Lv) {k:Cnt} {n:Nat} (h1:k.h≤n) (h2:k.n≤n) (h3:k.v≤n):(l.next k).h≤n+1∧(l.next k).n≤n+1∧(l.next k).v≤n+1:=by
 cases l <;> simp only[Lv.next] <;> omega
theorem Po (x:Int):∃w:Str,atI [V.str `i,V.str `M,V.str `B] (x % 3)=aA (.str w)∧w∈r6:=by
 rcases (show x % 3=((0:Nat):Int)∨x % 3=((1:Nat):Int)∨x % 3=((2:Nat):Int) by omega) with e | e | e
 ·exact ⟨"add",by rw[e];exact ay rfl,by decide+kernel⟩
 ·exact ⟨"sub",by rw[e];exact ay rfl,by decide+kernel⟩
 ·exact ⟨"mul",by rw[e];exact ay rfl,by decide+kernel⟩
theorem Dl {H:Hp} {deed:List V} {w:V} {bx:Str} {Q:VK} (hl:deed.length≤10) (q:∀(t:Addr) (H':Hp),ah H H'→(∃da:Addr,H' t=aA (.tup [w,.ref da,.str bx])∧dw H' da [deed])→Q `N H'):deed.length≤sizeLine∧∀p,H p=none→[V.ref p].length≤sizeLine∧∀p1,upd H p (.tup deed) p1=none→[w,V.ref p1,V.str bx].length≤sizeLine∧∀p2,upd (upd H p (.tup deed)) p1 (.tup [.ref p]) p2=none→Q (.ref p2) (upd (upd (upd H p (.tup deed)) p1 (.tup [.ref p])) p2 (.tup [w,.ref p1,.str bx])):=by
 have sz:=aQ;refine ⟨by omega,λp hp=>⟨by show (1:Nat)≤_;omega,λp1 hp1=>⟨by show (3:Nat)≤_;omega,λp2 hp2=>?_⟩⟩⟩;have s1:=ae hp (.tup deed);have s2:=ae hp1 (.tup [.ref p]);have s3:=ae hp2 (.tup [w,.ref p1,.str bx]);exact q p2 _ (s1.trans (s2.trans s3)) ⟨p1,aa,[p],s3 _ _ aa,bc.one ((s2.trans s3) _ _ aa)⟩
abbrev Md:=List V×List `z
def ck (H:Hp) (as:List Addr) (ms:List Md):Prop:=as.length=ms.length∧∀(j:Nat) (x:Md),ms[j]?=aA x→∃a,as[j]?=aA a∧jg H a x.1 x.2
theorem ck.nil (H:Hp):ck H [] []:=⟨rfl,λj d h=>by simp at h⟩
theorem ck.tk {H H':Hp} {as:List Addr} {ms:List Md} (h:ck H as ms) (s:TK H H'):ck H' as ms:=⟨h.1,λj d e=>by obtain ⟨a,a1,a2⟩:=h.2 j d e;exact ⟨a,a1,a2.tk s⟩⟩
theorem ck.app {H:Hp} {as bs:List Addr} {ks js:List Md} (h:ck H as ks) (g:ck H bs js):ck H (as++bs) (ks++js):=by
 refine ⟨by rw[aa2,aa2,h.1,g.1],λj x hj=>?_⟩;by_cases c:j < ks.length
 ·rw[aak c] at hj;obtain ⟨a',h1,h2⟩:=h.2 j x hj;exact ⟨a',by rw[aak (by rw[h.1];exact c)];exact h1,h2⟩
 ·rw[aah (by omega)] at hj;obtain ⟨a',h1,h2⟩:=g.2 _ x hj;exact ⟨a',by rw[aah (by rw[h.1];omega),h.1];exact h1,h2⟩
theorem ck.one {H:Hp} {a:Addr} {x:Md} (h:jg H a x.1 x.2):ck H [a] [x]:=⟨rfl,λj y hj=>by
 cases j with
 | zero=>cases hj;exact ⟨a,rfl,h⟩
 | succ j=>simp at hj⟩
def xi (K:aF):Sp:=λvs H Q _=>∃(a kl:Addr) (ns:List Int) (kinds:List Str),vs=[.ref a,.ref kl]∧SqL K H a `J∧ns.length≤63∧H kl=aA (.lst `h)∧1≤kinds.length∧∀(l:Addr) (as:List Addr) (ms:List Md) (H':Hp),ah H H'→H l=none→H' l=aA `f→ck H' as ms→ms.length≤4→(∀x∈ms,Mk kinds x.1 x.2)→Q `D H'
theorem Sj {K:aF} {a kl:Addr} {ns:List Int} {kinds:List Str} {H:Hp} {Q:VK} {E:XK} (p0:SqL K H a `J) (p1:ns.length≤63) (p2:H kl=aA (.lst `h)) (p3:1≤kinds.length) (p4:∀(l:Addr) (as:List Addr) (ms:List Md) (H':Hp),ah H H'→H l=none→H' l=aA `f→ck H' as ms→ms.length≤4→(∀x∈ms,Mk kinds x.1 x.2)→Q `D H'):xi K [.ref a,.ref kl] H Q E:=⟨a,kl,ns,kinds,rfl,p0,p1,p2,p3,p4⟩
abbrev Rd:=Rl×List `z
def gp (H:Hp) (a:Addr) (r:Rd):Prop:=∃sa da:Addr,H a=aA (.tup [.str r.1.name,.str r.1.kind,.int r.1.price,.ref sa,.ref da])∧H sa=aA (.tup r.1.shape)∧dw H da r.2
theorem gp.tk {H H':Hp} {a:Addr} {r:Rd} (h:gp H a r) (s:TK H H'):gp H' a r:=by
 obtain ⟨sa,da,h1,h2,h3⟩:=h;exact ⟨sa,da,s _ _ h1,s _ _ h2,h3.tk s⟩
theorem gp.rule {H:Hp} {a:Addr} {r:Rd} (h:gp H a r):mi H a r.1:=by
 obtain ⟨sa,da,h1,h2,as,h3,_⟩:=h;exact ⟨sa,da,_,h1,h2,h3⟩
def bz (H:Hp) (ra:List Addr) (rs:List Rd):Prop:=ra.length=rs.length∧∀(i:Nat) (r:Rd),rs[i]?=aA r→∃a,ra[i]?=aA a∧gp H a r
theorem bz.nil (H:Hp):bz H [] []:=⟨rfl,λj d h=>by simp at h⟩
theorem bz.tk {H H':Hp} {ra:List Addr} {rs:List Rd} (h:bz H ra rs) (s:TK H H'):bz H' ra rs:=⟨h.1,λj d e=>by obtain ⟨a,a1,a2⟩:=h.2 j d e;exact ⟨a,a1,a2.tk s⟩⟩
theorem bz.app {H:Hp} {as bs:List Addr} {ks js:List Rd} (h:bz H as ks) (g:bz H bs js):bz H (as++bs) (ks++js):=by
 refine ⟨by rw[aa2,aa2,h.1,g.1],λj x hj=>?_⟩;by_cases c:j < ks.length
 ·rw[aak c] at hj;obtain ⟨a',h1,h2⟩:=h.2 j x hj;exact ⟨a',by rw[aak (by rw[h.1];exact c)];exact h1,h2⟩
 ·rw[aah (by omega)] at hj;obtain ⟨a',h1,h2⟩:=g.2 _ x hj;exact ⟨a',by rw[aah (by rw[h.1];omega),h.1];exact h1,h2⟩
theorem bz.one {H:Hp} {a:Addr} {x:Rd} (h:gp H a x):bz H [a] [x]:=⟨rfl,λj y hj=>by
 cases j with
 | zero=>cases hj;exact ⟨a,rfl,h⟩
 | succ j=>simp at hj⟩
theorem bz.drop {H:Hp} {as:List Addr} {ks:List Rd} (h:bz H as ks) (n:Nat):bz H (as.drop n) (ks.drop n):=⟨by rw[aav,aav,h.1],λj x hj=>by
 rw[List.getElem?_drop] at hj ⊢;exact h.2 _ x hj⟩
theorem bz.take {H:Hp} {as:List Addr} {ks:List Rd} (h:bz H as ks) (n:Nat):bz H (as.take n) (ks.take n):=⟨by rw[aau,aau,h.1],λj x hj=>by
 have hl:=(List.getElem?_eq_some_iff.mp hj).1;rw[aau] at hl;rw[acy (by omega)] at hj ⊢;exact h.2 _ x hj⟩
theorem bz.rules {H:Hp} {ra:List Addr} {rs:List Rd} (h:bz H ra rs):nz H ra (rs.map (·.1)):=⟨by rw[aa0];exact h.1,λi r hr=>by
 rw[aa4] at hr;obtain ⟨x,hx,rfl⟩:=Option.map_eq_some_iff.mp hr;obtain ⟨a,a1,a2⟩:=h.2 i x hx;exact ⟨a,a1,a2.rule⟩⟩
def dj (H:Hp) (b:Addr) (kinds:List Str) (rs:List Rd):Prop:=∃(kt rt:Addr) (ra:List Addr),H b=aA (.tup [.ref kt,.ref rt])∧H kt=aA (.tup `h)∧H rt=aA (.tup (ra.map V.ref))∧bz H ra rs
theorem dj.tk {H H':Hp} {b:Addr} {kinds:List Str} {rs:List Rd} (h:dj H b kinds rs) (s:TK H H'):dj H' b kinds rs:=by
 obtain ⟨kt,rt,ra,h1,h2,h3,h4⟩:=h;exact ⟨kt,rt,ra,s _ _ h1,s _ _ h2,s _ _ h3,h4.tk s⟩
theorem dj.same {H H':Hp} {b:Addr} {kinds:List Str} {rs:List Rd} (h:dj H b kinds rs) (s:ah H H'):dj H' b kinds rs:=h.tk (TK.of s)
theorem dj.book {H:Hp} {b:Addr} {kinds:List Str} {rs:List Rd} (h:dj H b kinds rs):qz H b kinds (rs.map (·.1)):=by
 obtain ⟨kt,rt,ra,h1,h2,h3,h4⟩:=h;exact ⟨kt,rt,ra,h1,h2,h3,h4.rules⟩
structure Bd (ns:List Int) (kinds:List Str) (rs:List Rd):Prop where
 bk:Bk kinds (rs.map (·.1))
 md:∀r∈rs,Mk kinds r.1.shape r.2
 k3:kinds.length≤3
 k1:1≤kinds.length
 r1:1≤rs.length
 r20:rs.length≤17
 kw:∀z∈kinds,∃i,i < 3∧z=wd ns i
 rw:∀r∈rs,∃i,i < 17∧r.1.name=wd ns (3+i)
def xh (K:aF):Sp:=λvs H Q _=>∃(a:Addr) (ns:List Int),vs=[.ref a]∧SqL K H a `J∧ns.length≤63∧∀(bt:Addr) (kinds:List Str) (rs:List Rd) (H':Hp),ah H H'→dj H' bt kinds rs→Bd ns kinds rs→Q (.ref bt) H'
theorem Si {K:aF} {a:Addr} {ns:List Int} {H:Hp} {Q:VK} {E:XK} (p0:SqL K H a `J) (p1:ns.length≤63) (p2:∀(bt:Addr) (kinds:List Str) (rs:List Rd) (H':Hp),ah H H'→dj H' bt kinds rs→Bd ns kinds rs→Q (.ref bt) H'):xh K [.ref a] H Q E:=⟨a,ns,rfl,p0,p1,p2⟩
def Ad (ns:List Int) (kinds:List Str) (rs:List Rd):Prop:=∀(i:Nat) (r:Rd),rs[i]?=aA r→r.1.name=wd ns (3+i)∧r.1.kind∈kinds∧1≤r.1.price∧Mk kinds r.1.shape r.2
theorem Ad.nil (ns:List Int) (kinds:List Str):Ad ns kinds []:=λi r h=>by simp at h
theorem Ad.snoc {ns:List Int} {kinds:List Str} {rs:List Rd} (h:Ad ns kinds rs) {r:Rd} (h1:r.1.name=wd ns (3+rs.length)) (h2:r.1.kind∈kinds) (h3:1≤r.1.price) (h4:Mk kinds r.1.shape r.2):Ad ns kinds (rs++[r]):=λi x hx=>by
 by_cases c:i < rs.length
 ·rw[aak c] at hx;exact h i x hx
 ·have hl:=(List.getElem?_eq_some_iff.mp hx).1;rw[aa2,aa5] at hl;obtain rfl:i=rs.length:=by omega
  rw[aah (aa3 _),ad0] at hx;cases hx
  exact ⟨h1,h2,h3,h4⟩
theorem Lv.wOk {kinds:List Str} (hk:Kinds kinds) {l:Lv} (h:l.ok kinds):isW l.word∧arV l.word=0:=by
 cases l with
 | h k=>exact ⟨⟨.inr k,rfl⟩,(hk k h).1⟩
 | n=>exact ⟨⟨.inr _,rfl⟩,xv⟩
 | v=>exact ⟨⟨.inr _,rfl⟩,ur⟩
 | c x=>exact ⟨⟨.inl x,rfl⟩,rfl⟩
theorem rf {w:Str} (h:w∈r6):arV (.str w)=2:=by
 have a:∀w∈r6,arV (.str w)=2:=by decide+kernel
 exact a w h
theorem Mk.sh {kinds:List Str} (hk:Kinds kinds) {sh:List V} {dd:List `z} (h:Mk kinds sh dd):(∀v∈sh,isW v)∧isTerm sh∧sh.length≤7:=by
 have st:∀z:Str,isW `Q:=λz=>⟨.inr z,rfl⟩;have it:∀x:Int,isW (.int x):=λx=>⟨.inl x,rfl⟩;have k0:∀{k:Str},k∈kinds→arV (.str k)=0:=λh=>(hk _ h).1;have ng:arV (.str "neg")=1:=by decide+kernel
 have ad:arV (.str "add")=2:=by decide+kernel
 have mu:arV (.str "mul")=2:=by decide+kernel
 have i0:∀x:Int,arV (.int x)=0:=λ_=>rfl;have aw:isW gz:=⟨.inr _,rfl⟩;have vw:isW gf:=⟨.inr _,rfl⟩;cases h with
 | any=>exact ⟨by simp[aw],by unfold isTerm;simp only[aaq,abc,xv];rfl,by decide⟩
 | var=>exact ⟨by simp[vw],by unfold isTerm;simp only[aaq,abc,ur];rfl,by decide⟩
 | neg h=>exact ⟨by simp[st],by unfold isTerm;simp only[aaq,abc,ng,k0 h];rfl,by simp⟩
 | two hw h1 h2=>exact ⟨by simp[st],by unfold isTerm;simp only[aaq,abc,rf hw,k0 h1,k0 h2];rfl,by simp⟩
 | four h1 h2 h3 h4=>exact ⟨by simp[st],by unfold isTerm;simp only[aaq,abc,ad,k0 h1,k0 h2,k0 h3,k0 h4];rfl,by simp⟩
 | zero h=>exact ⟨by simp[st,it],by unfold isTerm;simp only[aaq,abc,mu,i0,k0 h];rfl,by simp⟩
 | twice h=>exact ⟨by simp[st,it],by unfold isTerm;simp only[aaq,abc,mu,i0,k0 h];rfl,by simp⟩
 | vzero=>exact ⟨by simp[st,it,vw],by unfold isTerm;simp only[aaq,abc,mu,i0,ur];rfl,by simp⟩
 | way h hx=>exact ⟨by simp[st],by unfold isTerm;simp only[aaq,abc,k0 h];rfl,by simp⟩
 | s1 h=>exact ⟨by simp[st,(Lv.wOk hk h).1],by unfold isTerm;simp only[aaq,abc,ng,(Lv.wOk hk h).2];rfl,by simp⟩
 | s2 hw hl hm=>exact ⟨by simp[st,(Lv.wOk hk hl).1,(Lv.wOk hk hm).1],by unfold isTerm;simp only[aaq,abc,rf hw,(Lv.wOk hk hl).2,(Lv.wOk hk hm).2];rfl,by simp⟩
 | s3 hw ho hl hm hr=>exact ⟨by simp[st,(Lv.wOk hk hl).1,(Lv.wOk hk hm).1,(Lv.wOk hk hr).1],by unfold isTerm;simp only[aaq,abc,rf hw,rf ho,(Lv.wOk hk hl).2,(Lv.wOk hk hm).2,(Lv.wOk hk hr).2];rfl,by simp⟩
 | s4 hw ho hl hm hr=>exact ⟨by simp[st,(Lv.wOk hk hl).1,(Lv.wOk hk hm).1,(Lv.wOk hk hr).1],by unfold isTerm;simp only[aaq,abc,rf hw,rf ho,(Lv.wOk hk hl).2,(Lv.wOk hk hm).2,(Lv.wOk hk hr).2];rfl,by simp⟩
theorem bd_of {ns:List Int} {mk:Nat} {rs:List Rd} (h1:1≤mk) (h3:mk≤3) (R:Ad ns ((abl mk).map (wd ns)) rs) (r1:1≤rs.length) (r17:rs.length≤17) (k:Nat):Bd ns ((abl mk).map (wd ns)) (rs.drop k++rs.take k):=by
 have kd:Kinds ((abl mk).map (wd ns)):=λz hz=>by
  obtain ⟨i,_,rfl⟩:=List.mem_map.mp hz;exact (Ek ns i).1
 have hp:(rs.drop k++rs.take k).Perm rs:=List.perm_append_comm.trans (by rw[ada]);have at':∀r∈rs.drop k++rs.take k,∃i,i < rs.length∧rs[i]?=aA r:=λr hr=>by
  obtain ⟨i,hi⟩:=List.mem_iff_getElem?.mp (hp.mem_iff.mp hr);exact ⟨i,(List.getElem?_eq_some_iff.mp hi).1,hi⟩
 refine ⟨⟨kd,?_,λr hr=>?_,?_,?_,?_,λr hr=>?_,λr hr=>?_⟩,λr hr=>?_,?_,?_,?_,?_,λz hz=>?_,λr hr=>?_⟩
 ·rw[abd];refine (hp.map _).nodup_iff.mpr ?_;refine List.pairwise_iff_getElem.mpr λi j hi hj hij ez=>?_;rw[aa0] at hi hj;rw[aem,aem] at ez;have e1:=(R i _ (aa1 hi)).1;have e2:=(R j _ (aa1 hj)).1;have ez:rs[i].1.name=rs[j].1.name:=ez;rw[e1,e2] at ez;have:=Nf (by omega) (by omega) ez;omega
 ·obtain ⟨x,hx,rfl⟩:=List.mem_map.mp hr;obtain ⟨i,_,hi⟩:=at' x hx;obtain ⟨a,b,c⟩:=(R i x hi).2.2.2.sh kd;exact ⟨a,b,by omega⟩
 ·rw[aa0,hp.length_eq];omega
 ·refine List.pairwise_map.mpr (List.Pairwise.imp_of_mem ?_ List.nodup_range);intro a b ha hb n e;have:=List.mem_range.mp ha;have:=List.mem_range.mp hb;exact n (Nf (by omega) (by omega) e)
 ·rw[aa0,abx];omega
 ·obtain ⟨x,hx,rfl⟩:=List.mem_map.mp hr;obtain ⟨i,_,hi⟩:=at' x hx;exact (R i x hi).2.2.1
 ·obtain ⟨x,hx,rfl⟩:=List.mem_map.mp hr;obtain ⟨i,_,hi⟩:=at' x hx;exact (R i x hi).2.1
 ·obtain ⟨i,_,hi⟩:=at' r hr;exact (R i r hi).2.2.2
 ·rw[aa0,abx];omega
 ·rw[aa0,abx];omega
 ·rw[hp.length_eq];omega
 ·rw[hp.length_eq];omega
 ·obtain ⟨i,hi,rfl⟩:=List.mem_map.mp hz;exact ⟨i,by have:=List.mem_range.mp hi;omega,rfl⟩
 ·obtain ⟨i,hl,hi⟩:=at' r hr;exact ⟨i,by omega,(R i r hi).1⟩
theorem vk {H1 HA HB:Hp} {ml t:Addr} {as:List Addr} {ms:List Md} {sh:List V} {dd:List `z} {Q:VK} (fml:H1 ml=none) (sA:ah H1 HA) (mA:HA ml=aA `f) (MA:ck HA as ms) (lA:ms.length≤50) (sB:ah HA HB) (hM:jg HB t sh dd) (q:∀H',ah H1 H'→H' ml=aA (.lst ((as++[t]).map V.ref))→ck H' (as++[t]) (ms++[(sh,dd)])→(∀b o,b≠ml→HB b=aA o→H' b=aA o)→Q .non H'):nu (.ref ml) [.ref t] HB Q:=by
 have sz:=aQ;have mB:=sB _ _ mA;have al:=MA.1;have tk:TK HB (upd HB ml `S):=TK.put mB (λ_ z=>nomatch z);exact ⟨ml,_,_,rfl,rfl,mB,by rw[aa0];omega,q _ ((sA.trans sB).upd fml _) (by rw[aa,aaa];rfl) (((MA.tk (TK.of sB)).app (ck.one hM)).tk tk) λb o ne h=>by rw[ak ne];exact h⟩
theorem Bw {H1 HA HB:Hp} {rl t:Addr} {ra:List Addr} {rs:List Rd} {r:Rd} {Q:VK} (frl:H1 rl=none) (sA:ah H1 HA) (mA:HA rl=aA (.lst (ra.map V.ref))) (RA:bz HA ra rs) (lA:rs.length≤50) (sB:ah HA HB) (hR:gp HB t r) (q:∀H',ah H1 H'→H' rl=aA (.lst ((ra++[t]).map V.ref))→bz H' (ra++[t]) (rs++[r])→(∀b o,b≠rl→HB b=aA o→H' b=aA o)→Q .non H'):nu (.ref rl) [.ref t] HB Q:=by
 have sz:=aQ;have mB:=sB _ _ mA;have al:=RA.1;have tk:TK HB (upd HB rl (.lst (ra.map V.ref++[V.ref t]))):=TK.put mB (λ_ z=>nomatch z);exact ⟨rl,_,_,rfl,rfl,mB,by rw[aa0];omega,q _ ((sA.trans sB).upd frl _) (by rw[aa,aaa];rfl) (((RA.tk (TK.of sB)).app (bz.one hR)).tk tk) λb o ne h=>by rw[ak ne];exact h⟩
theorem Hu {kinds:List Str} {ms:List Md} {sh:List V} {dd:List `z} (h:∀x∈ms,Mk kinds x.1 x.2) (g:Mk kinds sh dd):∀x∈ms++[(sh,dd)],Mk kinds x.1 x.2:=λx hx=>by
 rcases List.mem_append.mp hx with hx | hx
 ·exact h x hx
 ·rw[List.mem_singleton.mp hx];exact g
def WdF (ns:List Int) (v:V):Prop:=(∃x:Int,v=.int x∧x.natAbs < 10 ^ 12)∨(∃i,i∈[21,22,0,4]∧v=.str (wd ns i))∨0 < arV v
def wz (K:aF):Sp:=λvs H Q _=>∃(a:Addr) (ns:List Int) (p m:Nat),vs=[.ref a,.int (p:Int),.int (m:Int)]∧SqL K H a `J∧ns.length≤63∧p≤1000∧1≤m∧m≤100∧∀(t:Addr) (H':Hp) (ws:List V),ah H H'→H' t=aA `ba→Tw ws→ws.length≤m+2→(∀v∈ws,WdF ns v)→Q `N H'
theorem T2 {K:aF} {a:Addr} {ns:List Int} {p m:Nat} {H:Hp} {Q:VK} {E:XK} (p0:SqL K H a `J) (p1:ns.length≤63) (p2:p≤1000) (p3:1≤m) (p4:m≤100) (p5:∀(t:Addr) (H':Hp) (ws:List V),ah H H'→H' t=aA `ba→Tw ws→ws.length≤m+2→(∀v∈ws,WdF ns v)→Q `N H'):wz K [.ref a,.int (p:Int),.int (m:Int)] H Q E:=⟨a,ns,p,m,rfl,p0,p1,p2,p3,p4,p5⟩
def Dn:Sp:=λvs H Q _=>∃(t:Addr) (ws:List V) (p:Nat),vs=[.ref t,.int (p:Int)]∧H t=aA `ba∧Tw ws∧p < ws.length∧∀H',ah H H'→Q (.int (endAt ws p:Nat)) H'
theorem mkEndF {t:Addr} {ws:List V} {p:Nat} {H:Hp} {Q:VK} {E:XK} (p0:H t=aA `ba) (p1:Tw ws) (p2:p < ws.length) (p3:∀H',ah H H'→Q (.int (endAt ws p:Nat)) H'):Dn [.ref t,.int (p:Int)] H Q E:=⟨t,ws,p,rfl,p0,p1,p2,p3⟩
def ph:Sp:=λvs H Q _=>∃(kt st wt:Addr) (kinds:List Str) (sh ws:List V) (p:Nat),vs=[.ref kt,.ref st,.ref wt,.int (p:Int)]∧H kt=aA (.tup `h)∧H st=aA (.tup sh)∧H wt=aA `ba∧Kinds kinds∧(∀v∈sh,isW v)∧isTerm sh∧sh.length≤100∧Tw ws∧p < ws.length∧∀H',ah H H'→told (bq kinds ws sh p ⟨[],[],[]⟩) H' Q
theorem M0 {kt st wt:Addr} {kinds:List Str} {sh ws:List V} {p:Nat} {H:Hp} {Q:VK} {E:XK} (p0:H kt=aA (.tup `h)) (p1:H st=aA (.tup sh)) (p2:H wt=aA `ba) (p3:Kinds kinds) (p4:∀v∈sh,isW v) (p5:isTerm sh) (p6:sh.length≤100) (p7:Tw ws) (p8:p < ws.length) (p9:∀H',ah H H'→told (bq kinds ws sh p ⟨[],[],[]⟩) H' Q):ph [.ref kt,.ref st,.ref wt,.int (p:Int)] H Q E:=⟨kt,st,wt,kinds,sh,ws,p,rfl,p0,p1,p2,p3,p4,p5,p6,p7,p8,p9⟩
def tm:Sp:=λvs H Q _=>∃(b ra kt rt:Addr) (kinds:List Str) (r:Rl),vs=[.ref b,.ref ra]∧H b=aA (.tup [.ref kt,.ref rt])∧H kt=aA (.tup `h)∧mi H ra r∧(∀v∈r.shape,isW v)∧r.shape.length≤100∧∀(l:Addr) (H':Hp),ah H H'→H l=none→H' l=aA (.lst ((aq kinds r.shape).map V.str))→Q `D H'
theorem N7 {b ra kt rt:Addr} {kinds:List Str} {r:Rl} {H:Hp} {Q:VK} {E:XK} (p0:H b=aA (.tup [.ref kt,.ref rt])) (p1:H kt=aA (.tup `h)) (p2:mi H ra r) (p3:∀v∈r.shape,isW v) (p4:r.shape.length≤100) (p5:∀(l:Addr) (H':Hp),ah H H'→H l=none→H' l=aA (.lst ((aq kinds r.shape).map V.str))→Q `D H'):tm [.ref b,.ref ra] H Q E:=⟨b,ra,kt,rt,kinds,r,rfl,p0,p1,p2,p3,p4,p5⟩
def oq (H:Hp) (l1 l2 l3:Addr) (u:Und):Prop:=H l1=aA (.lst (u.hs.map plV))∧H l2=aA (.lst u.ns)∧H l3=aA (.lst u.vs)
theorem oq.same {H H':Hp} {l1 l2 l3:Addr} {u:Und} (h:oq H l1 l2 l3 u) (s:ah H H'):oq H' l1 l2 l3 u:=⟨s _ _ h.1,s _ _ h.2.1,s _ _ h.2.2⟩
theorem oq.put1 {H:Hp} {l1 l2 l3:Addr} {u:Und} (h:oq H l1 l2 l3 u) (n21:l2≠l1) (n31:l3≠l1) (p:Nat) (x:V):oq (upd H l1 (.lst (u.hs.map plV++[plV p]))) l1 l2 l3 (u.put lH p x):=by
 unfold Und.put;rw[if_pos rfl];refine ⟨?_,by rw[ak n21];exact h.2.1,by rw[ak n31];exact h.2.2⟩;rw[aa,aaa];rfl
theorem oq.put2 {H:Hp} {l1 l2 l3:Addr} {u:Und} (h:oq H l1 l2 l3 u) (n21:l2≠l1) (n32:l3≠l2) (p:Nat) (x:V):oq (upd H l2 (.lst (u.ns++[x]))) l1 l2 l3 (u.put lN p x):=by
 unfold Und.put;rw[if_neg lets.1,if_pos rfl];exact ⟨by rw[ak n21.symm];exact h.1,aa,by rw[ak n32];exact h.2.2⟩
theorem oq.put3 {H:Hp} {l1 l2 l3:Addr} {u:Und} (h:oq H l1 l2 l3 u) (n31:l3≠l1) (n32:l3≠l2) (p:Nat) (x:V):oq (upd H l3 (.lst (u.vs++[x]))) l1 l2 l3 (u.put lV p x):=by
 unfold Und.put;rw[if_neg lets.2.1,if_neg lets.2.2.2.1,if_pos rfl];exact ⟨by rw[ak n31.symm];exact h.1,by rw[ak n32.symm];exact h.2.1,aa⟩
theorem ar_sum {x:V} (hx:isW x) (c:Nat):((c:Int)+1 - 1+2*(if inV x [V.str `i,V.str `M,V.str `B]=true then 1 else 0)+if x=V.str `A then 1 else 0)=((c+arV x:Nat):Int):=by
 have h3:(inV x [V.str `i,V.str `M,V.str `B]=true)↔arV x=2:=Qz hx;by_cases c2:arV x=2
 ·have hn:¬x=V.str `A:=λe=>by
   rw[e] at c2;exact absurd c2 `c
  rw[if_pos (h3.mpr c2),if_neg hn,c2];omega
 ·rw[if_neg λe=>c2 (h3.mp e)];have h1:x=V.str `A↔arV x=1:=neg_is hx c2;have:=arV_le x;by_cases c1:arV x=1
  ·rw[if_pos (h1.mpr c1),c1];omega
  ·rw[if_neg λe=>c1 (h1.mp e),show arV x=0 by omega];omega
theorem iteOr {A B P1 P2 X Y:Prop} [Decidable A] [Decidable B] (p1:P1) (p2:P2) (h:X) (h2:¬A→¬B→Y):if A then X else P1∧P2∧if B then X else Y:=by
 by_cases a:A
 ·rw[if_pos a];exact h
 ·rw[if_neg a];refine ⟨p1,p2,?_⟩;by_cases b:B
  ·rw[if_pos b];exact h
  ·rw[if_neg b];exact h2 a b
theorem two_out {v:V} (hv:isW v) (na:v≠gz) (nv:v≠gf):¬inV v [V.str (aB "any"),V.str `be]=true:=by
 obtain ⟨k,rfl⟩:=hv;cases k with
 | inl i=>intro h;exact absurd h (by simp[inV,eqV,kV])
 | inr z=>
  intro h;have:=og h;simp only[aam,aac,or_false] at this;rcases this with e | e
  ·exact na e
  ·exact nv e
theorem ifN {c A B:Prop} [Decidable c] (h1:¬c→A) (h2:c→B):if (!decide c)=true then A else B:=by
 by_cases h:c
 ·rw[if_neg (by rw[decide_eq_true h];decide)];exact h2 h
 ·rw[if_pos (by rw[decide_eq_false h];decide)];exact h1 h
noncomputable def cq (ws:List V) (p:Nat):Nat:=(eat 1 `au).getD 0
noncomputable def Hb (kinds:List Str) (sh:List V):Nat:=(sh.filter λv=>decide (bh kinds v≠lH)).length
theorem Ah (kinds:List Str) (v:V) (r:List V):Hb kinds (v::r)=(if bh kinds v=lH then 0 else 1)+Hb kinds r:=by
 unfold Hb;rw[ab2];by_cases c:bh kinds v=lH
 ·rw[if_neg (by simpa using c),if_pos c,abn]
 ·rw[if_pos (by simpa using c),if_neg c,aa8,adx]
theorem cu {r:List Nat} {n:Nat} (h:eat 1 r=aA n):1≤n:=by
 cases r with
 | nil=>cases h
 | cons a r=>
  obtain ⟨k,_,e⟩:=Option.map_eq_some_iff.mp (show (eat (0+a) r).map (·+1)=aA n from h);have e:k+1=n:=e;omega
theorem Ic {kinds:List Str} {ws r:List V} {v x:V} {q d m:Nat} (hk:Kinds kinds) (hv:isW v) (hx:ws[q]?=aA x) (hxw:isW x) (hp:pend (d+1) (arV v::r.map arV)=aA 0) (he:eat (d+1) ((ws.drop q).map arV)=aA m)
  (hl:lies `y v x=true):∃d' m',pend d' (r.map arV)=aA 0∧eat d' `af=aA m'∧m=m'+(if bh kinds v=lH then cq ws q else 1):=by
 have hq:q < ws.length:=(List.getElem?_eq_some_iff.mp hx).1;have ed:ws.drop q=x::ws.drop (q+1):=by
  rw[aay hq];congr 1
  rw[aa1 hq] at hx;exact aa7 hx
 obtain ⟨e1,e2,e3,e4,e5,e6⟩:=lets;have hp:pend (d+arV v) (r.map arV)=aA 0:=hp;have one:arV v=arV x→bh kinds v≠lH→∃d' m',pend d' (r.map arV)=aA 0∧eat d' `af=aA m'∧m=m'+(if bh kinds v=lH then cq ws q else 1):=λh n=>by
  rw[if_neg n,if_neg n];rw[ed,aaq,fq] at he;obtain ⟨k,hk',e⟩:=Option.map_eq_some_iff.mp he;exact ⟨d+arV v,k,hp,by rw[h];exact hk',e.symm⟩
 unfold lies at hl;rcases df (kinds:=kinds) hv with ⟨rfl,h⟩ | ⟨rfl,h⟩ | ⟨⟨z,hz,rfl⟩,h⟩ | ⟨h,_⟩
 ·refine one ?_ (by rw[h];exact e1);rw[h,if_neg e1,if_pos rfl] at hl;rw[xv];obtain ⟨k,rfl⟩:=hxw;cases k with
  | inl i=>rfl
  | inr y=>cases hl
 ·refine one ?_ (by rw[h];exact e2);rw[h,if_neg e2,if_neg e4,if_pos rfl,ac3] at hl;rw[ur];exact (of_decide_eq_true hl.2).symm
 ·rw[if_pos h,if_pos h];have a0:arV `Q=0:=(hk z hz).1;rw[a0] at hp;rw[show d+1=1+d by omega,um] at he;cases h1:eat 1 ((ws.drop q).map arV) with
  | none=>rw[h1] at he;cases he
  | some n=>
   rw[h1] at he;obtain ⟨k,hk',e⟩:=Option.map_eq_some_iff.mp (show (eat d (((ws.drop q).map arV).drop n)).map (n+·)=aA m from he);refine ⟨d,k,hp,?_,?_⟩
   ·unfold endAt;rw[h1,show (aA n).getD 0=n from rfl,←ad4];rw[←acg] at hk';exact hk'
   ·unfold cq;rw[h1];have e:n+k=m:=e;show m=k+n
    omega
 ·refine one ?_ (by rw[h];exact e3);rw[h,if_neg e3,if_neg e5,if_neg e6] at hl;rw[of_decide_eq_true hl]
noncomputable def szs (ws:List V) (hs:List Nat):Nat:=(hs.map (cq ws)).sum
theorem Up (ws:List V) (a b:List Nat):szs ws (a++b)=szs ws a+szs ws b:=by
 unfold szs;rw[aaa,adm]
theorem Br {kinds:List Str} {ws:List V} (hk:Kinds kinds) (hw:∀v∈ws,isW v):∀(sh:List V) (p:Nat) (u u':Und) (d m:Nat),(∀v∈sh,isW v)→pend d (sh.map arV)=aA 0→eat d `au=aA m→bq kinds ws sh p u=aA u'→szs ws u'.hs+Hb kinds sh=szs ws u.hs+m
 | [],p,u,u',d,m,_,hp,he,h=>by
  have h:aA u=aA u':=h;cases h
  have hp:aA d=aA 0:=hp;cases hp
  have he:aA 0=aA m:=by rw[←he];cases (ws.drop p).map arV <;> rfl
  cases he
  rfl
 | v::r,p,u,u',0,m,_,hp,_,_=>nomatch hp
 | v::r,p,u,u',d+1,m,hs,hp,he,h=>by
  have hpl:p < ws.length:=by
   rcases adk p ws.length with g | g
   ·exact g
   ·rw[ac6 g] at he;cases he
  have hx:ws[p]?=aA ws[p]:=aa1 hpl;rw[dr] at h;have eg:ws.getD p .non=ws[p]:=by rw[aaj,hx];rfl
  rw[eg] at h;by_cases c:lies `y v ws[p]=true
  ·rw[if_pos c] at h;obtain ⟨d',m',h1,h2,h3⟩:=Ic hk (hs v aa6) hx (hw _ (aaf hpl)) hp he c;have ih:=Br hk hw r _ _ u' d' m' (λx hx=>hs x (aab _ hx)) h1 h2 h;rw[Ah];by_cases cH:bh kinds v=lH
   ·rw[if_pos cH] at h3 ⊢;have e:(u.put `y p ws[p]).hs=u.hs++[p]:=by unfold Und.put;rw[if_pos cH]
    rw[e,Up] at ih;have e2:szs ws [p]=cq ws p:=by unfold szs;simp
    omega
   ·rw[if_neg cH] at h3 ⊢;have e:(u.put `y p ws[p]).hs=u.hs:=by
     unfold Und.put;rw[if_neg cH];split
     ·rfl
     ·split <;> rfl
    rw[e] at ih;omega
  ·rw[if_neg c] at h;cases h
noncomputable def x9 (kinds:List Str) (g:Ky→Option Int) (p:Nat) (v:Int):Nat:=(kinds.filter λk=>match g (p,k) with | some x=>decide (x < v) | none=>false).length
theorem Kg (kinds:List Str) (g:Ky→Option Int) (p:Nat) (v:Int):x9 kinds g p v≤kinds.length:=ade _ _
theorem filter_lt {α:Type} {P R:α→Bool}:∀{l:List α} {x:α},(∀y∈l,P y=true→R y=true)→x∈l→P x=false→R x=true→(l.filter P).length < (l.filter R).length
 | [],x,_,h,_,_=>nomatch h
 | y::l,x,hs,h,hp,hr=>by
  have le:(l.filter P).length≤(l.filter R).length:=by
   clear h hp hr;induction l with
   | nil=>exact aa3 _
   | cons z l ih=>
    have ih:=ih λw hw=>hs w (by
     rcases List.mem_cons.mp hw with rfl | hw
     ·exact aa6
     ·exact aab _ (aab _ hw))
    rw[ab2,ab2];by_cases c:P z=true
    ·rw[if_pos c,if_pos (hs z (aab _ aa6) c),aa8,aa8];omega
    ·rw[if_neg c];split
     ·rw[aa8];omega
     ·exact ih
  rw[ab2,ab2];rcases List.mem_cons.mp h with rfl | h
  ·rw[if_neg (by rw[hp];decide),if_pos hr,aa8];omega
  ·have ih:=filter_lt (λw hw=>hs w (aab _ hw)) h hp hr;by_cases c:P y=true
   ·rw[if_pos c,if_pos (hs y aa6 c),aa8,aa8];omega
   ·rw[if_neg c];split
    ·rw[aa8];omega
    ·exact ih
theorem Ur {kinds:List Str} {g:Ky→Option Int} {p:Nat} {v w:Int} {z:Str} (hz:z∈kinds) (hg:g (p,z)=aA w) (h:w < v):x9 kinds g p w < x9 kinds g p v:=by
 refine filter_lt (x:=z) (λy _ hy=>?_) hz ?_ ?_
 ·cases e:g (p,y) with
  | none=>rw[e] at hy;cases hy
  | some x=>
   rw[e] at hy;have:x < w:=of_decide_eq_true hy;exact decide_eq_true (by omega)
 ·rw[hg];exact decide_eq_false (by omega)
 ·rw[hg];exact decide_eq_true h
noncomputable def phi (kinds:List Str) (ws:List V) (g:Ky→Option Int) (k:Ky):Nat:=(kinds.length+1)*(cq ws k.1 - 1)+1+x9 kinds g k.1 ((g k).getD 0)
noncomputable def ou (kinds:List Str) (ws:List V) (g:Ky→Option Int) (ks:List Ky):Nat:=(ks.map (phi kinds ws g)).sum
theorem iy (kinds:List Str) (ws:List V) (g:Ky→Option Int) (k:Ky) (ks:List Ky):ou kinds ws g (k::ks)=phi kinds ws g k+ou kinds ws g ks:=by
 unfold ou;rw[aaq,ads]
theorem Pb (kinds:List Str) (ws:List V) (g:Ky→Option Int) (a b:List Ky):ou kinds ws g (a++b)=ou kinds ws g a+ou kinds ws g b:=by
 unfold ou;rw[aaa,adm]
theorem Oq (kinds:List Str) (ws:List V) (g:Ky→Option Int) (k:Ky) (h:1≤cq ws k.1):phi kinds ws g k≤(kinds.length+1)*cq ws k.1:=by
 unfold phi;have:=Kg kinds g k.1 ((g k).getD 0);obtain ⟨n,hn⟩:∃n,cq ws k.1=n+1:=⟨cq ws k.1 - 1,by omega⟩;rw[hn,ado,Nat.mul_add,Nat.mul_one];omega
theorem xy (kinds:List Str) (ws:List V) (g:Ky→Option Int):∀ks:List Ky,ks.length≤ou kinds ws g ks
 | []=>aag _
 | k::ks=>by
  have:=xy kinds ws g ks;rw[iy,aa8];have:1≤phi kinds ws g k:=by unfold phi;omega
  omega
theorem Es (kinds:List Str) (ws:List V) (g:Ky→Option Int):∀(hs:List Nat) (zs:List Str),(∀h∈hs,1≤cq ws h)→ou kinds ws g (hs.zip zs)≤(kinds.length+1)*szs ws hs
 | [],zs,_=>by show (0:Nat)≤_;omega
 | h::hs,[],_=>by show (0:Nat)≤_;omega
 | h::hs,z::zs,hp=>by
  have ih:=Es kinds ws g hs zs λx hx=>hp x (aab _ hx);have h1:=Oq kinds ws g (h,z) (hp h aa6);have e:szs ws (h::hs)=cq ws h+szs ws hs:=by unfold szs;rw[aaq,ads]
  rw[adp,iy,e,Nat.mul_add];have h1:phi kinds ws g (h,z)≤(kinds.length+1)*cq ws h:=h1;omega
theorem size_pos {ws:List V} (tw:Tw ws) {p:Nat} (h:p < ws.length):1≤cq ws p:=by
 obtain ⟨n,hn⟩:=tw.eat h;unfold cq;rw[hn];exact cu hn
theorem Fy {K:aF} {i:Nat} {σ:L2.St} {H:Hp} {Q Q':Bool→Hp→Prop} (h:∀b H1,Q b H1→Q' b H1) (c:tBD (tOp (zu λi j=>V.bl (decide (j < i))) (tCB (Bl K) (Dx (se i) tNil)) (tC (V.int 0))) σ H Q):tBD (tOp (zu λi j=>V.bl (decide (j < i))) (tCB (Bl K) (Dx (se i) tNil)) (tC (V.int 0))) σ H Q':=by
 simp only[qu,tB,tOp,iu,rI0,Bl,tCB,Dx,tNil,n8,tC] at c ⊢;obtain ⟨v,hv,c⟩:=c;refine ⟨v,hv,?_⟩;cases v with
 | ref p=>
  obtain ⟨ys,h1,i,j,e2,e3,cc,e4,hq⟩:=c;exact ⟨ys,h1,i,j,e2,e3,cc,e4,h _ _ hq⟩
 | _=>exact c.elim
abbrev Fd:=Rd×List Ky
noncomputable def fj (kinds:List Str) (ws:List V) (p:Nat) (kd:Str) (g:Ky→Option Int) (r:Rd):Option Fd:=
 if r.1.kind=kd then match bq kinds ws r.1.shape p ⟨[],[],[]⟩ with
  | some u=>if (u.hs.zip `v).all (λk=>(g k).isSome)=true then aA (r,u.hs.zip `v) else none
  | none=>none
 else none
noncomputable def qa (kinds:List Str) (rs:List Rd) (ws:List V) (p:Nat) (kd:Str) (g:Ky→Option Int):List Fd:=rs.filterMap (fj kinds ws p kd g)
def FdAt (H:Hp) (no:Addr→Prop) (a:Addr) (f:Fd):Prop:=∃ra hl,¬no hl∧H a=aA (.tup [.ref ra,.ref hl])∧gp H ra f.1∧HsAt H hl f.2
def ee (H:Hp) (no:Addr→Prop) (as:List Addr) (fs:List Fd):Prop:=as.length=fs.length∧∀(j:Nat) (f:Fd),fs[j]?=aA f→∃a,as[j]?=aA a∧FdAt H no a f
def mr:Sp:=λvs H Q _=>∃(b wt d:Addr) (p:Nat) (kd:Str) (kinds:List Str) (rs:List Rd) (ws:List V) (g:Ky→Option Int) (n:Nat),vs=[.ref b,.ref wt,.int (p:Int),.str kd,.ref d]∧dj H b kinds rs∧H wt=aA `ba∧Bk kinds (rs.map (·.1))∧Tw ws∧p < ws.length∧vh H d g n∧∀(l:Addr) (as:List Addr) (H':Hp),ah H H'→H l=none→H' l=aA `f→ee H' (λx=>H x≠none) as (qa kinds rs ws p kd g)→Q `D H'
theorem E4 {b wt d:Addr} {p:Nat} {kd:Str} {kinds:List Str} {rs:List Rd} {ws:List V} {g:Ky→Option Int} {n:Nat} {H:Hp} {Q:VK} {E:XK} (p0:dj H b kinds rs) (p1:H wt=aA `ba) (p2:Bk kinds (rs.map (·.1))) (p3:Tw ws) (p4:p < ws.length) (p5:vh H d g n) (p6:∀(l:Addr) (as:List Addr) (H':Hp),ah H H'→H l=none→H' l=aA `f→ee H' (λx=>H x≠none) as (qa kinds rs ws p kd g)→Q `D H'):mr [.ref b,.ref wt,.int (p:Int),.str kd,.ref d] H Q E:=⟨b,wt,d,p,kd,kinds,rs,ws,g,n,rfl,p0,p1,p2,p3,p4,p5,p6⟩
theorem FdAt.kx {no:Addr→Prop} {H H':Hp} {a:Addr} {f:Fd} (h:FdAt H no a f) (x:Kx no H H'):FdAt H' no a f:=by
 obtain ⟨ra,hl,g2,g3,g4,g5⟩:=h;exact ⟨ra,hl,g2,x.t g3,g4.tk (λ_ _ h=>x.t h),g5.kx x g2⟩
theorem ee.kx {no:Addr→Prop} {H H':Hp} {as:List Addr} {fs:List Fd} (h:ee H no as fs) (x:Kx no H H'):ee H' no as fs:=⟨h.1,λj f e=>by
 obtain ⟨a,g1,g2⟩:=h.2 j f e;exact ⟨a,g1,g2.kx x⟩⟩
theorem ee.same {no:Addr→Prop} {H H':Hp} {as:List Addr} {fs:List Fd} (h:ee H no as fs) (s:ah H H'):ee H' no as fs:=h.kx (Kx.same s)
theorem ee.weak {no no':Addr→Prop} {H:Hp} {as:List Addr} {fs:List Fd} (h:ee H no as fs) (w:∀x,no' x→no x):ee H no' as fs:=⟨h.1,λj f e=>by
 obtain ⟨a,g1,ra,hl,g2,g3⟩:=h.2 j f e;exact ⟨a,g1,ra,hl,λz=>g2 (w _ z),g3⟩⟩
theorem ee.snoc {no:Addr→Prop} {H:Hp} {as:List Addr} {fs:List Fd} {a:Addr} {f:Fd} (h:ee H no as fs) (hf:FdAt H no a f):ee H no (as++[a]) (fs++[f]):=by
 refine ⟨by rw[aa2,aa2,h.1];rfl,λi f' hi=>?_⟩;by_cases c:i < fs.length
 ·rw[aak c] at hi;obtain ⟨a',g1,g2⟩:=h.2 i f' hi;exact ⟨a',by rw[aak (by rw[h.1];exact c)];exact g1,g2⟩
 ·rw[aah (by omega)] at hi;have hz:i - fs.length=0:=by
   rcases ad2 (i - fs.length) with g | g
   ·exact g
   ·rw[abt (by rw[aa5];omega)] at hi;cases hi
  rw[hz] at hi;cases hi
  exact ⟨a,by rw[aah (by rw[h.1];omega),h.1,hz];rfl,hf⟩
theorem ee.nil (H:Hp) (no:Addr→Prop):ee H no [] []:=⟨rfl,λj f h=>by simp at h⟩
theorem ee.get {no:Addr→Prop} {H:Hp} {as:List Addr} {fs:List Fd} (h:ee H no as fs) {i:Nat} {a:Addr} (ha:as[i]?=aA a):∃f,fs[i]?=aA f∧FdAt H no a f:=by
 have hi:i < fs.length:=by rw[←h.1];exact (List.getElem?_eq_some_iff.mp ha).1
 obtain ⟨a',h1,h2⟩:=h.2 i _ (aa1 hi);obtain rfl:a'=a:=aa7 (h1.symm.trans ha);exact ⟨_,aa1 hi,h2⟩
theorem all_map {κ:Type} {f:κ→Bool} {ks:List κ}:(ks.map f).all id=ks.all f:=by
 rw[List.all_map];rfl
structure Rnk (kinds:List Str) (rs:List Rd) (ws:List V) (g:Ky→Option Int):Prop where
 low:∀k v,g k=aA v→∃f∈qa kinds rs ws k.1 k.2 g,∀h∈f.2,∃w,g h=aA w∧w < v
 at':∀k v,g k=aA v→k.1 < ws.length∧k.2∈kinds
def Rki (kinds:List Str) (rs:List Rd) (ws:List V) (g:Ky→Option Int) (n:Nat):Prop:=Rnk kinds rs ws g∧∀k v,g k=aA v→v < (n:Int)
theorem L9 {kinds:List Str} {ws:List V} {p:Nat} {kd:Str} {g g':Ky→Option Int} (up:∀k,(g k).isSome=true→(g' k).isSome=true) {r:Rd} {f:Fd} (h:fj kinds ws p kd g r=aA f):fj kinds ws p kd g' r=aA f:=by
 unfold fj at h ⊢;by_cases c:r.1.kind=kd
 ·rw[if_pos c] at h ⊢;cases hu:bq kinds ws r.1.shape p ⟨[],[],[]⟩ with
  | none=>rw[hu] at h;cases h
  | some u=>
   rw[hu] at h;have h:(if (u.hs.zip `v).all (λk=>(g k).isSome)=true then aA (r,u.hs.zip `v) else none)=aA f:=h;show (if (u.hs.zip `v).all (λk=>(g' k).isSome)=true then aA (r,u.hs.zip `v) else none)=aA f
   by_cases c2:(u.hs.zip `v).all (λk=>(g k).isSome)=true
   ·rw[if_pos c2] at h;rw[if_pos (List.all_eq_true.mpr λx hx=>up x (List.all_eq_true.mp c2 x hx))];exact h
   ·rw[if_neg c2] at h;cases h
 ·rw[if_neg c] at h;cases h
theorem Jp {kinds:List Str} {rs:List Rd} {ws:List V} {p:Nat} {kd:Str} {g g':Ky→Option Int} (up:∀k,(g k).isSome=true→(g' k).isSome=true) {f:Fd} (h:f∈qa kinds rs ws p kd g):f∈qa kinds rs ws p kd g':=by
 obtain ⟨r,hr,e⟩:=List.mem_filterMap.mp h;exact List.mem_filterMap.mpr ⟨r,hr,L9 up e⟩
theorem El {kinds:List Str} {ws:List V} {p:Nat} {kd:Str} {g:Ky→Option Int} {r:Rd} {f:Fd} (h:fj kinds ws p kd g r=aA f):f.1=r∧r.1.kind=kd∧∃u,bq kinds ws r.1.shape p ⟨[],[],[]⟩=aA u∧f.2=u.hs.zip `v∧∀k∈f.2,(g k).isSome=true:=by
 unfold fj at h;by_cases c:r.1.kind=kd
 ·rw[if_pos c] at h;cases hu:bq kinds ws r.1.shape p ⟨[],[],[]⟩ with
  | none=>rw[hu] at h;cases h
  | some u=>
   rw[hu] at h;have h:(if (u.hs.zip `v).all (λk=>(g k).isSome)=true then aA (r,u.hs.zip `v) else none)=aA f:=h;by_cases c2:(u.hs.zip `v).all (λk=>(g k).isSome)=true
   ·rw[if_pos c2] at h;cases h
    exact ⟨rfl,c,u,rfl,rfl,List.all_eq_true.mp c2⟩
   ·rw[if_neg c2] at h;cases h
 ·rw[if_neg c] at h;cases h
theorem ny {kinds:List Str} {rs:List Rd} {ws:List V} {p:Nat} {kd:Str} {g:Ky→Option Int} {f:Fd} (h:f∈qa kinds rs ws p kd g):f.1∈rs∧f.1.1.kind=kd∧∃u,bq kinds ws f.1.1.shape p ⟨[],[],[]⟩=aA u∧f.2=u.hs.zip (aq kinds f.1.1.shape)∧∀k∈f.2,(g k).isSome=true:=by
 obtain ⟨r,hr,e⟩:=List.mem_filterMap.mp h;obtain ⟨e1,e2,e3⟩:=El e;rw[e1];exact ⟨hr,e2,e3⟩
theorem Rki.put {kinds:List Str} {rs:List Rd} {ws:List V} {g:Ky→Option Int} {n:Nat} (h:Rki kinds rs ws g n) {k:Ky} (hn:g k=none) (h1:k.1 < ws.length) (h2:k.2∈kinds) (hf:0 < (qa kinds rs ws k.1 k.2 g).length):Rki kinds rs ws (Hm g k (n:Int)) (n+1):=by
 have up:∀x,(g x).isSome=true→(Hm g k (n:Int) x).isSome=true:=λx hx=>by
  by_cases c:x=k
  ·rw[c,uv];rfl
  ·rw[wq c];exact hx
 have old:∀x v,g x=aA v→Hm g k (n:Int) x=aA v:=λx v hx=>by
  rw[wq (λc=>by rw[c,hn] at hx;cases hx)];exact hx
 have val:∀x v,Hm g k (n:Int) x=aA v→(x=k∧v=(n:Int))∨g x=aA v:=λx v hx=>by
  by_cases c:x=k
  ·rw[c,uv] at hx;exact .inl ⟨c,(aa7 hx).symm⟩
  ·rw[wq c] at hx;exact .inr hx
 refine ⟨⟨λx v hx=>?_,λx v hx=>?_⟩,λx v hx=>?_⟩
 ·rcases val x v hx with ⟨rfl,rfl⟩ | hx
  ·have hm:=aaf hf;refine ⟨_,Jp up hm,λy hy=>?_⟩;have hs:=(ny hm).2.2;obtain ⟨u,_,_,hs⟩:=hs;obtain ⟨w,hw⟩:=Option.isSome_iff_exists.mp (hs y hy);exact ⟨w,old y w hw,h.2 y w hw⟩
  ·obtain ⟨f,hf',hl⟩:=h.1.low x v hx;refine ⟨f,Jp up hf',λy hy=>?_⟩;obtain ⟨w,hw,lt⟩:=hl y hy;exact ⟨w,old y w hw,lt⟩
 ·rcases val x v hx with ⟨rfl,rfl⟩ | hx
  ·exact ⟨h1,h2⟩
  ·exact h.1.at' x v hx
 ·rcases val x v hx with ⟨rfl,rfl⟩ | hx
  ·omega
  ·have:=h.2 x v hx;omega
theorem TbK.new {H:Hp} {d b:Addr} {g:Ky→Option Int} {ks:List Ky} {k:Ky} {v:Int} (h:TbK H d g ks) (hb:H b=aA (kyT k)) (hn:ks.length≤1000000) (e:g k=none):∃o,zo H d `Z (.int v) (upd H d o)∧TbK (upd H d o) d (Hm g k v) (ks++[k]):=by
 have hm:=h.mem k;obtain ⟨kvs,h1,h2,nd,h3⟩:=h;have sz:=aQ;have hl:kvs.length=ks.length:=by
  have:=congrArg ac5 h2;rw[aa0,aa0] at this;exact this
 have hk:=h3 k;rw[e] at hk;refine ⟨_,zo.t (k:=kyK k) h1 hb (by omega),_,aa,?_,?_,λj=>?_⟩
 ·rw[M7 _ hk,aaa,aaa,h2];rfl
 ·refine List.nodup_append.mpr ⟨nd,by simp,λa ha c hc e2=>?_⟩;rw[List.mem_singleton.mp hc] at e2;rw[e2] at ha;have:=hm.mp ha;rw[e] at this;cases this
 ·rw[ja];by_cases e':j=k
  ·subst e';rw[if_pos rfl,uv];rfl
  ·rw[if_neg (λz=>e' (J9 z)),wq e'];exact h3 j
theorem TbK.len {H:Hp} {d:Addr} {g:Ky→Option Int} {ks:List Ky} (h:TbK H d g ks):∃kvs:List (List Key×V),H d=aA (.dT kvs)∧kvs.length=ks.length:=by
 obtain ⟨kvs,h1,h2,_⟩:=h;have:=congrArg ac5 h2;rw[aa0,aa0] at this;exact ⟨kvs,h1,this⟩
def sx:Sp:=λvs H Q _=>∃(b wt:Addr) (kinds:List Str) (rs:List Rd) (ws:List V),vs=[.ref b,.ref wt]∧dj H b kinds rs∧H wt=aA `ba∧Bk kinds (rs.map (·.1))∧kinds.length≤3∧Tw ws∧∀(d:Addr) (H':Hp) (g:Ky→Option Int) (ks:List Ky),ah H H'→H d=none→TbK H' d g ks→Rnk kinds rs ws g→Q `aY H'
theorem Mz {b wt:Addr} {kinds:List Str} {rs:List Rd} {ws:List V} {H:Hp} {Q:VK} {E:XK} (p0:dj H b kinds rs) (p1:H wt=aA `ba) (p2:Bk kinds (rs.map (·.1))) (p3:kinds.length≤3) (p4:Tw ws) (p5:∀(d:Addr) (H':Hp) (g:Ky→Option Int) (ks:List Ky),ah H H'→H d=none→TbK H' d g ks→Rnk kinds rs ws g→Q `aY H'):sx [.ref b,.ref wt] H Q E:=⟨b,wt,kinds,rs,ws,rfl,p0,p1,p2,p3,p4,p5⟩
end Pc
namespace L2
open PySem PySem.Spec PyProof.Rows
theorem zr {X:Cx} (K:aF) (hK:X.K=K) (hc:X.calm=true):fo X (.builtin "all") (λxs H Q=>∃p bs,xs=[.ref p]∧SqL K H p (acz V.bl bs)∧Q (.bl (bs.all id)) H):=by subst hK;exact o7 hc
end L2
namespace Pc
open PySem PySem.Spec L2 PyProof.Rows
inductive Cvd (kinds:List Str) (rs:List Rd) (ws:List V):List Ky→List Rd→Prop
 | nil:Cvd kinds rs ws [] []
 | cons {k:Ky} {st:List Ky} {r:Rd} {u:Und} {cs:List Rd} (hr:r∈rs) (hk:r.1.kind=k.2) (hu:bq kinds ws r.1.shape k.1 ⟨[],[],[]⟩=aA u) (h:Cvd kinds rs ws (u.hs.zip `v++st) cs):Cvd kinds rs ws (k::st) (r::cs)
theorem Gq {kinds:List Str} {rs:List Rl} {ws:List V} (g:Ky→Option Int) (bk:Bk kinds rs) (tw:Tw ws) {r:Rl} (hr:r∈rs) {p:Nat} (hp:p < ws.length) {u:Und} (hu:bq kinds ws r.shape p ⟨[],[],[]⟩=aA u):(∃z,z∈kinds∧u.hs.zip (aq kinds r.shape)=[(p,z)])∨ou kinds ws g (u.hs.zip (aq kinds r.shape))+1≤(kinds.length+1)*(cq ws p - 1)+1:=by
 obtain ⟨w1,w2,w3⟩:=bk.sh r hr;obtain ⟨n,hn⟩:=tw.eat hp;have hww:∀v∈ws,isW v:=λv hv=>(tw.w v hv).1;have hs:=Br bk.kd hww _ _ _ _ 1 n w1 w2 hn hu;have hin:=xg bk.kd hww _ _ _ _ 1 n w1 w2 hn (λ_ z=>(aac z).elim) hu;have hsz:cq ws p=n:=by unfold cq;rw[hn];rfl
 have hs:szs ws u.hs+Hb kinds r.shape=n:=by
  have:szs ws ([]:List Nat)=0:=rfl;have hs:szs ws u.hs+Hb kinds r.shape=szs ws []+n:=hs;omega
 have zp:=Es kinds ws g u.hs (aq kinds r.shape) λx hx=>size_pos tw (hin x hx);cases e:r.shape with
 | nil=>rw[e] at w2;exact absurd rfl w2.ne
 | cons v0 sh=>
  by_cases c:bh kinds v0=lH
  ·have wv:isW v0:=w1 v0 (by rw[e];exact aa6);rcases df (kinds:=kinds) wv with ⟨_,hh⟩ | ⟨_,hh⟩ | ⟨⟨z,hz,rfl⟩,_⟩ | ⟨hh,_⟩
   ·rw[hh] at c;exact absurd c lets.1
   ·rw[hh] at c;exact absurd c lets.2.1
   ·have a0:arV `Q=0:=(bk.kd z hz).1;have w2':pend 1 (arV (V.str z)::sh.map arV)=aA 0:=by rw[e] at w2;exact w2
    rw[a0] at w2';have w2':pend 0 (sh.map arV)=aA 0:=w2';have hsh:sh=[]:=by
     cases sh with
     | nil=>rfl
     | cons=>cases w2'
    subst hsh;have ho:aq kinds [V.str z]=[z]:=by
     unfold aq;rw[acf];simp[hz]
    have hu':u.hs=[p]:=by
     rw[e,dr,if_pos (by unfold lies;rw[if_pos c])] at hu;have hu:aA _=aA u:=hu;cases hu
     unfold Und.put;rw[if_pos c];rfl
    exact .inl ⟨z,hz,by rw[ho,hu'];rfl⟩
   ·rw[hh] at c;exact absurd c lets.2.2.1
  ·have nh:1≤Hb kinds r.shape:=by
    rw[e,Ah,if_neg c];omega
   rw[←e,hsz];have:(kinds.length+1)*szs ws u.hs≤(kinds.length+1)*(n - 1):=Nat.mul_le_mul_left _ (by omega);exact .inr (by omega)
theorem Jk {kinds:List Str} {rs:List Rl} {ws:List V} {g:Ky→Option Int} (bk:Bk kinds rs) (tw:Tw ws) {r:Rl} (hr:r∈rs) {k:Ky} (hp:k.1 < ws.length) {u:Und} (hu:bq kinds ws r.shape k.1 ⟨[],[],[]⟩=aA u):ou kinds ws g (u.hs.zip (aq kinds r.shape))≤phi kinds ws g k+kinds.length:=by
 rcases Gq g bk tw hr hp hu with ⟨z,hz,e⟩ | h
 ·rw[e,iy];have q0:ou kinds ws g []=0:=rfl;have:=Kg kinds g k.1 ((g (k.1,z)).getD 0);unfold phi;show _*(cq ws k.1 - 1)+1+x9 kinds g k.1 _+_≤_
  omega
 ·unfold phi;omega
theorem Sk {kinds:List Str} {rs:List Rl} {ws:List V} {g:Ky→Option Int} (bk:Bk kinds rs) (tw:Tw ws) {r:Rl} (hr:r∈rs) {k:Ky} (hp:k.1 < ws.length) {v:Int} (hv:g k=aA v) {u:Und} (hu:bq kinds ws r.shape k.1 ⟨[],[],[]⟩=aA u) (low:∀h∈u.hs.zip (aq kinds r.shape),∃w,g h=aA w∧w < v):ou kinds ws g (u.hs.zip (aq kinds r.shape))+1≤phi kinds ws g k:=by
 rcases Gq g bk tw hr hp hu with ⟨z,hz,e⟩ | h
 ·obtain ⟨w,hw,lt⟩:=low (k.1,z) (by rw[e];exact aa6);rw[e,iy];have q0:ou kinds ws g []=0:=rfl;have rk:=Ur hz hw lt;unfold phi;rw[hw,hv];show _*(cq ws k.1 - 1)+1+x9 kinds g k.1 w+_+1≤_*(cq ws k.1 - 1)+1+x9 kinds g k.1 v
  omega
 ·unfold phi;omega
noncomputable def ltB (g:Ky→Option Int) (v:Int) (h:Ky):Bool:=match g h with | some w=>decide (w < v) | none=>false
noncomputable def Ac (g:Ky→Option Int) (v:Int) (f:Fd):Bool:=f.2.all (ltB g v)
def si (K:aF):Sp:=λvs H Q _=>∃(a b wt d:Addr) (ns:List Int) (n0:Nat) (kd:Str) (kinds:List Str) (rs:List Rd) (ws:List V) (g:Ky→Option Int) (ks:List Ky),vs=[.ref a,.int (n0:Int),.ref b,.ref wt,.ref d,.str kd]∧SqL K H a `J∧ns.length≤63∧n0≤1000∧dj H b kinds rs∧H wt=aA `ba∧Bk kinds (rs.map (·.1))∧kinds.length≤3∧Tw ws∧TbK H d g ks∧Rnk kinds rs ws g∧(g (0,kd)).isSome=true∧∀(t:Addr) (H':Hp) (cs:List Rd),ah H H'→H' t=aA (.tup (cs.map λr=>V.str r.1.name))→Cvd kinds rs ws [(0,kd)] cs→cs.length≤4*ws.length+80→Q `N H'
theorem O6 {K:aF} {a b wt d:Addr} {ns:List Int} {n0:Nat} {kd:Str} {kinds:List Str} {rs:List Rd} {ws:List V} {g:Ky→Option Int} {ks:List Ky} {H:Hp} {Q:VK} {E:XK} (p0:SqL K H a `J) (p1:ns.length≤63) (p2:n0≤1000) (p3:dj H b kinds rs) (p4:H wt=aA `ba) (p5:Bk kinds (rs.map (·.1))) (p6:kinds.length≤3) (p7:Tw ws) (p8:TbK H d g ks) (p9:Rnk kinds rs ws g) (p10:(g (0,kd)).isSome=true) (p11:∀(t:Addr) (H':Hp) (cs:List Rd),ah H H'→H' t=aA (.tup (cs.map λr=>V.str r.1.name))→Cvd kinds rs ws [(0,kd)] cs→cs.length≤4*ws.length+80→Q `N H'):si K [.ref a,.int (n0:Int),.ref b,.ref wt,.ref d,.str kd] H Q E:=⟨a,b,wt,d,ns,n0,kd,kinds,rs,ws,g,ks,rfl,p0,p1,p2,p3,p4,p5,p6,p7,p8,p9,p10,p11⟩
theorem Rh {H:Hp} {l:Addr} {x:V} {xs:List V} {Q:VK} (h:H l=aA (.lst (x::xs))) (q:Q x (upd H l `U)):N2 `D [.int 0] H Q:=by
 have e:nB 0 (x::xs).length=aA 0:=(Dg (Rk (p:=0) (by rw[aa8];omega))).1;exact ⟨l,x::xs,0,0,x,rfl,rfl,h,by decide,by decide,e,rfl,q⟩
theorem size_le {ws:List V} (p:Nat):cq ws p≤ws.length:=by
 unfold cq;cases e:eat 1 `au with
 | none=>exact aag _
 | some n=>
  have:=qf _ _ _ e;rw[aa0,aav] at this;show n≤ws.length
  omega
theorem J8 {kinds:List Str} {ws:List V} {g:Ky→Option Int} (k3:kinds.length≤3) (tw:Tw ws) (k:Ky) (h:k.1 < ws.length):phi kinds ws g k≤4*ws.length:=by
 have h1:=Oq kinds ws g k (size_pos tw h);have h2:=size_le (ws:=ws) k.1;have:(kinds.length+1)*cq ws k.1≤4*ws.length:=Nat.mul_le_mul (by omega) h2;omega
theorem Ge {g:Ky→Option Int} {v:Int} {f:Fd}:Ac g v f=true↔∀h∈f.2,∃w,g h=aA w∧w < v:=by
 unfold Ac;rw[aej];refine ⟨λa h hh=>?_,λa h hh=>?_⟩
 ·have:=a h hh;unfold ltB at this;cases e:g h with
  | none=>rw[e] at this;cases this
  | some w=>rw[e] at this;exact ⟨w,rfl,of_decide_eq_true this⟩
 ·obtain ⟨w,e,lt⟩:=a h hh;unfold ltB;rw[e];exact decide_eq_true lt
theorem Hd.head {H:Hp} {l:Addr} {ks:List Ky} (h:Hd H l ks) {k:Ky} {r:List Ky} (e:ks=k::r):∃(a:Addr) (as:List Addr),H l=aA (.lst (V.ref a::as.map V.ref))∧H a=aA (kyT k)∧as.length=r.length∧∀(j:Nat) (x:Ky),r[j]?=aA x→∃a,as[j]?=aA a∧H a=aA (kyT x):=by
 subst e;obtain ⟨as,h1,h2,h3⟩:=h;cases as with
 | nil=>cases h2
 | cons a as=>
  obtain ⟨a',b1,b2⟩:=h3 0 k rfl;cases b1
  exact ⟨a,as,h1,b2,by rw[aa8,aa8] at h2;omega,λj x hx=>h3 (j+1) x hx⟩
structure CvI (kinds:List Str) (rs:List Rd) (ws:List V) (g:Ky→Option Int) (kd:Str) (cs:List Rd) (st:List Ky):Prop where
 go:∀cs',Cvd kinds rs ws st cs'→Cvd kinds rs ws [(0,kd)] (cs++cs')
 rk:∀k∈st,(g k).isSome=true
 few:cs.length+ou kinds ws g st+4*(20 - cs.length)≤4*ws.length+80
theorem CvI.step {kinds:List Str} {rs:List Rd} {ws:List V} {g:Ky→Option Int} {kd:Str} {cs:List Rd} {k:Ky} {st:List Ky} (h:CvI kinds rs ws g kd cs (k::st)) (bk:Bk kinds (rs.map (·.1))) (k3:kinds.length≤3) (tw:Tw ws) {v:Int} (hv:g k=aA v) (hp:k.1 < ws.length) {f:Fd} (hf:f∈qa kinds rs ws k.1 k.2 g) (low:20≤cs.length→Ac g v f=true):CvI kinds rs ws g kd (cs++[f.1]) (f.2++st):=by
 obtain ⟨h1,h2,u,h3,h4,h5⟩:=ny hf;have hm:f.1.1∈rs.map (·.1):=ac2 h1;refine ⟨λcs' hc=>?_,λx hx=>?_,?_⟩
 ·rw[ac1];exact h.go _ (.cons h1 h2 h3 (by rw[←h4];exact hc))
 ·rcases List.mem_append.mp hx with z | z
  ·exact h5 x z
  ·exact h.rk x (aab _ z)
 ·have fw:=h.few;rw[iy] at fw;rw[aa2,aa5,Pb];by_cases c:20≤cs.length
  ·have:=Sk bk tw hm hp hv h3 (by rw[←h4];exact Ge.mp (low c));rw[←h4] at this;omega
  ·have:=Jk (g:=g) bk tw hm hp h3;rw[←h4] at this;omega
theorem Qp {H:Hp} {bs as:List Addr} {hs st:List Ky} (l1:bs.length=hs.length) (h1:∀(j:Nat) (x:Ky),hs[j]?=aA x→∃a,bs[j]?=aA a∧H a=aA (kyT x)) (h2:∀(j:Nat) (x:Ky),st[j]?=aA x→∃a,as[j]?=aA a∧H a=aA (kyT x)):∀(j:Nat) (x:Ky),(hs++st)[j]?=aA x→∃a,(bs++as)[j]?=aA a∧H a=aA (kyT x):=λj x hx=>by
 by_cases c:j < hs.length
 ·rw[aak c] at hx;rw[aak (by omega)];exact h1 j x hx
 ·rw[aah (by omega)] at hx;rw[aah (by omega),l1];exact h2 _ x hx
def nj:Sp:=λvs H Q _=>∃(b:Addr) (kinds:List Str) (rs:List Rd) (i:Nat) (r:Rd),vs=[.ref b,.str r.1.name]∧dj H b kinds rs∧((rs.map (·.1)).map (·.name)).Nodup∧rs.length≤100∧rs[i]?=aA r∧∀(ra:Addr) (H':Hp),ah H H'→gp H' ra r→Q (.ref ra) H'
theorem Rw {b:Addr} {kinds:List Str} {rs:List Rd} {i:Nat} {r:Rd} {H:Hp} {Q:VK} {E:XK} (p0:dj H b kinds rs) (p1:((rs.map (·.1)).map (·.name)).Nodup) (p2:rs.length≤100) (p3:rs[i]?=aA r) (p4:∀(ra:Addr) (H':Hp),ah H H'→gp H' ra r→Q (.ref ra) H'):nj [.ref b,.str r.1.name] H Q E:=⟨b,kinds,rs,i,r,rfl,p0,p1,p2,p3,p4⟩
structure Qk (ns:List Int) (m:Nat) (H:Hp) (t:Addr) (bt wt:Addr) (x:V) (ct:Addr) (kinds:List Str) (rs:List Rd) (ws:List V):Prop where
 h:H t=aA (.tup [.ref bt,.ref wt,x,.ref ct])
 b:dj H bt kinds rs
 bd:Bd ns kinds rs
 w:H wt=aA `ba
 tw:Tw ws
 wl:ws.length≤m+3
 wd:∀v∈ws,WdF ns v
 c:x=.non∨∃(kd:Str) (cs:List Rd),x=.str kd∧kd∈kinds∧Cvd kinds rs ws [(0,kd)] cs∧H ct=aA (.tup (cs.map λr=>V.str r.1.name))∧cs.length≤4*ws.length+80
def wo (K:aF):Sp:=λvs H Q _=>∃(a:Addr) (ns:List Int) (m:Nat),vs=[.ref a,.int (m:Int)]∧SqL K H a `J∧ns.length≤63∧1≤m∧m≤90∧∀(t bt wt:Addr) (x:V) (ct:Addr) (kinds:List Str) (rs:List Rd) (ws:List V) (H':Hp),ah H H'→Qk ns m H' t bt wt x ct kinds rs ws→Q `N H'
theorem Rq {K:aF} {a:Addr} {ns:List Int} {m:Nat} {H:Hp} {Q:VK} {E:XK} (p0:SqL K H a `J) (p1:ns.length≤63) (p2:1≤m) (p3:m≤90) (p4:∀(t bt wt:Addr) (x:V) (ct:Addr) (kinds:List Str) (rs:List Rd) (ws:List V) (H':Hp),ah H H'→Qk ns m H' t bt wt x ct kinds rs ws→Q `N H'):wo K [.ref a,.int (m:Int)] H Q E:=⟨a,ns,m,rfl,p0,p1,p2,p3,p4⟩
end Pc
namespace L2
open PySem PySem.Spec PyProof.Rows
theorem range_any (bs:List Bool) (tr:Nat→Bool) (h:∀(i:Nat) b,bs[i]?=aA b→tr i=b):(abl bs.length).any tr=bs.any id:=by
 apply Bool.eq_iff_iff.mpr
 constructor
 ·intro h1;obtain ⟨i,hi,e⟩:=List.any_eq_true.mp h1;have hl:i < bs.length:=List.mem_range.mp hi;rw[h i _ (aa1 hl)] at e;exact List.any_eq_true.mpr ⟨_,aaf hl,e⟩
 ·intro h1;obtain ⟨b,hb,e⟩:=List.any_eq_true.mp h1;obtain ⟨i,hi⟩:=abm hb;exact List.any_eq_true.mpr ⟨i,List.mem_range.mpr (List.getElem?_eq_some_iff.mp hi).1,by rw[h i b hi];exact e⟩
section
variable {X:Cx}
theorem Ab (hc:X.calm=true):fo X (.builtin "any") (λxs H Q=>∃p bs,xs=[.ref p]∧SqL X.K H p (acz V.bl bs)∧Q (.bl (bs.any id)) H):=by
 intro pins s σ H xs us Q I r h;obtain ⟨p,bs,rfl,hq,q⟩:=h;obtain ⟨u,rfl,rx⟩:=vals1 r;cases rx
 obtain ⟨its,rv,pl,hz⟩:=I.list hq;have hlen:bs.length=its.length:=by rw[←rv.length,aa0]
 refine call_any_walk (dW pl.isList ?_);have hne:p≠s.heap.objs.size:=by
  obtain ⟨o,n,e,_⟩:=pl;exact aal (aJ e)
 have I1:Inv X pins σ H { s with heap:=s.heap.push { cls:=.type "list_iterator",data:=.fields #[.ref p,.int 0 0] } }:=I.kept (t':=s.toks) λb o e=>aD _ e;have fp:=I.kh (H':=H) (aa3 s.heap.objs.size) `aG;obtain ⟨f0,f1,f2,f3,f4,f5⟩:=fp;refine ⟨s.heap.objs.size,_,_,its.toArray.size,_,_,λi=>(bs[i]?).getD false,rfl,Walks.list (A:=X.A.in1) (by show X.A.handled=none;exact I.ok.hd hc) s.heap.objs.size p hne its.toArray,⟨⟨_,aI _ rfl,rfl,rfl⟩,?_⟩,?_,λh' tk kk=>?_⟩
 ·obtain ⟨o,ho,r⟩:=pl.isList;exact ⟨o,aD _ ho,r⟩
 ·intro i v s' Q' E' hv hQ;have hv':its[i]?=aA v:=by simpa using hv
  have hi:i < bs.length:=by rw[hlen];exact (List.getElem?_eq_some_iff.mp hv').1
  have hb:(bs.map V.bl)[i]?=aA (V.bl bs[i]):=by rw[aa4,aa1 hi];rfl
  obtain ⟨u',hu',ru'⟩:=rv.get hb;rw[hv'] at hu';cases hu'
  cases ru'
  dsimp only at hQ;rw[aa1 hi] at hQ;exact dI hQ
 ·rw[aa9,←hlen,range_any bs _ (λi b e=>by rw[e];rfl)];exact ⟨.bl _,H,I1.turned (it:=s.heap.objs.size) (λb o hb e=>kk b o (by simpa using hb) e) f0 f1 f3 f4 f5,rfl,q⟩
theorem x8 (K:aF) (hK:X.K=K) (hc:X.calm=true):fo X (.builtin "any") (λxs H Q=>∃p bs,xs=[.ref p]∧SqL K H p (acz V.bl bs)∧Q (.bl (bs.any id)) H):=by subst hK;exact Ab hc
end
theorem b_any:bM "any"=aA (.builtin "any"):=by decide+kernel
structure i8 (X:Cx) (scope:Scope) (bn:Str) (fr:List Str) (ix:List Nat) (cl:List (Str×Addr)):Prop where
 clos:closureFor scope X.env=pure cl
 kind:scope.kind=.function
 one:∀n acc,jS n scope.names acc=(bn,n)::acc
 push:∀h,pushCells h scope.names=h.push { cls:=.type "cell",data:=.cell none }
 names:(scope.names.all λy=>decide (y.2≠.local)||decide (scope.names.lookup y.1=aA .local))=true
 sub:SubP X.env.cells cl
 has:((dC scope X.env).names.all λy=>!(decide (y.2=.cell)||decide (y.2=.free))||(decide (y.1=bn)||(cl.lookup y.1).isSome))=true
 fb:(fr.all λx=>!decide (x=bn))=true
 out':Cr X scope fr ix
noncomputable def cxK (X:Cx) (scope:Scope) (cl:List (Str×Addr)) (bn:Str) (ns:List Str) (fp:List Addr) (s:aE) (H:Hp):Cx where
 prog:=X.prog
 w:=X.w
 K:=X.K
 mg:=X.mg
 base:=X.base
 A:=X.A
 N:=ns
 s₀:=s
 H₀:=H
 env:=nV scope ((bn,s.heap.objs.size+1)::cl) s.heap.objs.size X.env
 outer:=X.stack
 stack:=X.stack
 ex:=fp
 fn:=λx=>x==bn
 calm:=X.calm
 pn:=[]
 xe:=λ_ _=>False
section
variable {X:Cx} {scope:Scope} {bn:Str} {fr:List Str} {ix:List Nat} {cl:List (Str×Addr)} {pins:List (Addr×Obj)} {σ:St} {H:Hp} {s:aE} {fp:List Addr}
theorem i8.len (C:i8 X scope bn fr ix cl):fr.length=ix.length:=C.out'.len
theorem i8.out (C:i8 X scope bn fr ix cl):∀(k j:Nat),ix[k]?=aA j→∃x,fr[k]?=aA x∧X.N[j]?=aA x∧Vis X.env.scope x∧X.env.kindOf x≠aA .local∧(dC scope X.env).names.lookup x≠aA .local∧x≠bn:=λk j e=>by
 obtain ⟨x,h1,h2,h3,h4⟩:=C.out'.get k j e;refine ⟨x,h1,h2,.inr (.inl h3),(by rw[h3];intro z;cases z),(by rw[h4];intro z;cases z),?_⟩;have:=List.all_eq_true.mp C.fb x (aai h1);intro z;rw[decide_eq_true z] at this;cases this
theorem i8.Cw (C:i8 X scope bn fr ix cl):∀x∈scope.names,x.2=.local→scope.names.lookup x.1=aA .local:=λx hx e=>by
 have h:=List.all_eq_true.mp C.names x hx;rw[aci] at h;rcases h with h | h
 ·exact absurd e (of_decide_eq_true h)
 ·exact of_decide_eq_true h
theorem i8.tq (C:i8 X scope bn fr ix cl):∀x c,cl.lookup x=aA c→X.env.cells.lookup x=aA c:=λx c h=>C.sub.of _ (lookup_mem h)
theorem Ai {n:Nat} {x:Str} {c:Addr} (h:((bn,n)::cl).lookup x=aA c):(x=bn∧c=n)∨(x≠bn∧cl.lookup x=aA c):=by
 rw[ace] at h;cases e:x==bn with
 | true=>
  rw[e] at h;exact .inl ⟨eq_of_beq e,(aa7 h).symm⟩
 | false=>
  rw[e] at h;exact .inr ⟨(λz=>by rw[z,beq_self_eq_true] at e;cases e),h⟩
theorem Ej {n:Nat} {x:Str} (h:x≠bn):((bn,n)::cl).lookup x=cl.lookup x:=by
 rw[ace];cases e:x==bn with
 | true=>exact absurd (eq_of_beq e) h
 | false=>rfl
theorem Hz {n:Nat}:((bn,n)::cl).lookup bn=aA n:=by
 rw[ace,beq_self_eq_true]
theorem i8.has' (C:i8 X scope bn fr ix cl) (n:Nat):∀x,((dC scope X.env).names.lookup x=aA .cell∨(dC scope X.env).names.lookup x=aA .free)→∃c,((bn,n)::cl).lookup x=aA c:=λx hx=>by
 have key:∀k,(dC scope X.env).names.lookup x=aA k→(k=.cell∨k=.free)→∃c,((bn,n)::cl).lookup x=aA c:=λk e hk=>by
  have h:=List.all_eq_true.mp C.has (x,k) (lookup_mem e);by_cases xb:x=bn
  ·exact ⟨n,by rw[xb];exact Hz⟩
  ·rw[Ej xb];rw[aci,aci] at h;rcases h with h | h | h
   ·rcases hk with rfl | rfl
    ·simp at h
    ·simp at h
   ·exact absurd (of_decide_eq_true h) xb
   ·exact Option.isSome_iff_exists.mp h
 rcases hx with h | h
 ·exact key _ h `O
 ·exact key _ h (.inr rfl)
theorem cxK_ok (C:i8 X scope bn fr ix cl) (I:Inv X pins σ H s) (f:∀b∈fp,ke X pins H b) (lt:∀b∈fp,b < s.heap.objs.size):(cxK X scope cl bn ([bn]++fr) fp s H).Ok where
 mod:=I.ok.mod
 kind:=C.kind
 glob:=I.ok.glob
 blt:=I.ok.blt
 above:=aa3 _
 inj:=λx y c h1 h2=>by
  have low:∀z,cl.lookup z=aA c→c≠s.heap.objs.size+1:=λz hz e=>by
   obtain ⟨v,q⟩:=I.cell z c (C.tq z c hz);exact absurd (e ▸ q.lt) (Nat.not_lt.mpr (ab7 _))
  rcases Ai h1 with ⟨e1,c1⟩ | ⟨_,e1⟩ <;> rcases Ai h2 with ⟨e2,c2⟩ | ⟨_,e2⟩
  ·rw[e1,e2]
  ·exact absurd c1 (low y e2)
  ·exact absurd c2 (low x e1)
  ·exact I.ok.inj x y c (C.tq x c e1) (C.tq y c e2)
 has:=λx hx=>C.has' _ x hx
 cab:=λx c h e=>by
  rcases Ai e with ⟨_,c1⟩ | ⟨n1,_⟩
  ·rw[c1];exact ab7 _
  ·exact absurd (eq_of_beq h) n1
 hd:=I.ok.hd
 frames:=I.ok.frames
 stk:=.inl rfl
 exf:=λb' hb=>⟨aal (lt b' hb),λx c e=>by
  rcases Ai e with ⟨_,c1⟩ | ⟨_,e1⟩
  ·intro z;have:=lt b' hb;rw[←z,c1] at this;exact absurd this (Nat.not_lt.mpr (ab7 _))
  ·exact (f b' hb).2.2.2.2.1 x c (C.tq x c e1)⟩
 bs:=λb o e=>I.bs b o e
 bsz:=ab6 I.ok.bsz I.sz
 noex:=λb o e hb=>by
  rcases (f b hb).2.2.2.1 with z | z
  ·exact I.ok.noex b o e z
  ·exact absurd (aan (aJ e) (ab6 I.ok.bsz z)) (abg _)
 exfs:=λb hb z=>by
  rcases List.mem_cons.mp (I.Ci b z) with q | q
  ·exact (f b hb).2.1 q
  ·exact (f b hb).2.2.1 q
 uz:=I.stack
 frf:=I.wu
theorem Ls (C:i8 X scope bn fr ix cl) (I:Inv X pins σ H s) (f:∀b∈fp,ke X pins H b) (lt:∀b∈fp,b < s.heap.objs.size) {h₁:Heap} {t:Nat} {m:Str→Option Value}
  (hns:h₁.Ns s.heap.objs.size m) (hcell:h₁.IsCell (s.heap.objs.size+1) none) (k:∀b o,s.heap.get? b=aA o→h₁.get? b=aA o):
  Inv `P [] ([none]++lx ix σ) H { s with heap:=h₁,toks:=t } where
 ok:=cxK_ok C I f lt
 os:=rfl
 bare:=I.bare
 base:=Un.kept k
 loc:=⟨m,hns,λi x v e1 e2 e3=>by
  have e1:([bn]++fr)[i]?=aA x:=e1;cases i with
  | zero=>cases e2
  | succ i=>
   have e1:fr[i]?=aA x:=e1;have e2:(lx ix σ)[i]?=aA (aA v):=e2;unfold lx at e2;rw[aa4] at e2;cases q:ix[i]? with
   | none=>rw[q] at e2;cases e2
   | some j=>
    rw[q] at e2;have e2':(σ[j]?).getD none=aA v:=aa7 e2;obtain ⟨x',hx',hN,hv,hk,hl',nb⟩:=C.out _ j q;rw[e1] at hx';cases hx'
    have e4:σ[j]?=aA (aA v):=by
     cases z:σ[j]? with
     | none=>rw[z] at e2';cases e2'
     | some w=>rw[z] at e2';exact congrArg aA e2'
    obtain ⟨mX,hnX,hl⟩:=I.loc;obtain ⟨u,r,l⟩:=hl j x v hN e4 hv;rcases l with ⟨kl,_⟩ | ⟨kk,c,ec,z⟩
    ·exact absurd kl hk
    ·have kY:(dC scope X.env).names.lookup x=aA .cell∨(dC scope X.env).names.lookup x=aA .free:=by
      rcases e3 with e3 | e3 | e3
      ·exact absurd e3 hl'
      ·exact .inl e3
      ·exact .inr e3
     obtain ⟨c',hc'⟩:=C.has' (s.heap.objs.size+1) x kY;have hc2:=hc';rw[Ej nb] at hc2;have hcc:=C.tq x c' hc2;rw[ec] at hcc;cases hcc
     obtain ⟨o,ho,hd⟩:=z;exact ⟨u,r,.inr ⟨kY,c,hc',⟨o,k c o ho,hd⟩⟩⟩⟩
 cell:=λx c e=>by
  rcases Ai e with ⟨_,c1⟩ | ⟨_,e1⟩
  ·rw[c1];exact ⟨none,hcell⟩
  ·obtain ⟨v,o,ho,hd⟩:=I.cell x c (C.tq x c e1);exact ⟨v,o,k c o ho,hd⟩
 free:=I.hok.fresh (aa3 _)
 freeC:=λx c e=>by
  rcases Ai e with ⟨_,c1⟩ | ⟨_,e1⟩
  ·rw[c1];exact I.hok.fresh (ab7 _)
  ·exact I.freeC x c (C.tq x c e1)
 pin:=λp hp=>by cases hp
 hok:=I.hok.kept k
 len:=by
  show ([none]++lx ix σ).length=([bn]++fr).length
  rw[aa2,aa2,C.len];unfold lx;rw[aa0];rfl
theorem Kq (I:Inv X pins σ H s) (f:∀b∈fp,ke X pins H b) {ns:List Str} {τ:St} {H':Hp} {s':aE} {pins':List (Addr×Obj)} (J:Inv (cxK X scope cl bn ns fp s H) pins' τ H' s'):Inv X pins σ H' s':=
 I.N5 (ch:=fp) J.os J.base J.hok J.bare λb hb=>⟨(f b hb).2.2.2.1,(f b hb).2.1,(f b hb).2.2.2.2.1,(f b hb).2.2.2.2.2⟩
end
theorem Su {M:jQ} {A:bE} {E:Value→aE→Prop} {s:aE} {scope:Scope} {globals:Addr} {cl:List (Str×Addr)} {qual:Str} {func:Option Addr} {code:Value} {outer:Env} {builtins:Addr} {Q:Env→aE→Prop} {bn:Str}
  (hone:∀n acc,jS n scope.names acc=(bn,n)::acc) (hpush:∀h,pushCells h scope.names=h.push { cls:=.type "cell",data:=.cell none })
  (hQ:Q (newEnv scope s.heap.objs.size globals ((bn,s.heap.objs.size+1)::cl) qual func code (aA outer) builtins) { s with heap:=(s.heap.push { cls:=.type "dict",data:=.dict #[] }).push { cls:=.type "cell",data:=.cell none } }):
  aH M A (iI scope globals cl [] qual func code (aA outer) builtins) Q E s:=by
 simp only[iI,ae9,if_true];refine aC (wpAny_alloc ?_);refine aC (wpAny_layCells _ (λname kind cells=>by cases hkc:kind==NameKind.cell <;> simp[hkc]) _ _ _ _ ?_);rw[hone,hpush,show ({ s with heap:=s.heap.push { cls:=.type "dict",data:=.dict #[] } }:aE).heap.objs.size=s.heap.objs.size+1 from bB ..];refine aC ?_;rw[abo];exact aG (aG hQ)
section
variable {X:Cx} {scope:Scope} {bn:Str} {fr:List Str} {ix:List Nat} {cl:List (Str×Addr)} {elt iter tg:Expr} {ifs:List Expr} {pos:Pos} {wi:TI} {g:TG} {tc:TT} {te:TE}
theorem Gj {E:Value→aE→Prop} {RR:Value→Addr→iE→aE→Prop} (C:i8 X scope bn fr ix cl) (hc:X.calm=true)
  (hg:∀fp s H,PG `P tg g) (ht:∀fp s H,Ib `P ifs tc) (he:∀fp s H,PE `P elt te)
  {pins:List (Addr×Obj)} {σ:St} {H2:Hp} {s2:aE} {it:Addr} {fp:List Addr} {tn:Nat→Heap→Prop} {J:It} {Q:Hp→Prop} (I2:Inv X pins σ H2 s2) (T:Turn X.prog X.w X.K tg J fp it tn) (st2:tn 0 s2.heap) (f2:∀b∈fp,ke X pins H2 b)
  (q:LC 1 (lx ix σ) g tc te J s2.heap.objs.size H2 Q)
  (hRR:∀(s3 s':aE) (H3 H':Hp) (τ:St),Inv X pins σ H3 s3→Inv X pins σ H' s'→H' s3.heap.objs.size=none→(∃m,s'.heap.Ns s3.heap.objs.size m)→Q H'→RR `ap s3.heap.objs.size (.ok .next) s'):
  aH `d X.A (newList []) (λacc s₃=>aH `d X.A (iI scope X.env.globals cl [] X.env.qual none .none (aA X.env)) (λcenv s₄=>
   dM `d X.A (.compStart `o 0 (.ref it) acc { cenv with scope:=dC scope X.env }) (RR acc cenv.locals) s₄) E s₃) E s2:=by
 refine cO ?_;have I3:Inv X pins σ `g { s2 with heap:=s2.heap.push { cls:=.type "list",dict:=none,data:=.seq ([]:List Value).toArray } }:=I2.lnew (t':=s2.toks) (its:=[]) .nil (aag _);have lt2:∀b∈fp,b < s2.heap.objs.size:=λb hb=>by
  obtain ⟨o,e,_⟩:=T.obj 0 _ st2 b hb;exact aJ e
 have fneD:∀b∈fp,b≠s2.heap.objs.size:=λb hb=>aal (lt2 b hb);generalize hs3:({ s2 with heap:=s2.heap.push { cls:=.type "list",dict:=none,data:=.seq ([]:List Value).toArray } }:aE)=s3 at I3 ⊢;have hsz:s3.heap.objs.size=s2.heap.objs.size+1:=by rw[←hs3];exact bB ..
 have kp23:∀b o,s2.heap.get? b=aA o→s3.heap.get? b=aA o:=λb o e=>by rw[←hs3];exact aD _ e
 have f3:∀b∈fp,ke X pins `g b:=λb hb=>by
  obtain ⟨f0,fr⟩:=f2 b hb;exact ⟨by rw[ak (fneD b hb)];exact f0,fr⟩
 have lt3:∀b∈fp,b < s3.heap.objs.size:=λb hb=>by rw[hsz];exact abw (lt2 b hb)
 refine Su C.one C.push ?_;obtain ⟨h₁,eh₁⟩:∃h₁,h₁=(s3.heap.push { cls:=.type "dict",data:=.dict #[] }).push { cls:=.type "cell",data:=.cell none }:=⟨_,rfl⟩;rw[←eh₁];have k34:∀b o,s3.heap.get? b=aA o→h₁.get? b=aA o:=λb o e=>by rw[eh₁];exact aD _ (aD _ e)
 have hns₁:h₁.Ns s3.heap.objs.size (λ_=>none):=by rw[eh₁];exact (Heap.Ns.new s3.heap (.type "dict")).keeps λb o e=>aD _ e
 have hc₁:h₁.IsCell (s3.heap.objs.size+1) none:=by
  rw[eh₁];refine ⟨{ cls:=.type "cell",data:=.cell none },?_,rfl⟩;have:=aI (s3.heap.push { cls:=.type "dict",data:=.dict #[] }) (o:={ cls:=.type "cell",data:=.cell none }) rfl;rw[bB] at this;exact this
 have I4:=Ls C I3 f3 lt3 (t:=s3.toks) hns₁ hc₁ k34;have st4:tn 0 h₁:=T.keep 0 _ _ st2 λb _ o e=>k34 b o (kp23 b o e);obtain ⟨W,⟨m0,w0⟩,turn⟩:=q;have loop:∀s4:aE,s4={ s3 with heap:=h₁ }→
   dM `d X.A (.compLoop `o 0 (.ref it) `ap (nV scope ((bn,s3.heap.objs.size+1)::cl) s3.heap.objs.size X.env)) (RR `ap s3.heap.objs.size) s4:=by
  rintro s4 rfl;have stat:∀{H':Hp},(∀b∈fp,H' b=none)→∀b∈fp,ke `am [] H' b:=λ{H'} hn b hb=>
   ⟨hn b hb,aal (lt3 b hb),I4.ok.exfs b hb,.inl hb,(I4.ok.exf b hb).2,λp hp=>by cases hp⟩
  refine rm (λn s'=>∃i τ H',τ.length=1∧Inv `am [] (τ++lx ix σ) H' s'∧tn i s'.heap∧(∀b∈fp,H' b=none)∧W i n H') ?_ m0
   ⟨0,[none],_,rfl,I4,st4,λb hb=>(f3 b hb).1,w0⟩
  rintro n s5 ⟨i,τ,H5,hτ,I5,st5,fr5,w5⟩;rcases turn i n H5 w5 with ⟨stop,qn⟩ | ⟨go,step⟩
  ·refine bG (T.done `am rfl rfl rfl hc i [] s5 _ H5 (λ_ _=>False) I5 (stat fr5) st5 stop) (λr s6 ⟨hr,I6⟩=>?_) λ_ _ z=>z.elim;subst hr;obtain ⟨mm,hmm,_⟩:=I6.loc;exact hRR s3 s6 _ H5 τ I3 (Kq I3 f3 I6) I6.free ⟨mm,hmm⟩ qn
  ·refine bG (T.item `am rfl rfl rfl hc i [] s5 _ H5 (λ_ _=>False) I5 (stat fr5) st5 go) (λr s6 ⟨u,hr,h6⟩=>?_) λ_ _ z=>z.elim;subst hr;refine bG h6 (λ_ s7 ⟨x,H7,I7,r7,y7,st7,fr7⟩=>?_) λ_ _ z=>z.elim;have I7':=I7.pinned (stat fr7) (T.obj _ _ st7);refine bG (hg fp s3 _ _ s7 _ H7 x u _ I7' r7 (step τ x H7 hτ y7)) (λ_ s8 ⟨σ8,H8,I8,⟨τ',hτ',e8⟩,q8⟩=>?_) λ_ _ z=>z.elim;have fin:∀{H9:Hp} {s9:aE},Inv `am ([]++vd fp s7.heap) σ8 H9 s9→(∃m',m' < n∧W (i+1) m' H9)→
     ∃m,m < n∧∃i τ H',τ.length=1∧Inv `am [] (τ++lx ix σ) H' s9∧tn i s9.heap∧(∀b∈fp,H' b=none)∧W i m H':=λ{H9 s9} I9 hw=>by
    obtain ⟨m',hm,w9⟩:=hw;refine ⟨m',hm,i+1,τ',H9,hτ',e8 ▸ I9.mq,T.keep _ _ _ st7 λb hb o e=>(I9.pin (b,o) (aao _ (aao _ (gy hb e)))).1,λb hb=>?_,w9⟩;obtain ⟨o,e,d⟩:=T.obj _ _ st7 b hb;exact (I9.pin (b,o) (aao _ (aao _ (gy hb e)))).2.1
   refine bG (ht fp s3 _ _ s8 σ8 H8 _ I8 q8) (λok s9 ⟨H9,I9,q9⟩=>?_) λ_ _ z=>z.elim;cases ok with
   | false=>exact fin I9 q9
   | true=>
    refine bG (he fp s3 _ _ s9 σ8 H9 _ I9 q9) (λy s10 ⟨v10,H10,I10,r10,ys,hD,hz,q10⟩=>?_) λ_ _ z=>z.elim;refine bG (vc (X:=cxK X scope cl bn ([bn]++fr) fp s3 `g) _ s10 σ8 H10 `ap [v10] _ [y] (λ_ H'=>∃m',m' < n∧W (i+1) m' H') I10 rfl (.cons r10 .nil) ⟨_,ys,v10,rfl,rfl,hD,hz,q10⟩) (λ_ s11 ⟨_,H11,I11,_,q11⟩=>?_) λ_ _ z=>z.elim;exact fin I11 q11
 exact kP (loop _ rfl) (T.self _ 0 _ _ _ st4 (loop _ rfl))
theorem pe_lcK (C:i8 X scope bn fr ix cl) (hc:X.calm=true) (hi:PI X tg iter wi) (hg:∀fp s H,PG `P tg g)
  (ht:∀fp s H,Ib `P ifs tc) (he:∀fp s H,PE `P elt te)
  (hs:∀x,gT iter X.env x=pure x:=by intro _;rfl):PE X `o (tLC 1 ix wi g tc te):=by
 intro pins s σ H Q I h;rw[eval_ListComp];refine gH (use:=none) rfl hs C.clos C.kind C.Cw (thn (hi pins s σ H _ I h) λv s1 h1=>thn h1 λitv s2 h2=>?_);obtain ⟨it,fp,tn,J,H2,e,I2,T,st2,f2,q⟩:=h2;subst e;refine Gj (RR:=λacc D=>compPost `d X.A X.xe none `ax acc D) C hc hg ht he I2 T st2 f2 (q _ (I2.hok.fresh (aa3 _))) λs3 s' H3 H' τ I3 I' hn hm q'=>?_;obtain ⟨m,hm⟩:=hm;exact ⟨m,hm,λh' sb=>⟨.ref s2.heap.objs.size,H',yc I3 I' hn sb,rfl,q'⟩⟩
end
end L2
namespace Pc
open PySem PySem.Spec L2 PyProof.Rows
def me (rd:List Rd) (H:Hp) (t:Addr) (r:Rl) (u:Und):Prop:=∃(x:Rd) (ra ut:Addr),x∈rd∧x.1=r∧H t=aA (.tup [.ref ra,.ref ut])∧gp H ra x∧i6 H ut u
theorem i6.tk' {H H':Hp} {t:Addr} {u:Und} (h:i6 H t u) (s:TK H H'):i6 H' t u:=by
 obtain ⟨t1,t2,t3,h1,h2,h3,h4⟩:=h;exact ⟨t1,t2,t3,s _ _ h1,s _ _ h2,s _ _ h3,s _ _ h4⟩
theorem me.tk {rd:List Rd} {H H':Hp} {t:Addr} {r:Rl} {u:Und} (h:me rd H t r u) (s:TK H H'):me rd H' t r u:=by
 obtain ⟨x,ra,ut,h1,h2,h3,h4,h5⟩:=h;exact ⟨x,ra,ut,h1,h2,s _ _ h3,h4.tk s,h5.tk' s⟩
theorem me.step {rd:List Rd} {H:Hp} {t:Addr} {r:Rl} {u:Und} (h:me rd H t r u):Hw H t r u:=by
 obtain ⟨x,ra,ut,h1,rfl,h3,h4,h5⟩:=h;exact ⟨ra,ut,h3,h4.rule,h5⟩
theorem Qd {rd:List Rd} {rs:List Rl} {H H8:Hp} {ra:List Addr} (hRD:bz H ra rd) (hrs:rs=rd.map (·.1)) {j:Nat} {x:Rl} {a:Addr} (hrj:rs[j]?=aA x) (ha:ra[j]?=aA a) {pr t:Addr} {u:Und} (e:H8 pr=aA (.tup [.ref a,.ref t])) (s:TK H H8) (hu:i6 H8 t u):me rd H8 pr x u:=by
 rw[hrs,aa4] at hrj;obtain ⟨y,hy,rfl⟩:=Option.map_eq_some_iff.mp hrj;obtain ⟨a',ha',hR⟩:=hRD.2 j y hy;obtain rfl:a'=a:=aa7 (ha'.symm.trans ha);exact ⟨y,a',t,aai hy,rfl,e,hR.tk s,hu⟩
def dg (rd:List Rd) (H:Hp) (as:List Addr) (ds:List (Rl×Und)):Prop:=as.length=ds.length∧∀(j:Nat) (d:Rl×Und),ds[j]?=aA d→∃a,as[j]?=aA a∧me rd H a d.1 d.2
theorem dg.nil (rd:List Rd) (H:Hp):dg rd H [] []:=⟨rfl,λj d h=>by simp at h⟩
theorem dg.tk {rd:List Rd} {H H':Hp} {as:List Addr} {ds:List (Rl×Und)} (h:dg rd H as ds) (s:TK H H'):dg rd H' as ds:=⟨h.1,λj d e=>by obtain ⟨a,a1,a2⟩:=h.2 j d e;exact ⟨a,a1,a2.tk s⟩⟩
theorem dg.snoc {rd:List Rd} {H:Hp} {as:List Addr} {ds:List (Rl×Und)} (h:dg rd H as ds) {a:Addr} {d:Rl×Und} (g:me rd H a d.1 d.2):dg rd H (as++[a]) (ds++[d]):=by
 refine ⟨by rw[aa2,aa2,h.1];rfl,λi f' hi=>?_⟩;by_cases c:i < ds.length
 ·rw[aak c] at hi;obtain ⟨a',g1,g2⟩:=h.2 i f' hi;exact ⟨a',by rw[aak (by rw[h.1];exact c)];exact g1,g2⟩
 ·rw[aah (by omega)] at hi;have hz:i - ds.length=0:=by
   rcases ad2 (i - ds.length) with g | g
   ·exact g
   ·rw[abt (by rw[aa5];omega)] at hi;cases hi
  rw[hz] at hi;cases hi
  exact ⟨a,by rw[aah (by rw[h.1];omega),h.1,hz];rfl,g⟩
def t6 (κ:Cl):Sp:=λvs H Q E=>∃(b wt:Addr) (kinds:List Str) (rd:List Rd) (ws:List V) (p:Nat) (nm kd:Str),vs=[.ref b,.str nm,.ref wt,.int (p:Int),.str kd]∧dj H b kinds rd∧H wt=aA `ba∧Bk kinds (rd.map (·.1))∧Tw ws∧p < ws.length∧jj nm∧jj kd∧(∀d,du kinds (rd.map (·.1)) ws nm kd p=aA d→∀(t:Addr) (H':Hp),ah H H'→me rd H' t d.1 d.2→Q `N H')∧(du kinds (rd.map (·.1)) ws nm kd p=none→∀H',ah H H'→E (.ref κ.badCover) none H')
theorem Oc {κ:Cl} {b wt:Addr} {kinds:List Str} {rd:List Rd} {ws:List V} {p:Nat} {nm kd:Str} {H:Hp} {Q:VK} {E:XK} (p0:dj H b kinds rd) (p1:H wt=aA `ba) (p2:Bk kinds (rd.map (·.1))) (p3:Tw ws) (p4:p < ws.length) (p5:jj nm) (p6:jj kd) (p7:∀d,du kinds (rd.map (·.1)) ws nm kd p=aA d→∀(t:Addr) (H':Hp),ah H H'→me rd H' t d.1 d.2→Q `N H') (p8:du kinds (rd.map (·.1)) ws nm kd p=none→∀H',ah H H'→E (.ref κ.badCover) none H'):t6 κ [.ref b,.str nm,.ref wt,.int (p:Int),.str kd] H Q E:=⟨b,wt,kinds,rd,ws,p,nm,kd,rfl,p0,p1,p2,p3,p4,p5,p6,p7,p8⟩
def oo (κ:Cl):Sp:=λvs H Q E=>∃(b wt ct:Addr) (kinds:List Str) (rd:List Rd) (ws:List V) (p:Nat) (kd:Str) (ns:List Str),vs=[.ref b,.ref wt,.int (p:Int),.str kd,.ref ct]∧dj H b kinds rd∧H wt=aA `ba∧H ct=aA (.tup (ns.map V.str))∧Bk kinds (rd.map (·.1))∧Tw ws∧p < ws.length∧jj kd∧(∀z∈kinds,jj z)∧(∀z∈ns,jj z)∧ns.length≤100000∧(∀ds,cf kinds (rd.map (·.1)) ws ns [(p,kd)]=aA ds→∀(l:Addr) (as:List Addr) (H':Hp),ah H H'→H' l=aA `f→dg rd H' as ds→Q `D H')∧(cf kinds (rd.map (·.1)) ws ns [(p,kd)]=none→∀H',ah H H'→E (.ref κ.badCover) none H')
theorem Lb {κ:Cl} {b wt ct:Addr} {kinds:List Str} {rd:List Rd} {ws:List V} {p:Nat} {kd:Str} {ns:List Str} {H:Hp} {Q:VK} {E:XK} (p0:dj H b kinds rd) (p1:H wt=aA `ba) (p2:H ct=aA (.tup (ns.map V.str))) (p3:Bk kinds (rd.map (·.1))) (p4:Tw ws) (p5:p < ws.length) (p6:jj kd) (p7:∀z∈kinds,jj z) (p8:∀z∈ns,jj z) (p9:ns.length≤100000) (pa:∀ds,cf kinds (rd.map (·.1)) ws ns [(p,kd)]=aA ds→∀(l:Addr) (as:List Addr) (H':Hp),ah H H'→H' l=aA `f→dg rd H' as ds→Q `D H') (pb:cf kinds (rd.map (·.1)) ws ns [(p,kd)]=none→∀H',ah H H'→E (.ref κ.badCover) none H'):oo κ [.ref b,.ref wt,.int (p:Int),.str kd,.ref ct] H Q E:=⟨b,wt,ct,kinds,rd,ws,p,kd,ns,rfl,p0,p1,p2,p3,p4,p5,p6,p7,p8,p9,pa,pb⟩
noncomputable def lu:List Str:=["out","t1","t2","t3"]
noncomputable def sq (b:Str) (dd:List `z):Bool:=dd.any λx=>inV (.str b) x
noncomputable def bo (dd:List `z):List Str:=lu.filter λb=>sq b dd
def my:Sp:=λvs H Q _=>∃(ra:Addr) (r:Rd),vs=[.ref ra]∧gp H ra r∧(∀x∈r.2,∀v∈x,isW v)∧r.2.length≤100∧∀(l:Addr) (H':Hp),ah H H'→H l=none→H' l=aA (.lst ((bo r.2).map V.str))→Q `D H'
theorem Fo {ra:Addr} {r:Rd} {H:Hp} {Q:VK} {E:XK} (p0:gp H ra r) (p1:∀x∈r.2,∀v∈x,isW v) (p2:r.2.length≤100) (p3:∀(l:Addr) (H':Hp),ah H H'→H l=none→H' l=aA (.lst ((bo r.2).map V.str))→Q `D H'):my [.ref ra] H Q E:=⟨ra,r,rfl,p0,p1,p2,p3⟩
theorem any_map {κ:Type} {f:κ→Bool} {ks:List κ}:(ks.map f).any id=ks.any f:=by
 rw[List.any_map];rfl
theorem Qj {K:aF} {a:Addr} {xs:List V} {fr:L2.St} {tc:TT} {te:TE} {D:Addr} {H1:Hp} {Q:Hp→Prop} (P:Nat→List V→Hp→Prop) (mono:∀i ys H H',(∀b o,b≠D→H b=aA o→H' b=aA o)→P i ys H→P i ys H') (hS:SqL K H1 a xs) (hn:xs.length < sizeLine) (hD:H1 D=none) (h0:P 0 [] H1)
  (step:∀i x ys H (G:Hp→Prop) (K':V→Hp→Prop),xs[i]?=aA x→P i ys H→ys.length≤i→ah H1 H→H D=aA (.lst ys)→(∀H3,ah H H3→P (i+1) ys H3→G H3)→(∀y H4,ah H H4→P (i+1) (ys++[y]) H4→K' y H4)→tc ([aA x]++fr) H λb H3=>if b=true then te ([aA x]++fr) H3 K' else G H3)
  (done:∀ys H,P xs.length ys H→ys.length≤xs.length→ah H1 H→H D=aA (.lst ys)→Q H):LC 1 fr (i5 0) tc te (Itl K a) D H1 Q:=by
 refine ⟨λi m H=>m=xs.length - i∧i≤xs.length∧∃ys,H D=aA (.lst ys)∧P i ys H∧ys.length≤i∧ah H1 H,⟨xs.length,by simp,aag _,[],aa,mono _ _ _ _ (λb o hb h=>by rw[ak hb];exact h) h0,aa3 _,ae hD _⟩,?_⟩;rintro i m H ⟨rfl,hi,ys,hys,hP,hl,hs⟩;by_cases hlt:i < xs.length
 ·have hx:xs[i]?=aA xs[i]:=aa1 hlt;refine .inr ⟨⟨xs,_,hs.seq hS,hx⟩,λτ x H' hτ hy=>?_⟩;obtain ⟨e1,e2⟩:=hy;subst e1;obtain rfl:x=xs[i]:=aa7 ((e2 xs (hs.seq hS)).symm.trans hx);obtain ⟨c,rfl⟩:∃c,τ=[c]:=List.length_eq_one_iff.mp hτ;refine ⟨⟨[aA xs[i]],rfl,rfl⟩,step i _ ys H' _ _ hx hP hl hs hys (λH3 q1 q2=>?_) (λy H4 q1 q2=>?_)⟩
  ·exact ⟨xs.length - (i+1),by omega,rfl,hlt,ys,q1 _ _ hys,q2,adu hl,hs.trans q1⟩
  ·refine ⟨ys,q1 _ _ hys,by omega,xs.length - (i+1),by omega,rfl,hlt,ys++[y],aa,mono _ _ _ _ (λb o hb h=>by rw[ak hb];exact h) q2,?_,(hs.trans q1).upd hD _⟩;rw[aa2,aa5];omega
 ·obtain rfl:i=xs.length:=by omega
  exact .inl ⟨⟨xs,hs.seq hS,aa3 _⟩,done ys H hP hl hs hys⟩
noncomputable def ff (ds:List (Rl×Und)):List Nat:=ds.map λd=>d.2.hs.length
theorem Fz {ar:List Nat} (h:pend 1 ar=aA 0) {p:Nat} (hp:p < ar.length):∃m,pend (m+ar.getD p 0) (ar.drop (p+1))=aA 0:=by
 have hd:ar.drop p=ar.getD p 0::ar.drop (p+1):=by
  rw[aay hp,aaj,aa1 hp];rfl
 obtain ⟨m,hm⟩:=Bs _ 1 h p;rw[hd] at hm;cases m with
 | zero=>cases hm
 | succ m=>exact ⟨m,hm⟩
def sv:Sp:=λvs H Q _=>∃(sl:Addr) (as:List Addr) (rd:List Rd) (ds:List (Rl×Und)),vs=[.ref sl]∧H sl=aA `f∧dg rd H as ds∧pend 1 (ff ds)=aA 0∧ds.length≤1000∧∀(D:Addr) (rs:List Addr) (H':Hp),ah H H'→H' D=aA `a2→rs.length=ds.length→dm H' rs (bb (ff ds))→Q (.ref D) H'
theorem My {sl:Addr} {as:List Addr} {rd:List Rd} {ds:List (Rl×Und)} {H:Hp} {Q:VK} {E:XK} (p0:H sl=aA `f) (p1:dg rd H as ds) (p2:pend 1 (ff ds)=aA 0) (p3:ds.length≤1000) (p4:∀(D:Addr) (rs:List Addr) (H':Hp),ah H H'→H' D=aA `a2→rs.length=ds.length→dm H' rs (bb (ff ds))→Q (.ref D) H'):sv [.ref sl] H Q E:=⟨sl,as,rd,ds,rfl,p0,p1,p2,p3,p4⟩
noncomputable def gq (ar:List Nat):Nat→Nat→List Nat
 | 0,_=>[]
 | n+1,p=>(bb ar p).flatMap (gq ar n)++[p]
noncomputable def m7 (ar:List Nat):Nat→Nat→List Nat
 | 0,_=>[]
 | k+1,p=>p::m7 ar k (p+(eat 1 `X).getD 0)
theorem jk {ar:List Nat} {k p m:Nat} (h:eat 1 `X=aA m):m7 ar (k+1) p=p::m7 ar k (p+m):=by
 show p::m7 ar k (p+(eat 1 `X).getD 0)=_
 rw[h];rfl
theorem nc {ar:List Nat} {k p n:Nat} (h:eat (k+1) `X=aA n):∃m,eat 1 `X=aA m∧m≤n∧1≤m∧eat k (ar.drop (p+m))=aA (n - m):=by
 rw[adx k 1,um] at h;cases e:eat 1 `X with
 | none=>rw[e] at h;cases h
 | some m=>
  rw[e] at h;have h:(eat k ((ar.drop p).drop m)).map (m+·)=aA n:=h;obtain ⟨t,ht,et⟩:=Option.map_eq_some_iff.mp h;rw[ad4] at ht;have et:m+t=n:=et;exact ⟨m,rfl,by omega,cu e,by rw[ht];congr 1;omega⟩
theorem vn {ar:List Nat}:∀(k p n:Nat),eat k `X=aA n→(starts p `X).take k=m7 ar k p
 | 0,p,n,h=>rfl
 | k+1,p,n,h=>by
  obtain ⟨m,hm,_,_,hk⟩:=nc h;have hd:=vp _ 1 m p hm;rw[ad4] at hd;have hne:ar.drop p≠[]:=λe=>by rw[e] at hm;cases hm
  obtain ⟨t,ht⟩:=vo _ p hne;rw[ht] at hd ⊢;have hd:t=starts (p+m) (ar.drop (p+m)):=hd;rw[jk hm,List.take_succ_cons,hd,vn k (p+m) _ hk]
theorem fz {ar:List Nat} {p s:Nat} (h:eat 1 `X=aA s):p < ar.length∧bb ar p=m7 ar (ar.getD p 0) (p+1)∧∃n,eat (ar.getD p 0) (ar.drop (p+1))=aA n∧s=n+1:=by
 have hp:p < ar.length:=Nat.lt_of_not_le λz=>by rw[ac6 z] at h;cases h
 have hd:ar.drop p=ar.getD p 0::ar.drop (p+1):=by
  rw[aay hp,aaj,aa1 hp];rfl
 rw[hd] at h;have h:(eat (0+ar.getD p 0) (ar.drop (p+1))).map (·+1)=aA s:=h;obtain ⟨n,hn,en⟩:=Option.map_eq_some_iff.mp h;rw[abn] at hn;exact ⟨hp,vn _ _ _ hn,n,hn,en.symm⟩
theorem Ep {ar:List Nat}:∀(k p n:Nat),eat k `X=aA n→∀q∈m7 ar k p,∃s,eat 1 (ar.drop q)=aA s∧s≤n∧p≤q∧q+s≤p+n
 | 0,p,n,h,q,hq=>nomatch hq
 | k+1,p,n,h,q,hq=>by
  obtain ⟨m,hm,h1,h2,hk⟩:=nc h;rw[jk hm] at hq;rcases List.mem_cons.mp hq with rfl | hq
  ·exact ⟨m,hm,h1,aa3 _,by omega⟩
  ·obtain ⟨s,a,b,c,d⟩:=Ep k _ _ hk q hq;exact ⟨s,a,by omega,by omega,by omega⟩
theorem iw {ar:List Nat} {p s:Nat} (h:eat 1 `X=aA s):∀q∈bb ar p,∃t,eat 1 (ar.drop q)=aA t∧t+1≤s∧p < q:=λq hq=>by
 obtain ⟨_,hb,n,hn,e⟩:=fz h;rw[hb] at hq;obtain ⟨t,a,b,c,d⟩:=Ep _ _ _ hn q hq;exact ⟨t,a,by omega,by omega⟩
theorem Ft {ar:List Nat} {f:Nat→List Nat}:∀(k q t:Nat),eat k (ar.drop q)=aA t→(∀x s,eat 1 (ar.drop x)=aA s→s≤t→(f x).length=s)→((m7 ar k q).flatMap f).length=t
 | 0,q,t,h,hf=>by
  rw[i4] at h;cases h
  rfl
 | k+1,q,t,h,hf=>by
  obtain ⟨m,hm,h1,h2,hk⟩:=nc h;rw[jk hm,aby,aa2,hf q m hm h1,Ft k _ _ hk λx s hx hs=>hf x s hx (by omega)];omega
theorem Fn {ar:List Nat}:∀(n p s:Nat),eat 1 `X=aA s→s≤n→(gq ar n p).length=s
 | 0,p,s,h,hs=>by have:=cu h;omega
 | n+1,p,s,h,hs=>by
  obtain ⟨_,hb,m,hm,e⟩:=fz h;show ((bb ar p).flatMap (gq ar n)++[p]).length=s
  rw[aa2,aa5,hb,Ft _ _ _ hm λx t hx ht=>Fn n x t hx (by omega)];omega
theorem kr {α β:Type} {f g:α→List β}:∀{l:List α},(∀x∈l,f x=g x)→l.flatMap f=l.flatMap g
 | [],_=>rfl
 | x::l,h=>by
  rw[aby,aby,h x aa6,kr λy hy=>h y (aab _ hy)]
theorem Bz {ar:List Nat}:∀(n p s:Nat),eat 1 `X=aA s→s≤n→gq ar (n+1) p=gq ar n p
 | 0,p,s,h,hs=>by have:=cu h;omega
 | n+1,p,s,h,hs=>by
  show (bb ar p).flatMap (gq ar (n+1))++[p]=(bb ar p).flatMap (gq ar n)++[p]
  rw[kr λq hq=>by
   obtain ⟨t,a,b,_⟩:=iw h q hq;exact Bz n q t a (by omega)]
noncomputable def post (ar:List Nat) (p:Nat):List Nat:=gq ar ar.length p
theorem Cj {ar:List Nat} {p s:Nat} (h:eat 1 `X=aA s):p+s≤ar.length:=by
 have:=qf _ _ _ h;rw[aav] at this;have:=(fz h).1;omega
theorem post_eq {ar:List Nat} {p s:Nat} (h:eat 1 `X=aA s):post ar p=(bb ar p).flatMap (post ar)++[p]:=by
 have h1:=Cj h;have h2:=cu h;unfold post;obtain ⟨n,hn⟩:∃n,ar.length=n+1:=⟨ar.length - 1,by omega⟩;rw[hn];show (bb ar p).flatMap (gq ar n)++[p]=_
 rw[kr λq hq=>by
  obtain ⟨t,a,b,_⟩:=iw h q hq;exact (Bz n q t a (by omega)).symm]
theorem j5 {ar:List Nat} {p s:Nat} (h:eat 1 `X=aA s):(post ar p).length=s:=Fn _ _ _ h (by have:=Cj h;omega)
noncomputable def back (ar:List Nat) (p:Nat):List Nat:=(post ar p).reverse
theorem back_eq {ar:List Nat} {p s:Nat} (h:eat 1 `X=aA s):back ar p=p::(bb ar p).reverse.flatMap (back ar):=by
 unfold back;rw[post_eq h,acw,List.reverse_flatMap];rfl
theorem yo {ar:List Nat}:∀{w:List Nat},(∀q∈w,∃s,eat 1 (ar.drop q)=aA s)→w.length≤(w.flatMap (back ar)).length
 | [],_=>aa3 _
 | q::w,h=>by
  have:=yo λx hx=>h x (aab _ hx);obtain ⟨s,hs⟩:=h q aa6;have h1:=cu hs;rw[aby,aa2,aa8];have:(back ar q).length=s:=by unfold back;rw[ab8,j5 hs]
  omega
def uf:Sp:=λvs H Q _=>∃(hl:Addr) (rs:List Addr) (ar:List Nat),vs=[.ref hl]∧H hl=aA `a2∧dm H rs (bb ar)∧rs.length=ar.length∧pend 1 ar=aA 0∧ar.length≤1000∧∀(l:Addr) (H':Hp),ah H H'→H' l=aA (.lst ((post ar 0).map plV))→Q `D H'
theorem Q4 {hl:Addr} {rs:List Addr} {ar:List Nat} {H:Hp} {Q:VK} {E:XK} (p0:H hl=aA `a2) (p1:dm H rs (bb ar)) (p2:rs.length=ar.length) (p3:pend 1 ar=aA 0) (p4:ar.length≤1000) (p5:∀(l:Addr) (H':Hp),ah H H'→H' l=aA (.lst ((post ar 0).map plV))→Q `D H'):uf [.ref hl] H Q E:=⟨hl,rs,ar,rfl,p0,p1,p2,p3,p4,p5⟩
abbrev Sd:=Rd×Und
def vx (H:Hp) (t:Addr) (e:Sd):Prop:=∃ra ut:Addr,H t=aA (.tup [.ref ra,.ref ut])∧gp H ra e.1∧i6 H ut e.2
theorem vx.tk {H H':Hp} {t:Addr} {e:Sd} (h:vx H t e) (s:TK H H'):vx H' t e:=by
 obtain ⟨ra,ut,h1,h2,h3⟩:=h;exact ⟨ra,ut,s _ _ h1,h2.tk s,h3.tk' s⟩
def mh (H:Hp) (as:List Addr) (es:List Sd):Prop:=as.length=es.length∧∀(j:Nat) (e:Sd),es[j]?=aA e→∃a,as[j]?=aA a∧vx H a e
theorem mh.tk {H H':Hp} {as:List Addr} {es:List Sd} (h:mh H as es) (s:TK H H'):mh H' as es:=⟨h.1,λj e he=>by obtain ⟨a,a1,a2⟩:=h.2 j e he;exact ⟨a,a1,a2.tk s⟩⟩
theorem dg.cons {rd:List Rd} {H:Hp} {a:Addr} {as:List Addr} {d:Rl×Und} {ds:List (Rl×Und)} (h:dg rd H (a::as) (d::ds)):me rd H a d.1 d.2∧dg rd H as ds:=by
 obtain ⟨h1,h2⟩:=h;rw[aa8,aa8] at h1;refine ⟨?_,by omega,λj x hx=>h2 (j+1) x hx⟩;obtain ⟨a',b1,b2⟩:=h2 0 d rfl;cases b1
 exact b2
theorem dg.steps {rd:List Rd} {H:Hp}:∀{as:List Addr} {ds:List (Rl×Und)},dg rd H as ds→∃es:List Sd,es.map (λe=>(e.1.1,e.2))=ds∧(∀e∈es,e.1∈rd)∧mh H as es
 | [],[],_=>⟨[],rfl,(λ_ h=>nomatch h),rfl,λj e h=>by simp at h⟩
 | [],_::_,h=>by cases h.1
 | _::_,[],h=>by cases h.1
 | a::as,d::ds,h=>by
  obtain ⟨h1,h2⟩:=h.cons;obtain ⟨es,e1,e2,e3,e4⟩:=dg.steps h2;obtain ⟨x,ra,ut,hx,hxd,g1,g2,g3⟩:=h1;refine ⟨(x,d.2)::es,by rw[aaq,e1,hxd],λe he=>?_,by rw[aa8,aa8,e3],λj e he=>?_⟩
  ·rcases List.mem_cons.mp he with rfl | he
   ·exact hx
   ·exact e2 e he
  ·cases j with
   | zero=>cases he;exact ⟨a,rfl,ra,ut,g1,g2,g3⟩
   | succ j=>exact e4 j e he
noncomputable def nbE (es:List Sd) (p:Nat):Nat:=((es[p]?).map λe=>(bo e.1.2).length).getD 0
noncomputable def baseOf (nb:Nat→Nat):List Nat→Nat→Nat→Nat
 | [],c,_=>c
 | o::r,c,p=>if o=p then c else baseOf nb r (c+nb o) p
noncomputable def sumOf (nb:Nat→Nat) (os:List Nat):Nat:=(os.map nb).sum
theorem xw {nb:Nat→Nat}:∀{os:List Nat} {r:List Nat} {c p:Nat},p∉os→baseOf nb (os++r) c p=baseOf nb r (c+sumOf nb os) p
 | [],r,c,p,_=>rfl
 | o::os,r,c,p,h=>by
  show (if o=p then c else baseOf nb (os++r) (c+nb o) p)=_
  rw[if_neg λe=>h (by rw[e];exact aa6),xw λz=>h (aab _ z)];congr 1
  unfold sumOf;rw[aaq,ads];omega
theorem Dp {nb:Nat→Nat}:∀{os:List Nat} {r:List Nat} {c p:Nat},p∈os→baseOf nb (os++r) c p=baseOf nb os c p
 | o::os,r,c,p,h=>by
  show (if o=p then c else baseOf nb (os++r) (c+nb o) p)=if o=p then c else baseOf nb os (c+nb o) p
  by_cases e:o=p
  ·rw[if_pos e,if_pos e]
  ·rw[if_neg e,if_neg e];rcases List.mem_cons.mp h with z | z
   ·exact absurd z.symm e
   ·exact Dp z
theorem Am {nb:Nat→Nat} {os:List Nat} {c p:Nat} (h:p∉os):baseOf nb (os++[p]) c p=c+sumOf nb os:=by
 rw[xw h];show (if p=p then _ else _)=_
 rw[if_pos rfl]
theorem Fp (nb:Nat→Nat) (os:List Nat) (p:Nat):sumOf nb (os++[p])=sumOf nb os+nb p:=by
 unfold sumOf;rw[aaa,adm];simp
theorem Cy (dd:List `z):(bo dd).length≤4:=ade _ _
theorem nb_le (es:List Sd) (p:Nat):nbE es p≤4:=by
 unfold nbE;cases es[p]? with
 | none=>exact aag _
 | some e=>exact Cy _
theorem Pj (es:List Sd):∀os:List Nat,sumOf (nbE es) os≤4*os.length
 | []=>aa3 _
 | o::os=>by
  have h1:=Pj es os;have h2:=nb_le es o;unfold sumOf at h1 ⊢;rw[aaq,ads,aa8];omega
def ly (H:Hp) (no:Addr→Prop) (d:Addr) (es:List Sd) (os:List Nat):Prop:=∃kvs:List (Key×V),H d=aA (.dK kvs)∧kvs.length≤os.length∧∀p∈os,∃l,¬no l∧dk kvs (cK (p:Int))=aA `D∧H l=aA (.lst ((acd (baseOf (nbE es) os 0 p) (nbE es p)).map plV))
theorem ue {κ:Type} [DecidableEq κ] (kvs:List (κ×V)) (k:κ) (v:V):(putK kvs k v).length≤kvs.length+1:=by
 unfold putK;split
 ·rw[aa0];omega
 ·rw[aa2,aa5];exact aa3 _
theorem ly.nil {H:Hp} {no:Addr→Prop} {d:Addr} {es:List Sd}:ly (upd H d (.dK [])) no d es []:=⟨[],aa,aa3 _,λp h=>nomatch h⟩
theorem ly.same {H H':Hp} {no:Addr→Prop} {d:Addr} {es:List Sd} {os:List Nat} (h:ly H no d es os) (s:ah H H'):ly H' no d es os:=by
 obtain ⟨kvs,h1,h2,h3⟩:=h;exact ⟨kvs,s _ _ h1,h2,λp hp=>by obtain ⟨l,a,b,c⟩:=h3 p hp;exact ⟨l,a,b,s _ _ c⟩⟩
theorem ly.weak {H:Hp} {no no':Addr→Prop} {d:Addr} {es:List Sd} {os:List Nat} (h:ly H no d es os) (w:∀x,no' x→no x):ly H no' d es os:=by
 obtain ⟨kvs,h1,h2,h3⟩:=h;exact ⟨kvs,h1,h2,λp hp=>by obtain ⟨l,a,b,c⟩:=h3 p hp;exact ⟨l,λz=>a (w _ z),b,c⟩⟩
theorem ly.snoc {H:Hp} {no:Addr→Prop} {d l:Addr} {es:List Sd} {os:List Nat} {p:Nat} (h:ly H no d es os) (hd:no d) (hp:p∉os) (hl:¬no l) (e:H l=aA (.lst ((acd (sumOf (nbE es) os) (nbE es p)).map plV))):∃kvs,H d=aA (.dK kvs)∧kvs.length≤os.length∧ly (upd H d (.dK (putK kvs (cK (p:Int)) `D))) no d es (os++[p]):=by
 obtain ⟨kvs,h1,h2,h3⟩:=h;refine ⟨kvs,h1,h2,_,aa,?_,λq hq=>?_⟩
 ·have:=ue kvs (cK (p:Int)) `D;rw[aa2,aa5];omega
 ·by_cases c:q=p
  ·subst c;refine ⟨l,hl,by rw[ja,if_pos rfl],?_⟩;rw[ak (λz:l=d=>hl (by rw[z];exact hd)),e,Am hp,abn]
  ·have hq':q∈os:=by
    rcases List.mem_append.mp hq with z | z
    ·exact z
    ·exact absurd (List.mem_singleton.mp z) c
   obtain ⟨l',a1,a2,a3⟩:=h3 q hq';refine ⟨l',a1,?_,?_⟩
   ·rw[ja,if_neg λz=>c (by have:=Sum.inl.inj z;omega)];exact a2
   ·rw[ak (λz:l'=d=>a1 (by rw[z];exact hd)),a3,Dp hq']
theorem Q6 (b n:Nat):(abl n).map (λk:Nat=>V.int ((b:Int)+(k:Int)))=(acd b n).map plV:=by
 rw[List.range'_eq_map_range,abd];refine List.map_congr_left λk _=>?_;show V.int _=V.int ((b+k:Nat):Int)
 congr 1
def xn (e:Sd):Prop:=(∀x∈e.1.2,∀v∈x,isW v)∧e.1.2.length≤100
def n6:Sp:=λvs H Q _=>∃(sl ol:Addr) (as:List Addr) (es:List Sd) (os:List Nat),vs=[.ref sl,.ref ol]∧H sl=aA `f∧mh H as es∧H ol=aA (.lst (os.map plV))∧os.Nodup∧(∀o∈os,o < es.length)∧(∀e∈es,xn e)∧os.length≤1000∧∀(d:Addr) (H':Hp),ah H H'→H d=none→ly H' (λx=>H x≠none) d es os→Q `aY H'
theorem Lh {sl ol:Addr} {as:List Addr} {es:List Sd} {os:List Nat} {H:Hp} {Q:VK} {E:XK} (p0:H sl=aA `f) (p1:mh H as es) (p2:H ol=aA (.lst (os.map plV))) (p3:os.Nodup) (p4:∀o∈os,o < es.length) (p5:∀e∈es,xn e) (p6:os.length≤1000) (p7:∀(d:Addr) (H':Hp),ah H H'→H d=none→ly H' (λx=>H x≠none) d es os→Q `aY H'):n6 [.ref sl,.ref ol] H Q E:=⟨sl,ol,as,es,os,rfl,p0,p1,p2,p3,p4,p5,p6,p7⟩
noncomputable def gv (m:Str→Option V) (k:Str) (v:V):Str→Option V:=λz=>if z=k then aA v else m z
noncomputable def cb (c:Str) (n:Nat):Str:=(gD++c)++aB (toString ((n:Nat):Int))
noncomputable def putL (c:Str):List V→Nat→(Str→Option V)→(Str→Option V)
 | [],_,m=>m
 | x::xs,j,m=>putL c xs (j+1) (gv m (cb c (j+1)) x)
theorem jt (c:Str) (x:V):∀(xs:List V) (j:Nat) (m:Str→Option V),putL c (xs++[x]) j m=gv (putL c xs j m) (cb c (j+xs.length+1)) x
 | [],j,m=>rfl
 | y::xs,j,m=>by
  show putL c (xs++[x]) (j+1) _=gv (putL c xs (j+1) _) _ x
  rw[jt c x xs (j+1),aa8,show j+1+xs.length+1=j+(xs.length+1)+1 by omega]
noncomputable def oy (us:List Str) (bs:List Int):Str→Option V:=λz=>dk (gc ((us.map (aP:Str→Key)).zip (bs.map V.int)) []) (aP z)
noncomputable def chS (ch:Nat):Str:=⟨#[ch]⟩
noncomputable def dh (e:Sd) (is bs:List Int):Str→Option V:=putL (chS 118) e.2.vs 0 (putL (chS 110) e.2.ns 0 (putL `aR `a8 0 (oy (bo e.1.2) bs)))
def DM (H:Hp) (d:Addr) (m:Str→Option V) (n:Nat):Prop:=∃kvs:List (Key×V),H d=aA (.dK kvs)∧kvs.length≤n∧(∀z,dk kvs (aP z)=m z)∧∀i,dk kvs (cK i)=none
theorem DM.same {H H':Hp} {d:Addr} {m:Str→Option V} {n:Nat} (h:DM H d m n) (s:ah H H'):DM H' d m n:=by
 obtain ⟨kvs,h1,h2⟩:=h;exact ⟨kvs,s _ _ h1,h2⟩
theorem DM.put {H:Hp} {d:Addr} {m:Str→Option V} {n:Nat} (h:DM H d m n) (hn:n≤100000) (z:Str) (v:V):∃H',zo H d `Q v H'∧DM H' d (gv m z v) (n+1)∧∃o,H'=upd H d o:=by
 obtain ⟨kvs,h1,h2,h3,h4⟩:=h;have sz:=aQ;refine ⟨_,zo.k (k:=aP z) h1 (by omega),⟨_,aa,?_,λy=>?_,λi=>?_⟩,_,rfl⟩
 ·have:=ue kvs (aP z) v;omega
 ·rw[ja];unfold gv;by_cases c:y=z
  ·rw[if_pos (by rw[c]),if_pos c]
  ·rw[if_neg (λe=>c (fU e)),if_neg c];exact h3 y
 ·rw[ja,if_neg (λe=>nomatch e)];exact h4 i
def wc:Sp:=λvs H Q _=>∃(st rl bl:Addr) (e:Sd) (is bs:List Int),vs=[.ref st,.ref rl,.ref bl]∧vx H st e∧xn e∧H rl=aA (.lst `a8)∧H bl=aA (.lst (bs.map V.int))∧bs.length=(bo e.1.2).length∧is.length≤1000∧e.2.ns.length≤1000∧e.2.vs.length≤1000∧∀(d:Addr) (H':Hp),ah H H'→DM H' d (dh e is bs) 4000→Q `aY H'
theorem Tr {st rl bl:Addr} {e:Sd} {is bs:List Int} {H:Hp} {Q:VK} {E:XK} (p0:vx H st e) (p1:xn e) (p2:H rl=aA (.lst `a8)) (p3:H bl=aA (.lst (bs.map V.int))) (p4:bs.length=(bo e.1.2).length) (p5:is.length≤1000) (p6:e.2.ns.length≤1000) (p7:e.2.vs.length≤1000) (p8:∀(d:Addr) (H':Hp),ah H H'→DM H' d (dh e is bs) 4000→Q `aY H'):wc [.ref st,.ref rl,.ref bl] H Q E:=⟨st,rl,bl,e,is,bs,rfl,p0,p1,p2,p3,p4,p5,p6,p7,p8⟩
noncomputable def mI (e:Sd) (is bs:List Int):Nat→Str→Option V
 | 0=>oy (bo e.1.2) bs
 | 1=>putL `aR `a8 0 (oy (bo e.1.2) bs)
 | 2=>putL (chS 110) e.2.ns 0 (putL `aR `a8 0 (oy (bo e.1.2) bs))
 | _=>dh e is bs
theorem Ay {i:Int}:∀(ps acc:List (Key×V)),(∀p∈ps,∃z:Str,p.1=aP z)→dk acc (cK i)=none→dk (gc ps acc) (cK i)=none
 | [],acc,_,h=>h
 | p::ps,acc,hp,h=>by
  show dk (gc ps (putK acc p.1 p.2)) (cK i)=none
  refine Ay ps _ (λq hq=>hp q (aab _ hq)) ?_;obtain ⟨z,hz⟩:=hp p aa6;rw[ja,hz,if_neg (λe=>nomatch e)];exact h
theorem DM.first {H:Hp} {d:Addr} {us:List Str} {bs:List Int} (hl:us.length≤4):DM (upd H d (.dK (gc ((us.map (aP:Str→Key)).zip (bs.map V.int)) []))) d (oy us bs) 4:=by
 refine ⟨_,aa,?_,λz=>rfl,λi=>Ay _ _ (λp hp=>?_) rfl⟩
 ·have:=qx ((us.map (aP:Str→Key)).zip (bs.map V.int)) [];rw[abr,aa0] at this;have e:([]:List (Key×V)).length=0:=rfl;omega
 ·obtain ⟨z,_,e⟩:=List.mem_map.mp (ac9 (a:=p.1) (b:=p.2) hp).1;exact ⟨z,e.symm⟩
theorem DM.mono {H:Hp} {d:Addr} {m:Str→Option V} {n n':Nat} (h:DM H d m n) (e:n≤n'):DM H d m n':=by
 obtain ⟨kvs,h1,h2,h3⟩:=h;exact ⟨kvs,h1,by omega,h3⟩
noncomputable def wOf (m:Str→Option V):V→V
 | .str z=>(m z).getD `Q
 | v=>v
noncomputable def rowOf (m:Str→Option V) (x:List V):List V:=x.take 1++(x.drop 1).map (wOf m)
noncomputable def jv (e:Sd) (is bs:List Int):List `z:=e.1.2.map (rowOf (dh e is bs))
theorem bc.snoc1 {H:Hp} {as:List Addr} {dd:List `z} (h:bc H as dd) {a:Addr} {x:List V} (e:H a=aA (.tup x)):bc H (as++[a]) (dd++[x]):=by
 refine ⟨by rw[aa2,aa2,h.1];rfl,λi f' hi=>?_⟩;by_cases c:i < dd.length
 ·rw[aak c] at hi;obtain ⟨a',g1,g2⟩:=h.2 i f' hi;exact ⟨a',by rw[aak (by rw[h.1];exact c)];exact g1,g2⟩
 ·rw[aah (by omega)] at hi;have hz:i - dd.length=0:=by
   rcases ad2 (i - dd.length) with g | g
   ·exact g
   ·rw[abt (by rw[aa5];omega)] at hi;cases hi
  rw[hz] at hi;cases hi
  exact ⟨a,by rw[aah (by rw[h.1];omega),h.1,hz];rfl,e⟩
theorem DM.get {H:Hp} {d:Addr} {m:Str→Option V} {n:Nat} (h:DM H d m n) {v:V} (hv:isW v):∃o,gn H d v o∧o.getD v=wOf m v:=by
 obtain ⟨kvs,h1,h2,h3,h4⟩:=h;obtain ⟨k,rfl⟩:=hv;refine ⟨_,gn.k h1,?_⟩;cases k with
 | inl i=>rw[h4 i];rfl
 | inr z=>rw[h3 z];rfl
theorem DM.ty {K:aF} {H:Hp} {d:Addr} {m:Str→Option V} {n:Nat} (h:DM H d m n):tyV K "dict" (.ref d) H:=by
 obtain ⟨kvs,h1,_⟩:=h;exact Oh h1
theorem Th (x:List V) (h:1≤x.length):ir x none (aA 1)=x.take 1:=sy x 1 h
def xa:Sp:=λvs H Q _=>∃(st rl bl:Addr) (e:Sd) (is bs:List Int),vs=[.ref st,.ref rl,.ref bl]∧vx H st e∧xn e∧H rl=aA (.lst `a8)∧H bl=aA (.lst (bs.map V.int))∧bs.length=(bo e.1.2).length∧is.length≤1000∧e.2.ns.length≤1000∧e.2.vs.length≤1000∧(∀x∈e.1.2,x.length≤100)∧(∀x∈e.1.2,1≤x.length)∧∀(l:Addr) (as:List Addr) (H':Hp),ah H H'→H l=none→H' l=aA `f→bc H' as (jv e is bs)→Q `D H'
theorem Uc {st rl bl:Addr} {e:Sd} {is bs:List Int} {H:Hp} {Q:VK} {E:XK} (p0:vx H st e) (p1:xn e) (p2:H rl=aA (.lst `a8)) (p3:H bl=aA (.lst (bs.map V.int))) (p4:bs.length=(bo e.1.2).length) (p5:is.length≤1000) (p6:e.2.ns.length≤1000) (p7:e.2.vs.length≤1000) (p8:∀x∈e.1.2,x.length≤100) (p9:∀x∈e.1.2,1≤x.length) (pa:∀(l:Addr) (as:List Addr) (H':Hp),ah H H'→H l=none→H' l=aA `f→bc H' as (jv e is bs)→Q `D H'):xa [.ref st,.ref rl,.ref bl] H Q E:=⟨st,rl,bl,e,is,bs,rfl,p0,p1,p2,p3,p4,p5,p6,p7,p8,p9,pa⟩
structure EsOk (e:Sd):Prop where
 dy:xn e
 ns:e.2.ns.length≤1000
 vs:e.2.vs.length≤1000
 fl:∀x∈e.1.2,x.length≤100
 ne:∀x∈e.1.2,1≤x.length
noncomputable def resP (es:List Sd) (os ar:List Nat) (p:Nat):List Int:=(bb ar p).map λq=>((baseOf (nbE es) os 0 q:Nat):Int)
noncomputable def bxP (es:List Sd) (os:List Nat) (p:Nat):List Int:=(acd (baseOf (nbE es) os 0 p) (nbE es p)).map λq=>((q:Nat):Int)
noncomputable def mv (es:List Sd) (os ar:List Nat) (p:Nat):List `z:=match es[p]? with
 | some e=>jv e (resP es os ar p) (bxP es os p)
 | none=>[]
def wj:Sp:=λvs H Q _=>∃(sl hl ol d:Addr) (as rs:List Addr) (es:List Sd) (os ar:List Nat) (no:Addr→Prop),vs=[.ref sl,.ref hl,.ref ol,.ref d]∧H sl=aA `f∧mh H as es∧H hl=aA `a2∧dm H rs (bb ar)∧rs.length=es.length∧H ol=aA (.lst (os.map plV))∧ly H no d es os∧(∀o∈os,o < es.length)∧(∀e∈es,EsOk e)∧(∀o∈os,(bb ar o).length≤1000∧∀q∈bb ar o,q∈os∧1≤nbE es q)∧os.length≤1000∧∀(l:Addr) (bs:List Addr) (H':Hp),ah H H'→H l=none→H' l=aA `aL→bc H' bs (os.flatMap (mv es os ar))→Q `D H'
theorem Tj {sl hl ol d:Addr} {as rs:List Addr} {es:List Sd} {os ar:List Nat} {no:Addr→Prop} {H:Hp} {Q:VK} {E:XK} (p0:H sl=aA `f) (p1:mh H as es) (p2:H hl=aA `a2) (p3:dm H rs (bb ar)) (p4:rs.length=es.length) (p5:H ol=aA (.lst (os.map plV))) (p6:ly H no d es os) (p7:∀o∈os,o < es.length) (p8:∀e∈es,EsOk e) (p9:∀o∈os,(bb ar o).length≤1000∧∀q∈bb ar o,q∈os∧1≤nbE es q) (pa:os.length≤1000) (pb:∀(l:Addr) (bs:List Addr) (H':Hp),ah H H'→H l=none→H' l=aA `aL→bc H' bs (os.flatMap (mv es os ar))→Q `D H'):wj [.ref sl,.ref hl,.ref ol,.ref d] H Q E:=⟨sl,hl,ol,d,as,rs,es,os,ar,no,rfl,p0,p1,p2,p3,p4,p5,p6,p7,p8,p9,pa,pb⟩
theorem Av {es:List Sd} (h:∀e∈es,EsOk e) (os ar:List Nat):∀xs:List Nat,(xs.flatMap (mv es os ar)).length≤100*xs.length
 | []=>aa3 _
 | x::xs=>by
  have ih:=Av h os ar xs;rw[aby,aa2,aa8];have:(mv es os ar x).length≤100:=by
   unfold mv;cases e:es[x]? with
   | none=>exact aag _
   | some a=>
    show (jv a _ _).length≤100
    unfold jv;rw[aa0];exact (h a (aai e)).dy.2
  omega
theorem Bu {ar:List Nat} {f:Nat→List Nat}:∀(k p t:Nat),eat k `X=aA t→(∀x s,eat 1 (ar.drop x)=aA s→s≤t→p≤x→x+s≤p+t→(∀q∈f x,x≤q∧q < x+s)∧(f x).Nodup)→(∀q∈(m7 ar k p).flatMap f,p≤q∧q < p+t)∧((m7 ar k p).flatMap f).Nodup
 | 0,p,t,h,hf=>⟨(λq hq=>nomatch hq),ad3⟩
 | k+1,p,t,h,hf=>by
  obtain ⟨m,hm,h1,h2,hk⟩:=nc h;obtain ⟨a1,a2⟩:=hf p m hm h1 (aa3 _) (by omega);obtain ⟨b1,b2⟩:=Bu k (p+m) (t - m) hk λx s hx hs hp hq=>hf x s hx (by omega) (by omega) (by omega);rw[jk hm,aby];refine ⟨λq hq=>?_,List.nodup_append.mpr ⟨a2,b2,λx hx y hy=>?_⟩⟩
  ·rcases List.mem_append.mp hq with z | z
   ·have:=a1 q z;omega
   ·have:=b1 q z;omega
  ·have:=a1 x hx;have:=b1 y hy;omega
theorem ve {ar:List Nat}:∀(n p s:Nat),eat 1 `X=aA s→s≤n→(∀q∈gq ar n p,p≤q∧q < p+s)∧(gq ar n p).Nodup
 | 0,p,s,h,hs=>by have:=cu h;omega
 | n+1,p,s,h,hs=>by
  obtain ⟨hp,hb,m,hm,e⟩:=fz h;have k:=Bu _ (p+1) m hm (f:=gq ar n) λx t hx ht _ _=>ve n x t hx (by omega);show (∀q∈(bb ar p).flatMap (gq ar n)++[p],p≤q∧q < p+s)∧((bb ar p).flatMap (gq ar n)++[p]).Nodup
  rw[hb];refine ⟨λq hq=>?_,List.nodup_append.mpr ⟨k.2,by simp,λx hx y hy=>?_⟩⟩
  ·rcases List.mem_append.mp hq with z | z
   ·have:=k.1 q z;omega
   ·rw[List.mem_singleton.mp z];omega
  ·have:=k.1 x hx;rw[List.mem_singleton.mp hy];omega
theorem Bc {ar:List Nat} {n p:Nat}:p∈gq ar (n+1) p:=aao _ aa6
theorem zq {ar:List Nat}:∀(n p s:Nat),eat 1 `X=aA s→s≤n→∀o∈gq ar n p,(∃t,eat 1 (ar.drop o)=aA t)∧∀q∈bb ar o,q∈gq ar n p
 | 0,p,s,h,hs=>by have:=cu h;omega
 | n+1,p,s,h,hs=>λo ho=>by
  have ho:o∈(bb ar p).flatMap (gq ar n)++[p]:=ho;rcases List.mem_append.mp ho with z | z
  ·obtain ⟨k,hk,hok⟩:=List.mem_flatMap.mp z;obtain ⟨t,ht,h1,h2⟩:=iw h k hk;obtain ⟨g1,g2⟩:=zq n k t ht (by omega) o hok;exact ⟨g1,λq hq=>abe _ (List.mem_flatMap.mpr ⟨k,hk,g2 q hq⟩)⟩
  ·obtain rfl:=List.mem_singleton.mp z;refine ⟨⟨s,h⟩,λq hq=>abe _ (List.mem_flatMap.mpr ⟨q,hq,?_⟩)⟩;obtain ⟨t,ht,h1,h2⟩:=iw h q hq;have:=cu ht;obtain ⟨n',rfl⟩:∃n',n=n'+1:=⟨n - 1,by omega⟩;exact Bc
theorem Sg {ar:List Nat} (h:pend 1 ar=aA 0):(post ar 0).Nodup∧(post ar 0).length=ar.length∧(∀o∈post ar 0,o < ar.length)∧(∀o∈post ar 0,∀q∈bb ar o,q∈post ar 0)∧0∈post ar 0:=by
 have e0:eat 1 (ar.drop 0)=aA ar.length:=by rw[acq];exact g8 _ _ h
 have t:=ve ar.length 0 ar.length e0 (aa3 _);have b:=zq ar.length 0 ar.length e0 (aa3 _);refine ⟨t.2,j5 e0,λo ho=>by have:=t.1 o ho;omega,λo ho=>(b o ho).2,?_⟩;have hp:=(fz e0).1;unfold post;obtain ⟨n,hn⟩:∃n,ar.length=n+1:=⟨ar.length - 1,by omega⟩;rw[hn];exact Bc
theorem Iq {ar:List Nat} (p:Nat):(bb ar p).length≤ar.length:=by
 unfold bb;rw[aau];have:=Ba (ar.drop (p+1)) (p+1);rw[aav] at this;omega
theorem qg {kinds:List Str} {rs:List Rl} {ws:List V} (bk:Bk kinds rs):∀{ns:List Str} {st:List Ky} {ds:List (Rl×Und)},cf kinds rs ws ns st=aA ds→pend st.length (ff ds)=aA 0
 | [],[],ds,h=>by
  have h:aA []=aA ds:=h;cases h
  rfl
 | [],_::_,ds,h=>by cases h
 | _::_,[],ds,h=>by cases h
 | nm::r,k::st,ds,h=>by
  cases e:du kinds rs ws nm k.2 k.1 with
  | none=>rw[g9 e] at h;cases h
  | some d=>
   rw[gs e] at h;obtain ⟨ds',h',rfl⟩:=Option.map_eq_some_iff.mp h;have ih:=qg bk h';rw[aa2] at ih;have el:(Ae kinds d).length=d.2.hs.length:=by
    obtain ⟨a1,a2⟩:=oa (r:=d.1) (u:=d.2) e;unfold Ae;rw[abr];obtain ⟨a3,a4,a5⟩:=a2;have:=(uo bk.kd d.1.shape k.1 _ d.2 (bk.sh d.1 a1).1 a5).1;have z:(⟨[],[],[]⟩:Und).hs.length=0:=rfl;omega
   show pend (st.length+d.2.hs.length) (ff ds')=aA 0
   rw[←el,adx];exact ih
theorem Fq {kinds:List Str} {ws:List V}:∀(sh:List V) (p:Nat) (u u':Und),bq kinds ws sh p u=aA u'→u'.ns.length≤u.ns.length+sh.length∧u'.vs.length≤u.vs.length+sh.length
 | [],p,u,u',h=>by
  have h:aA u=aA u':=h;cases h
  exact ⟨aaz _ _,aaz _ _⟩
 | v::sh,p,u,u',h=>by
  rw[dr] at h;by_cases c:lies `y v `aW=true
  ·rw[if_pos c] at h;have ih:=Fq sh _ _ _ h;have e:(u.put `y p `aW).ns.length≤u.ns.length+1∧(u.put `y p `aW).vs.length≤u.vs.length+1:=by
    unfold Und.put;split
    ·exact ⟨ab7 _,ab7 _⟩
    ·split
     ·exact ⟨by rw[aa2];exact aa3 _,ab7 _⟩
     ·split
      ·exact ⟨ab7 _,by rw[aa2];exact aa3 _⟩
      ·exact ⟨ab7 _,ab7 _⟩
   rw[aa8];omega
  ·rw[if_neg c] at h;cases h
theorem Bg {kinds:List Str} {rs:List Rl} {ws:List V} (bk:Bk kinds rs):∀{ns:List Str} {st:List Ky} {ds:List (Rl×Und)},cf kinds rs ws ns st=aA ds→∀d∈ds,d.2.ns.length≤100∧d.2.vs.length≤100
 | [],[],ds,h=>by
  have h:aA []=aA ds:=h;cases h
  exact λd hd=>nomatch hd
 | [],_::_,ds,h=>by cases h
 | _::_,[],ds,h=>by cases h
 | nm::r,k::st,ds,h=>by
  cases e:du kinds rs ws nm k.2 k.1 with
  | none=>rw[g9 e] at h;cases h
  | some d=>
   rw[gs e] at h;obtain ⟨ds',h',rfl⟩:=Option.map_eq_some_iff.mp h;intro x hx;rcases List.mem_cons.mp hx with rfl | hx
   ·obtain ⟨a1,a3,a4,a5⟩:=oa (r:=x.1) (u:=x.2) e;have h1:=Fq _ _ _ _ a5;have h2:=(bk.sh x.1 a1).2.2;have z1:(⟨[],[],[]⟩:Und).ns.length=0:=rfl;have z2:(⟨[],[],[]⟩:Und).vs.length=0:=rfl;omega
   ·exact Bg bk h' x hx
structure Dk (x:Rd):Prop where
 w:∀d∈x.2,(∀v∈d,isW v)∧1≤d.length∧d.length≤100
 n:x.2.length≤100
 out:sq "out" x.2=true
theorem Dk.nb {es:List Sd} (h:∀e∈es,Dk e.1) {p:Nat} (hp:p < es.length):1≤nbE es p:=by
 unfold nbE;rw[aa1 hp];have:=(h _ (aaf hp)).out;show 1≤(bo es[p].1.2).length
 unfold bo lu;rw[ab2,if_pos this,aa8];omega
noncomputable def uq (es:List Sd) (ar:List Nat):List `z:=(post ar 0).flatMap (mv es (post ar 0) ar)
noncomputable def Hq (es:List Sd) (ar:List Nat):Nat:=baseOf (nbE es) (post ar 0) 0 0
def sd (κ:Cl):Sp:=λvs H Q E=>∃(b wt ct:Addr) (kinds:List Str) (rd:List Rd) (ws:List V) (kd:Str) (ns:List Str),vs=[.ref b,.ref wt,.str kd,.ref ct]∧dj H b kinds rd∧H wt=aA `ba∧H ct=aA (.tup (ns.map V.str))∧Bk kinds (rd.map (·.1))∧Tw ws∧0 < ws.length∧jj kd∧(∀z∈kinds,jj z)∧(∀z∈ns,jj z)∧ns.length≤1000∧(∀x∈rd,Dk x)∧(∀ds,cf kinds (rd.map (·.1)) ws ns [(0,kd)]=aA ds→∀(es:List Sd) (t l:Addr) (bs:List Addr) (H':Hp),es.map (λe=>(e.1.1,e.2))=ds→(∀e∈es,e.1∈rd)→ah H H'→H t=none→H' t=aA (.tup [.ref l,.int (Hq es (ff ds):Nat)])→H l=none→H' l=aA `aL→bc H' bs (uq es (ff ds))→Q `N H')∧(cf kinds (rd.map (·.1)) ws ns [(0,kd)]=none→∀H',ah H H'→E (.ref κ.badCover) none H')
theorem Fx {κ:Cl} {b wt ct:Addr} {kinds:List Str} {rd:List Rd} {ws:List V} {kd:Str} {ns:List Str} {H:Hp} {Q:VK} {E:XK} (p0:dj H b kinds rd) (p1:H wt=aA `ba) (p2:H ct=aA (.tup (ns.map V.str))) (p3:Bk kinds (rd.map (·.1))) (p4:Tw ws) (p5:0 < ws.length) (p6:jj kd) (p7:∀z∈kinds,jj z) (p8:∀z∈ns,jj z) (p9:ns.length≤1000) (pc:∀x∈rd,Dk x) (pa:∀ds,cf kinds (rd.map (·.1)) ws ns [(0,kd)]=aA ds→∀(es:List Sd) (t l:Addr) (bs:List Addr) (H':Hp),es.map (λe=>(e.1.1,e.2))=ds→(∀e∈es,e.1∈rd)→ah H H'→H t=none→H' t=aA (.tup [.ref l,.int (Hq es (ff ds):Nat)])→H l=none→H' l=aA `aL→bc H' bs (uq es (ff ds))→Q `N H') (pb:cf kinds (rd.map (·.1)) ws ns [(0,kd)]=none→∀H',ah H H'→E (.ref κ.badCover) none H'):sd κ [.ref b,.ref wt,.str kd,.ref ct] H Q E:=⟨b,wt,ct,kinds,rd,ws,kd,ns,rfl,p0,p1,p2,p3,p4,p5,p6,p7,p8,p9,pc,pa,pb⟩
noncomputable def tS:List Str:=["t1","t2","t3"]
noncomputable def x6 (b:Str) (dd:List `z):Bool:=dd.any λx=>inV (.str b) (x.drop 1)
noncomputable def i7 (dd:List `z):List Str:=aB "out"::tS.filter λb=>x6 b dd
theorem any_filter {α:Type} {P:α→Bool}:∀{l:List α},(0 < (l.filter P).length)↔l.any P=true
 | []=>by simp
 | a::l=>by
  rw[ab2,acs];cases h:P a with
  | true=>simp
  | false=>simp only[abi,if_false,ae7];exact any_filter
def oj:Sp:=λvs H Q _=>∃(ra:Addr) (r:Rd),vs=[.ref ra]∧gp H ra r∧Dk r∧∀(l:Addr) (H':Hp),ah H H'→H l=none→H' l=aA (.lst ((i7 r.2).map V.str))→Q `D H'
theorem Vf {ra:Addr} {r:Rd} {H:Hp} {Q:VK} {E:XK} (p0:gp H ra r) (p1:Dk r) (p2:∀(l:Addr) (H':Hp),ah H H'→H l=none→H' l=aA (.lst ((i7 r.2).map V.str))→Q `D H'):oj [.ref ra] H Q E:=⟨ra,r,rfl,p0,p1,p2⟩
inductive Thing (m:Str→Option V) (u:Und):V→V→Prop
 | int (i:Int):Thing m u (.int i) (.int i)
 | box {z:Str} {v:V} (h:m z=aA v):Thing m u `Q v
 | num {j:Nat} {v:V} (hj:j < 5) (hm:m (cb (chS 110) (j+1))=none) (h:u.ns[j]?=aA v):Thing m u (.str (cb (chS 110) (j+1))) v
 | name {j:Nat} {v:V} (hj:j < 5) (hm:m (cb (chS 118) (j+1))=none) (h:u.vs[j]?=aA v):Thing m u (.str (cb (chS 118) (j+1))) v
def oh:Sp:=λvs H Q _=>∃(d t:Addr) (m:Str→Option V) (n:Nat) (u:Und) (w v:V),vs=[w,.ref d,.ref t]∧DM H d m n∧i6 H t u∧Thing m u w v∧∀H',ah H H'→Q v H'
theorem Ry {d t:Addr} {m:Str→Option V} {n:Nat} {u:Und} {w v:V} {H:Hp} {Q:VK} {E:XK} (p0:DM H d m n) (p1:i6 H t u) (p2:Thing m u w v) (p3:∀H',ah H H'→Q v H'):oh [w,.ref d,.ref t] H Q E:=⟨d,t,m,n,u,w,v,rfl,p0,p1,p2,p3⟩
theorem Bi (c:Nat) (hc:c=110∨c=118) (j:Nat) (hj:j < 5):atI (cb (chS c) (j+1)).cps.toList 0=aA c∧intText? (Im (cb (chS c) (j+1)) (aA 1) none)=aA ((j+1:Nat):Int)∧(cb (chS c) (j+1)).length≤100∧(Im (cb (chS c) (j+1)) (aA 1) none).length≤640:=by
 rcases hc with rfl | rfl <;> rcases (show j=0∨j=1∨j=2∨j=3∨j=4 by omega) with rfl | rfl | rfl | rfl | rfl <;> decide+kernel
def wg:Sp:=λvs H Q _=>∃(f l rl:Addr) (bs cs:List Addr) (R:List `z) (x:Int),vs=[.ref f,.ref rl,.int x]∧H f=aA (.tup [.ref l,.int x])∧H l=aA `aL∧bc H bs R∧H rl=aA (.lst (cs.map V.ref))∧bc H cs R∧(∀r∈R,∀v∈r,isW v)∧(∀r∈R,r.length≤1000)∧R.length≤200000∧∀H',ah H H'→Q (.bl true) H'
theorem Jo {f l rl:Addr} {bs cs:List Addr} {R:List `z} {x:Int} {H:Hp} {Q:VK} {E:XK} (p0:H f=aA (.tup [.ref l,.int x])) (p1:H l=aA `aL) (p2:bc H bs R) (p3:H rl=aA (.lst (cs.map V.ref))) (p4:bc H cs R) (p5:∀r∈R,∀v∈r,isW v) (p6:∀r∈R,r.length≤1000) (p7:R.length≤200000) (p8:∀H',ah H H'→Q (.bl true) H'):wg [.ref f,.ref rl,.int x] H Q E:=⟨f,l,rl,bs,cs,R,x,rfl,p0,p1,p2,p3,p4,p5,p6,p7,p8⟩
theorem Cvd.cover {kinds:List Str} {rd:List Rd} {ws:List V} (bk:Bk kinds (rd.map (·.1))) {st:List Ky} {cs:List Rd} (h:Cvd kinds rd ws st cs):∃us:List Und,us.length=cs.length∧cf kinds (rd.map (·.1)) ws (cs.map λr=>r.1.name) st=aA ((cs.map (·.1)).zip us):=by
 induction h with
 | nil=>exact ⟨[],rfl,rfl⟩
 | @cons k st r u cs hr hk hu h ih=>
  obtain ⟨us,e1,e2⟩:=ih;obtain ⟨i,hi⟩:=abm hr;have hi':(rd.map (·.1))[i]?=aA r.1:=by rw[aa4,hi];rfl
  have hit:du kinds (rd.map (·.1)) ws r.1.name k.2 k.1=aA (r.1,u):=by
   rw[←hk,En bk hi',hu];rfl
  refine ⟨u::us,by rw[aa8,aa8,e1],?_⟩;show cf kinds (rd.map (·.1)) ws (r.1.name::cs.map λr=>r.1.name) (k::st)=_
  rw[gs hit];show (cf kinds (rd.map (·.1)) ws (cs.map λr=>r.1.name) (u.hs.zip `v++st)).map ((r.1,u)::·)=_
  rw[e2];rfl
def okD (d:List V):Prop:=(∀v∈d,isW v)∧1≤d.length∧d.length≤100
theorem Kc (z:Str):isW `Q:=⟨aP z,rfl⟩
theorem Fh (i:Int):isW (.int i):=⟨cK i,rfl⟩
theorem fe {d:List V} (h:d.all (λv=>match v with | .str _=>true | .int _=>true | _=>false)=true) (h1:1≤d.length) (h2:d.length≤100):okD d:=by
 refine ⟨λv hv=>?_,h1,h2⟩;have:=List.all_eq_true.mp h v hv;cases v with
 | str z=>exact Kc z
 | int i=>exact Fh i
 | _=>cases this
theorem Lv.okd (l:Lv) (k:Cnt) (bx:Str):(∀d∈l.ia k bx,okD d)∧(l.ia k bx).length≤1:=by
 cases l with
 | h=>exact ⟨(λd hd=>nomatch hd),aag _⟩
 | n=>exact ⟨λd hd=>by rw[List.mem_singleton.mp hd];exact fe rfl `b `b,aa3 _⟩
 | v=>exact ⟨λd hd=>by rw[List.mem_singleton.mp hd];exact fe rfl `b `b,aa3 _⟩
 | c=>exact ⟨λd hd=>by rw[List.mem_singleton.mp hd];exact fe rfl `b `b,aa3 _⟩
theorem fk {a b:List `z} (h:∀d∈a,okD d) (g:∀d∈b,okD d):∀d∈a++b,okD d:=λd hd=>by
 rcases List.mem_append.mp hd with z | z
 ·exact h d z
 ·exact g d z
theorem jx {b:Str} {dd:List `z} {x:List V} (h:x∈dd) (e:inV (.str b) x=true):sq b dd=true:=List.any_eq_true.mpr ⟨x,h,e⟩
theorem B2 (a b:V) (z:Str) (r:List V) (h:b=.str z):inV `Q (a::b::r)=true:=by
 subst h;exact List.any_eq_true.mpr ⟨_,aab _ aa6,by simp[eqV]⟩
theorem Mk.ok {kinds:List Str} {sh:List V} {dd:List `z} (h:Mk kinds sh dd):(∀d∈dd,okD d)∧dd.length≤100∧sq `k dd=true:=by
 cases h with
 | any=>exact ⟨λd hd=>by rw[List.mem_singleton.mp hd];exact fe rfl `b `b,by decide,by decide+kernel⟩
 | var=>exact ⟨λd hd=>by rw[List.mem_singleton.mp hd];exact fe rfl `b `b,by decide,by decide+kernel⟩
 | neg=>exact ⟨λd hd=>by rw[List.mem_singleton.mp hd];exact fe rfl `b `b,by decide,by decide+kernel⟩
 | two=>exact ⟨λd hd=>by rw[List.mem_singleton.mp hd];exact fe rfl `b `b,by simp,jx aa6 (B2 _ _ _ _ rfl)⟩
 | vzero=>exact ⟨λd hd=>by rw[List.mem_singleton.mp hd];exact fe rfl `b `b,by decide,by decide+kernel⟩
 | four=>
  refine ⟨λd hd=>?_,by decide,by decide+kernel⟩;simp only[aam,aac,or_false] at hd;rcases hd with rfl | rfl | rfl <;> exact fe rfl `b `b
 | zero=>
  refine ⟨λd hd=>?_,by decide,by decide+kernel⟩;simp only[aam,aac,or_false] at hd;rcases hd with rfl | rfl <;> exact fe rfl `b `b
 | twice=>
  refine ⟨λd hd=>?_,by decide,by decide+kernel⟩;simp only[aam,aac,or_false] at hd;rcases hd with rfl | rfl | rfl | rfl <;> exact fe rfl `b `b
 | way=>
  refine ⟨λd hd=>?_,by show (3:Nat)≤100;decide,jx (aab _ aa6) (B2 _ _ _ _ rfl)⟩;simp only[aam,aac,or_false] at hd;rcases hd with rfl | rfl | rfl <;> exact fe rfl `b `b
 | s1 h=>
  rename_i l
  have a:=l.okd c0 "t1";refine ⟨fk a.1 λd hd=>by rw[List.mem_singleton.mp hd];exact fe rfl `b `b,by rw[aa2,aa5];omega,jx (aao _ aa6) (B2 _ _ _ _ rfl)⟩
 | s2=>
  rename_i w l m _ _ _
  have a:=l.okd c0 "t1";have b:=m.okd (l.next c0) "t2";refine ⟨fk (fk a.1 b.1) λd hd=>by rw[List.mem_singleton.mp hd];exact fe rfl `b `b,by rw[aa2,aa2,aa5];omega,jx (aao _ aa6) (B2 _ _ _ _ rfl)⟩
 | s3=>
  rename_i w o l m r _ _ _ _ _
  have a:=l.okd c0 "t1";have b:=m.okd (l.next c0) "t2";have c:=r.okd (m.next (l.next c0)) "t3";exact ⟨fk (fk (fk (fk b.1 c.1) (λd hd=>by rw[List.mem_singleton.mp hd];exact fe rfl `b `b)) a.1) (λd hd=>by rw[List.mem_singleton.mp hd];exact fe rfl `b `b),by rw[aa2,aa2,aa2,aa2,aa5,aa5];omega,jx (aao _ aa6) (B2 _ _ _ _ rfl)⟩
 | s4=>
  rename_i w o l m r _ _ _ _ _
  have a:=l.okd c0 "t1";have b:=m.okd (l.next c0) "t2";have c:=r.okd (m.next (l.next c0)) "t3";exact ⟨fk (fk (fk (fk a.1 b.1) (λd hd=>by rw[List.mem_singleton.mp hd];exact fe rfl `b `b)) c.1) (λd hd=>by rw[List.mem_singleton.mp hd];exact fe rfl `b `b),by rw[aa2,aa2,aa2,aa2,aa5,aa5];omega,jx (aao _ aa6) (B2 _ _ _ _ rfl)⟩
theorem Mk.rd {kinds:List Str} {r:Rd} (h:Mk kinds r.1.shape r.2):Dk r:=⟨λd hd=>h.ok.1 d hd,h.ok.2.1,h.ok.2.2⟩
def Et (x:List V):Prop:=∃(h:Str) (t:List V),x=.str h::t∧∀b∈tS,h≠b
theorem je (h:Str) (t:List V) (hh:∀b∈tS,h≠b):Et (.str h::t):=⟨h,t,rfl,hh⟩
theorem vf {w:Str} (h:w∈r6):∀b∈tS,w≠b:=by
 simp only[r6,aam,aac,or_false] at h;rcases h with rfl | rfl | rfl <;> decide+kernel
theorem O7 (b:Str) (v:V) (t:List V):inV (.str b) (v::t)=(eqV v (.str b)||inV (.str b) t):=rfl
theorem Qc {b:Str} (hb:b∈tS):∀{dd:List `z},(∀x∈dd,Et x)→sq b dd=x6 b dd
 | [],_=>rfl
 | x::dd,h=>by
  obtain ⟨z,t,rfl,hz⟩:=h x aa6;have ih:=Qc hb (dd:=dd) λy hy=>h y (aab _ hy);have e:eqV `Q (.str b)=false:=by
   have:=hz b hb;simp[eqV,this]
  show (inV (.str b) (.str z::t)||sq b dd)=(inV (.str b) t||x6 b dd)
  rw[O7,e,ih,ae7]
theorem Lv.hd (l:Lv) (k:Cnt) (bx:Str):∀d∈l.ia k bx,Et d:=by
 cases l with
 | h=>exact λd hd=>nomatch hd
 | n=>exact λd hd=>by rw[List.mem_singleton.mp hd];exact je _ _ `c
 | v=>exact λd hd=>by rw[List.mem_singleton.mp hd];exact je _ _ `c
 | c=>exact λd hd=>by rw[List.mem_singleton.mp hd];exact je _ _ `c
theorem gj {a b:List `z} (h:∀d∈a,Et d) (g:∀d∈b,Et d):∀d∈a++b,Et d:=λd hd=>by
 rcases List.mem_append.mp hd with z | z
 ·exact h d z
 ·exact g d z
theorem gh {h:Str} {t:List V} (hh:∀b∈tS,h≠b):∀d∈[V.str h::t],Et d:=λd hd=>by rw[List.mem_singleton.mp hd];exact je _ _ hh
theorem Mk.hds {kinds:List Str} {sh:List V} {dd:List `z} (h:Mk kinds sh dd):∀d∈dd,Et d:=by
 cases h with
 | any=>exact gh `c
 | var=>exact gh `c
 | neg=>exact gh `c
 | two hw=>exact gh (vf hw)
 | vzero=>exact gh `c
 | four=>
  intro d hd;simp only[aam,aac,or_false] at hd;rcases hd with rfl | rfl | rfl <;> exact je _ _ `c
 | zero=>
  intro d hd;simp only[aam,aac,or_false] at hd;rcases hd with rfl | rfl <;> exact je _ _ `c
 | twice=>
  intro d hd;simp only[aam,aac,or_false] at hd;rcases hd with rfl | rfl | rfl | rfl <;> exact je _ _ `c
 | way=>
  intro d hd;simp only[aam,aac,or_false] at hd;rcases hd with rfl | rfl | rfl <;> exact je _ _ `c
 | s1 h=>exact gj (Lv.hd _ _ _) (gh `c)
 | s2 hw=>exact gj (gj (Lv.hd _ _ _) (Lv.hd _ _ _)) (gh (vf hw))
 | s3 hw ho=>exact gj (gj (gj (gj (Lv.hd _ _ _) (Lv.hd _ _ _)) (gh (vf ho))) (Lv.hd _ _ _)) (gh (vf hw))
 | s4 hw ho=>exact gj (gj (gj (gj (Lv.hd _ _ _) (Lv.hd _ _ _)) (gh (vf ho))) (Lv.hd _ _ _)) (gh (vf hw))
theorem Mk.used {kinds:List Str} {sh:List V} {dd:List `z} (h:Mk kinds sh dd):bo dd=i7 dd:=by
 show lu.filter (λb=>sq b dd)=aB "out"::tS.filter λb=>x6 b dd
 show (aB "out"::tS).filter (λb=>sq b dd)=_
 rw[ab2,if_pos h.ok.2.2];congr 1
 exact List.filter_congr λb hb=>Qc hb h.hds
theorem empty_app (z:Str):gD++z=z:=by
 show (⟨#[]++z.cps⟩:Str)=z
 simp
theorem r9 (c n:Nat):cb (chS c) n=lab (chS c) n:=by
 unfold cb lab;rw[empty_app];rfl
theorem eo {c z:Str}:∀{xs:List V} {j:Nat} {m:Str→Option V},(∀i,i < xs.length→z≠cb c (j+i+1))→putL c xs j m z=m z
 | [],j,m,_=>rfl
 | x::xs,j,m,h=>by
  show putL c xs (j+1) (gv m (cb c (j+1)) x) z=m z
  rw[eo λi hi=>by rw[show j+1+i+1=j+(i+1)+1 by omega];exact h (i+1) (by rw[aa8];omega)];unfold gv;rw[if_neg (h 0 (by rw[aa8];omega))]
theorem tj {c:Str}:∀{xs:List V} {j i:Nat} {v:V} {m:Str→Option V},xs[i]?=aA v→(∀k,i < k→k < xs.length→cb c (j+i+1)≠cb c (j+k+1))→putL c xs j m (cb c (j+i+1))=aA v
 | [],j,i,v,m,h,_=>by simp at h
 | x::xs,j,0,v,m,h,hd=>by
  cases h
  show putL c xs (j+1) (gv m (cb c (j+1)) x) (cb c (j+1))=aA x
  rw[eo λi hi=>by rw[show j+1+i+1=j+(i+1)+1 by omega];exact hd (i+1) (by omega) (by rw[aa8];omega)];unfold gv;rw[if_pos rfl]
 | x::xs,j,i+1,v,m,h,hd=>by
  show putL c xs (j+1) _ (cb c (j+(i+1)+1))=aA v
  have:=tj (c:=c) (xs:=xs) (j:=j+1) (i:=i) (v:=v) (m:=gv m (cb c (j+1)) x) h λk hk hl=>by
   rw[show j+1+i+1=j+(i+1)+1 by omega,show j+1+k+1=j+(k+1)+1 by omega];exact hd (k+1) (by omega) (by rw[aa8];omega)
  rw[show j+1+i+1=j+(i+1)+1 by omega] at this;exact this
noncomputable def Ga (u:Und):Cnt:=⟨u.hs.length,u.ns.length,u.vs.length⟩
noncomputable def cW (kinds:List Str) (k:Cnt) (v:V):Cnt:=if bh kinds v=lH then ⟨k.h+1,k.n,k.v⟩ else if bh kinds v=lN then ⟨k.h,k.n+1,k.v⟩ else if bh kinds v=lV then ⟨k.h,k.n,k.v+1⟩ else k
theorem Ef {kinds:List Str} {ws:List V}:∀(sh:List V) (p:Nat) (u u':Und),bq kinds ws sh p u=aA u'→Ga u'=sh.foldl (cW kinds) (Ga u)
 | [],p,u,u',h=>by
  have h:aA u=aA u':=h;cases h
  rfl
 | v::sh,p,u,u',h=>by
  rw[dr] at h;by_cases c:lies `y v `aW=true
  ·rw[if_pos c] at h;rw[Ef sh _ _ _ h,aas];congr 1
   unfold Und.put cW;split
   ·simp[Ga]
   ·split
    ·simp[Ga]
    ·split
     ·simp[Ga]
     ·rfl
  ·rw[if_neg c] at h;cases h
theorem P7 {kinds:List Str} (hk:Kinds kinds) {k:Str} (h:k∈kinds):bh kinds (.str k)=lH:=by
 rcases df (kinds:=kinds) (Kc k) with ⟨e,_⟩ | ⟨e,_⟩ | ⟨_,e⟩ | ⟨_,e⟩
 ·exact absurd e (hk k h).2.1
 ·exact absurd e (hk k h).2.2
 ·exact e
 ·have:inV (.str k) `h=true:=List.any_eq_true.mpr ⟨.str k,ac2 h,by simp[eqV]⟩;rw[this] at e;cases e
theorem let_op {kinds:List Str} (hk:Kinds kinds) {z:Str} (h:0 < arV `Q):bh kinds `Q=lO:=by
 rcases df (kinds:=kinds) (Kc z) with ⟨e,_⟩ | ⟨e,_⟩ | ⟨⟨y,hy,e⟩,_⟩ | ⟨e,_⟩
 ·rw[e,xv] at h;cases h
 ·rw[e,ur] at h;cases h
 ·have:=(hk y hy).1;cases e
  have:arV `Q=0:=this;omega
 ·exact e
theorem Ub {kinds:List Str} (x:Int):bh kinds (.int x)=lO:=by
 rcases df (kinds:=kinds) (Fh x) with ⟨e,_⟩ | ⟨e,_⟩ | ⟨⟨y,hy,e⟩,_⟩ | ⟨e,_⟩
 ·cases e
 ·cases e
 ·cases e
 ·exact e
theorem Sb {kinds:List Str}:bh kinds gz=lN:=by unfold bh;rw[if_pos rfl]
theorem Sn {kinds:List Str}:bh kinds gf=lV:=by unfold bh;rw[if_neg `c,if_pos rfl]
theorem cg {kinds:List Str} (hk:Kinds kinds) {k:Str} (h:k∈kinds) (c:Cnt):cW kinds c (.str k)=⟨c.h+1,c.n,c.v⟩:=by unfold cW;rw[P7 hk h,if_pos rfl]
theorem cW_O {kinds:List Str} {v:V} (h:bh kinds v=lO) (c:Cnt):cW kinds c v=c:=by unfold cW;rw[h,if_neg lets.2.2.1,if_neg lets.2.2.2.2.1,if_neg lets.2.2.2.2.2]
theorem ni {kinds:List Str} (hk:Kinds kinds) {z:Str} (h:0 < arV `Q) (c:Cnt):cW kinds c `Q=c:=cW_O (let_op hk h) c
theorem ic {kinds:List Str} (hk:Kinds kinds) {w:Str} (h:w∈r6) (c:Cnt):cW kinds c (.str w)=c:=ni hk (by rw[rf h];decide) c
theorem xq {kinds:List Str} (x:Int) (c:Cnt):cW kinds c (.int x)=c:=cW_O (Ub x) c
theorem Hg {kinds:List Str} (c:Cnt):cW kinds c gz=⟨c.h,c.n+1,c.v⟩:=by unfold cW;rw[Sb,if_neg lets.1,if_pos rfl]
theorem Di {kinds:List Str} (c:Cnt):cW kinds c gf=⟨c.h,c.n,c.v+1⟩:=by unfold cW;rw[Sn,if_neg lets.2.1,if_neg lets.2.2.2.1,if_pos rfl]
theorem cy {kinds:List Str} (hk:Kinds kinds) {l:Lv} (h:l.ok kinds) (c:Cnt):cW kinds c l.word=l.next c:=by
 cases l with
 | h k=>exact cg hk h c
 | n=>exact Hg c
 | v=>exact Di c
 | c x=>exact xq x c
inductive Wk (k:Cnt):V→Prop
 | int (i:Int):Wk k (.int i)
 | box {z:Str} (h:z∈lu):Wk k `Q
 | h {j:Nat} (h:j < k.h):Wk k (.str (cb `aR (j+1)))
 | n {j:Nat} (h:j < k.n):Wk k (.str (cb (chS 110) (j+1)))
 | v {j:Nat} (h:j < k.v):Wk k (.str (cb (chS 118) (j+1)))
def Cnt.le (a b:Cnt):Prop:=a.h≤b.h∧a.n≤b.n∧a.v≤b.v
theorem Cnt.le.trans {a b c:Cnt} (h:a.le b) (g:b.le c):a.le c:=⟨ab6 h.1 g.1,ab6 h.2.1 g.2.1,ab6 h.2.2 g.2.2⟩
theorem Lv.uj (l:Lv) (k:Cnt):k.le (l.next k):=by
 cases l <;> simp only[Lv.next,Cnt.le] <;> omega
theorem lab_h (n:Nat):lab "h" n=cb `aR n:=(r9 104 n).symm
theorem lab_n (n:Nat):lab "n" n=cb (chS 110) n:=(r9 110 n).symm
theorem lab_v (n:Nat):lab "v" n=cb (chS 118) n:=(r9 118 n).symm
theorem Lv.wkD (l:Lv) {k f:Cnt} {bx:Str} (hb:bx∈lu) (hf:(l.next k).le f):∀d∈l.ia k bx,∀w∈d.drop 1,Wk f w:=by
 cases l with
 | h z=>exact λd hd=>nomatch hd
 | n=>
  intro d hd w hw;rw[List.mem_singleton.mp hd] at hw;have hw:w∈[V.str bx,V.str (lab "n" (k.n+1))]:=hw;simp only[aam,aac,or_false] at hw;rcases hw with rfl | rfl
  ·exact .box hb
  ·rw[lab_n];exact .n hf.2.1
 | v=>
  intro d hd w hw;rw[List.mem_singleton.mp hd] at hw;have hw:w∈[V.str bx,V.str (lab "v" (k.v+1))]:=hw;simp only[aam,aac,or_false] at hw;rcases hw with rfl | rfl
  ·exact .box hb
  ·rw[lab_v];exact .v hf.2.2
 | c x=>
  intro d hd w hw;rw[List.mem_singleton.mp hd] at hw;have hw:w∈[V.str bx,V.int x]:=hw;simp only[aam,aac,or_false] at hw;rcases hw with rfl | rfl
  ·exact .box hb
  ·exact .int x
theorem Lv.wkL (l:Lv) {k f:Cnt} {bx:Str} (hb:bx∈lu) (hf:(l.next k).le f):Wk f (.str (l.lbl k bx)):=by
 cases l with
 | h z=>show Wk f (.str (lab "h" (k.h+1)));rw[lab_h];exact .h hf.1
 | n=>exact .box hb
 | v=>exact .box hb
 | c x=>exact .box hb
theorem wk1 {f:Cnt} {a:V} (h:Wk f a):∀w∈[a],Wk f w:=λw hw=>by rw[List.mem_singleton.mp hw];exact h
theorem wk2 {f:Cnt} {a b:V} (h:Wk f a) (g:Wk f b):∀w∈[a,b],Wk f w:=λw hw=>by
 rcases List.mem_cons.mp hw with rfl | hw
 ·exact h
 ·exact wk1 g w hw
theorem wk3 {f:Cnt} {a b c:V} (h:Wk f a) (g:Wk f b) (i:Wk f c):∀w∈[a,b,c],Wk f w:=λw hw=>by
 rcases List.mem_cons.mp hw with rfl | hw
 ·exact h
 ·exact wk2 g i w hw
def WkD (f:Cnt) (dd:List `z):Prop:=∀d∈dd,∀w∈d.drop 1,Wk f w
theorem WkD.nil {f:Cnt}:WkD f []:=λd hd=>nomatch hd
theorem WkD.cons {f:Cnt} {x:V} {t:List V} {dd:List `z} (h:∀w∈t,Wk f w) (g:WkD f dd):WkD f ((x::t)::dd):=λd hd=>by
 rcases List.mem_cons.mp hd with rfl | hd
 ·exact h
 ·exact g d hd
theorem WkD.app {f:Cnt} {a b:List `z} (h:WkD f a) (g:WkD f b):WkD f (a++b):=λd hd=>by
 rcases List.mem_append.mp hd with hd | hd
 ·exact h d hd
 ·exact g d hd
theorem j9 {f:Cnt}:Wk f (.str "out"):=.box `c
theorem bT1 {f:Cnt}:Wk f (.str "t1"):=.box `c
theorem bT2 {f:Cnt}:Wk f (.str "t2"):=.box `c
theorem bT3 {f:Cnt}:Wk f (.str "t3"):=.box `c
theorem wH {f:Cnt} {z:Str} (j:Nat) (e:z=cb `aR (j+1)) (h:j < f.h):Wk f `Q:=by rw[e];exact .h h
theorem wN {f:Cnt} {z:Str} (j:Nat) (e:z=cb (chS 110) (j+1)) (h:j < f.n):Wk f `Q:=by rw[e];exact .n h
theorem wV {f:Cnt} {z:Str} (j:Nat) (e:z=cb (chS 118) (j+1)) (h:j < f.v):Wk f `Q:=by rw[e];exact .v h
theorem Mk.wk {kinds:List Str} (hk:Kinds kinds) {sh:List V} {dd:List `z} (h:Mk kinds sh dd):WkD (sh.foldl (cW kinds) c0) dd:=by
 have ng:0 < arV (.str "neg"):=by decide+kernel
 have ad:0 < arV (.str "add"):=by decide+kernel
 have mu:0 < arV (.str "mul"):=by decide+kernel
 have d1:(aB "h1")=cb `aR 1:=by decide+kernel
 have d2:(aB "h2")=cb `aR 2:=by decide+kernel
 have d3:(aB "h3")=cb `aR 3:=by decide+kernel
 have d4:(aB "h4")=cb `aR 4:=by decide+kernel
 have dn:(aB "n1")=cb (chS 110) 1:=by decide+kernel
 have dv:(aB "v1")=cb (chS 118) 1:=by decide+kernel
 have t1:(aB "t1")∈lu:=by decide+kernel
 have t2:(aB "t2")∈lu:=by decide+kernel
 have t3:(aB "t3")∈lu:=by decide+kernel
 cases h with
 | any=>simp only[aas,aax,Hg];exact .cons (wk2 j9 (wN 0 dn (by simp[c0]))) .nil
 | var=>simp only[aas,aax,Di];exact .cons (wk2 j9 (wV 0 dv (by simp[c0]))) .nil
 | neg h=>simp only[aas,aax,ni hk ng,cg hk h];exact .cons (wk2 j9 (wH 0 d1 (by simp[c0]))) .nil
 | two hw h1 h2=>simp only[aas,aax,ic hk hw,cg hk h1,cg hk h2];exact .cons (wk3 j9 (wH 0 d1 (by simp[c0])) (wH 1 d2 (by simp[c0]))) .nil
 | four h1 h2 h3 h4=>
  simp only[aas,aax,ni hk ad,cg hk h1,cg hk h2,cg hk h3,cg hk h4];exact .cons (wk3 bT1 (wH 0 d1 (by simp[c0])) (wH 1 d2 (by simp[c0]))) (.cons (wk3 bT2 (wH 2 d3 (by simp[c0])) (wH 3 d4 (by simp[c0]))) (.cons (wk3 j9 bT1 bT2) .nil))
 | zero h=>exact .cons (wk2 bT3 (.int _)) (.cons (wk2 j9 (.int _)) .nil)
 | twice h=>
  simp only[aas,aax,ni hk mu,xq,cg hk h];exact .cons (wk2 bT1 (.int _)) (.cons (wk3 bT1 (wH 0 d1 (by simp[c0])) (wH 0 d1 (by simp[c0]))) (.cons (wk2 bT1 bT1) (.cons (wk2 j9 bT1) .nil)))
 | vzero=>exact .cons (wk2 j9 (.int _)) .nil
 | way h hx=>
  simp only[aas,aax,cg hk h];exact .cons (wk2 bT1 (.int _)) (.cons (wk3 j9 (wH 0 d1 (by simp[c0])) bT1) (.cons (wk3 j9 j9 bT1) .nil))
 | s1 h=>
  rename_i l
  simp only[aas,aax,ni hk ng,cy hk h];have f:(l.next c0).le (l.next c0):=⟨aa3 _,aa3 _,aa3 _⟩;exact .app (l.wkD t1 f) (.cons (wk2 j9 (l.wkL t1 f)) .nil)
 | s2 hw hl hm=>
  rename_i w l m
  simp only[aas,aax,ic hk hw,cy hk hl,cy hk hm];have f:(m.next (l.next c0)).le (m.next (l.next c0)):=⟨aa3 _,aa3 _,aa3 _⟩;have g:(l.next c0).le (m.next (l.next c0)):=(m.uj _).trans f;exact .app (.app (l.wkD t1 g) (m.wkD t2 f)) (.cons (wk3 j9 (l.wkL t1 g) (m.wkL t2 f)) .nil)
 | s3 hw ho hl hm hr=>
  rename_i w o l m r
  simp only[aas,aax,ic hk hw,ic hk ho,cy hk hl,cy hk hm,cy hk hr];have f:(r.next (m.next (l.next c0))).le `aX:=⟨aa3 _,aa3 _,aa3 _⟩;have g:(m.next (l.next c0)).le `aX:=(r.uj _).trans f;have e:(l.next c0).le `aX:=(m.uj _).trans g;exact .app (.app (.app (.app (m.wkD t2 g) (r.wkD t3 f)) (.cons (wk3 j9 (m.wkL t2 g) (r.wkL t3 f)) .nil)) (l.wkD t1 e)) (.cons (wk3 j9 (l.wkL t1 e) j9) .nil)
 | s4 hw ho hl hm hr=>
  rename_i w o l m r
  simp only[aas,aax,ic hk hw,ic hk ho,cy hk hl,cy hk hm,cy hk hr];have f:(r.next (m.next (l.next c0))).le `aX:=⟨aa3 _,aa3 _,aa3 _⟩;have g:(m.next (l.next c0)).le `aX:=(r.uj _).trans f;have e:(l.next c0).le `aX:=(m.uj _).trans g;exact .app (.app (.app (.app (l.wkD t1 e) (m.wkD t2 g)) (.cons (wk3 j9 (l.wkL t1 e) (m.wkL t2 g)) .nil)) (r.wkD t3 f)) (.cons (wk3 j9 j9 (r.wkL t3 f)) .nil)
noncomputable def jm:List Str→Nat→(Str→Option V)→(Str→Option V)
 | [],_,m=>m
 | z::r,c,m=>jm r (c+1) (gv m z (.int (c:Int)))
theorem By (z:Str):∀(us:List Str) (c:Nat) (m:Str→Option V),jm (us++[z]) c m=gv (jm us c m) z (.int ((c+us.length:Nat):Int))
 | [],c,m=>rfl
 | y::us,c,m=>by
  show jm (us++[z]) (c+1) _=gv (jm us (c+1) _) z _
  rw[By z us (c+1),aa8,show c+1+us.length=c+(us.length+1) by omega]
theorem gw {z:Str}:∀{us:List Str} {c:Nat} {m:Str→Option V},z∉us→jm us c m z=m z
 | [],c,m,_=>rfl
 | y::us,c,m,h=>by
  show jm us (c+1) (gv m y _) z=m z
  rw[gw λk=>h (aab _ k)];unfold gv;rw[if_neg λe=>h (by rw[e];exact aa6)]
theorem Gv {z:Str}:∀{us:List Str} {c:Nat} {m m':Str→Option V},z∈us→∃i:Nat,jm us c m z=aA (.int (i:Int))∧jm us c m' z=aA (.int (i:Int))
 | y::us,c,m,m',h=>by
  by_cases k:z∈us
  ·exact Gv (us:=us) (c:=c+1) k
  ·rcases List.mem_cons.mp h with rfl | h
   ·refine ⟨c,?_,?_⟩
    ·show jm us (c+1) (gv m z _) z=_
     rw[gw k];unfold gv;rw[if_pos rfl]
    ·show jm us (c+1) (gv m' z _) z=_
     rw[gw k];unfold gv;rw[if_pos rfl]
   ·exact absurd h k
theorem yy {z:Str}:∀(us:List Str) (c:Nat) (acc:List (Key×V)) (m:Str→Option V),(∀y,dk acc (aP y)=m y)→dk (gc ((us.map (aP:Str→Key)).zip (((acd c us.length).map λq=>((q:Nat):Int)).map V.int)) acc) (aP z)=jm us c m z
 | [],c,acc,m,h=>h z
 | y::us,c,acc,m,h=>by
  show dk (gc ((us.map (aP:Str→Key)).zip (((acd (c+1) us.length).map λq=>((q:Nat):Int)).map V.int)) (putK acc (aP y) (.int (c:Int)))) (aP z)=jm us (c+1) (gv m y (.int (c:Int))) z
  refine yy us (c+1) _ _ λx=>?_;rw[ja];unfold gv;by_cases e:x=y
  ·rw[if_pos (by rw[e]),if_pos e]
  ·rw[if_neg (λk=>e (fU k)),if_neg e];exact h x
theorem yv (us:List Str) (c:Nat) (z:Str):oy us ((acd c us.length).map λq=>((q:Nat):Int)) z=jm us c (λ_=>none) z:=yy us c [] _ λy=>rfl
theorem ju (c n:Nat):(cb (chS c) n).cps.toList[0]?=aA c:=by
 rw[r9];unfold lab;rw[Cc];rfl
theorem xr {c d n m:Nat} (h:c≠d):cb (chS c) n≠cb (chS d) m:=λe=>by
 have:=ju c n;rw[e,ju] at this;exact h (aa7 this).symm
theorem vg {z:Str} (h:z∈lu) (n:Nat):z≠cb `aR n∧z≠cb (chS 110) n∧z≠cb (chS 118) n:=by
 have f:∀z∈lu,z.cps.toList[0]?≠aA 104∧z.cps.toList[0]?≠aA 110∧z.cps.toList[0]?≠aA 118:=by decide+kernel
 obtain ⟨a,b,c⟩:=f z h;exact ⟨λe=>a (by rw[e,ju]),λe=>b (by rw[e,ju]),λe=>c (by rw[e,ju])⟩
theorem Ua:∀c∈[104,110,118],∀a < 9,∀b < 9,cb (chS c) a=cb (chS c) b→a=b:=by decide+kernel
theorem Cd {c:Nat} (hc:c∈[104,110,118]) {xs:List V} (hl:xs.length≤7) {i:Nat} (hi:i < xs.length):∀k,i < k→k < xs.length→cb (chS c) (0+i+1)≠cb (chS c) (0+k+1):=λk h1 h2 e=>by
 have:=Ua c hc _ (by omega) _ (by omega) e;omega
noncomputable def Dm (us:List Str) (c:Nat) (is:List Int):Str→Option V:=jm us c (putL `aR `a8 0 λ_=>none)
noncomputable def bxN (c n:Nat):List Int:=(acd c n).map λq=>((q:Nat):Int)
theorem R8 {dd:List `z} {z:Str} {d:List V} (hz:z∈lu) (hd:d∈dd) (hw:V.str z∈d.drop 1):z∈i7 dd:=by
 have hz:z∈aB "out"::tS:=hz;unfold i7;rcases List.mem_cons.mp hz with rfl | hz
 ·exact aa6
 ·refine aab _ (List.mem_filter.mpr ⟨hz,?_⟩);exact List.any_eq_true.mpr ⟨d,hd,List.any_eq_true.mpr ⟨_,hw,by simp[eqV]⟩⟩
theorem zg {dd:List `z} {z:Str} (h:z∈i7 dd):z∈lu:=by
 unfold i7 at h;rcases List.mem_cons.mp h with rfl | h
 ·decide+kernel
 ·exact aab _ (List.mem_filter.mp h).1
theorem Ha {r:Rd} {u:Und} {c:Nat} {is:List Int} (hu:bo r.2=i7 r.2) (hwk:WkD (Ga u) r.2) (hi:is.length=u.hs.length) (lh:u.hs.length≤7) (ln:u.ns.length≤5) (lv:u.vs.length≤5) {d:List V} (hd:d∈r.2) {w:V} (hw:w∈d.drop 1):Thing (Dm (i7 r.2) c is) u w (wOf (dh (r,u) is `G) w):=by
 have hl:=hwk d hd w hw;have il:(is.map V.int).length=u.hs.length:=by rw[aa0,hi]
 cases hl with
 | int i=>exact .int i
 | @box z hz=>
  have hin:=R8 hz hd hw;obtain ⟨i,e1,e2⟩:=Gv (c:=c) (m:=putL `aR `a8 0 λ_=>none) (m':=λ_=>none) hin;have em:dh (r,u) is `G z=aA (.int (i:Int)):=by
   unfold dh;rw[eo λk _=>(vg hz _).2.2,eo λk _=>(vg hz _).2.1,eo λk _=>(vg hz _).1];show oy (bo r.2) `G z=_
   unfold bxN;rw[yv,hu];exact e2
  show Thing _ u `Q ((dh (r,u) is `G z).getD `Q)
  rw[em];exact .box e1
 | @h j hj=>
  have hj:j < u.hs.length:=hj;obtain ⟨v,hv⟩:∃v,(is.map V.int)[j]?=aA v:=⟨_,aa1 (by omega)⟩;have far:=Cd (c:=104) `b (xs:=is.map V.int) (by omega) (i:=j) (by omega);have h0:∀m:Str→Option V,putL `aR `a8 0 m (cb `aR (j+1))=aA v:=λm=>by
   have:=tj (c:=chS 104) (j:=0) (m:=m) hv far;rw[abn] at this;exact this
  have em:dh (r,u) is `G (cb `aR (j+1))=aA v:=by
   unfold dh;rw[eo λk _=>xr `a,eo λk _=>xr `a];exact h0 _
  show Thing _ u (.str _) ((dh (r,u) is `G _).getD (.str _))
  rw[em];refine .box ?_;unfold Dm;rw[gw λk=>(vg (zg k) (j+1)).1 rfl];exact h0 _
 | @n j hj=>
  have hj:j < u.ns.length:=hj;obtain ⟨v,hv⟩:∃v,u.ns[j]?=aA v:=⟨_,aa1 hj⟩;have far:=Cd (c:=110) `b (xs:=u.ns) (by omega) (i:=j) hj;have em:dh (r,u) is `G (cb (chS 110) (j+1))=aA v:=by
   unfold dh;rw[eo λk _=>xr `a];have:=tj (c:=chS 110) (j:=0) (m:=putL `aR `a8 0 (oy (bo r.2) `G)) hv far;rw[abn] at this;exact this
  show Thing _ u (.str _) ((dh (r,u) is `G _).getD (.str _))
  rw[em];refine .num (by omega) ?_ hv;unfold Dm;rw[gw λk=>(vg (zg k) (j+1)).2.1 rfl,eo λk _=>xr `a]
 | @v j hj=>
  have hj:j < u.vs.length:=hj;obtain ⟨v,hv⟩:∃v,u.vs[j]?=aA v:=⟨_,aa1 hj⟩;have far:=Cd (c:=118) `b (xs:=u.vs) (by omega) (i:=j) hj;have em:dh (r,u) is `G (cb (chS 118) (j+1))=aA v:=by
   unfold dh;have:=tj (c:=chS 118) (j:=0) (m:=putL (chS 110) u.ns 0 (putL `aR `a8 0 (oy (bo r.2) `G))) hv far;rw[abn] at this;exact this
  show Thing _ u (.str _) ((dh (r,u) is `G _).getD (.str _))
  rw[em];refine .name (by omega) ?_ hv;unfold Dm;rw[gw λk=>(vg (zg k) (j+1)).2.2 rfl,eo λk _=>xr `a]
theorem N4 {dd:List `z} {c:Nat} {is:List Int}:Dm (i7 dd) c is `k=aA (.int (c:Int)):=by
 unfold Dm i7;show jm (tS.filter _) (c+1) (gv _ _ _) _=_
 rw[gw]
 ·unfold gv;rw[if_pos rfl]
 ·intro h;exact absurd (List.mem_filter.mp h).1 `c
end Pc
theorem L2.us7 {α:Type} {P:List α→Prop} {us:List α} (hl:us.length=7) (h:∀a b c d e f g,P [a,b,c,d,e,f,g]):P us:=
 match us,hl with
 | [_,_,_,_,_,_,_],_=>h _ _ _ _ _ _ _
namespace Pc
open PySem PySem.Spec L2 PyProof.Rows
theorem Mk.few {kinds:List Str} (hk:Kinds kinds) {sh:List V} {dd:List `z} (h:Mk kinds sh dd):(sh.foldl (cW kinds) c0).h≤5∧(sh.foldl (cW kinds) c0).n≤5∧(sh.foldl (cW kinds) c0).v≤5:=by
 have ng:0 < arV (.str "neg"):=by decide+kernel
 have ad:0 < arV (.str "add"):=by decide+kernel
 have mu:0 < arV (.str "mul"):=by decide+kernel
 have z0:c0.h≤0∧c0.n≤0∧c0.v≤0:=⟨aa3 _,aa3 _,aa3 _⟩;cases h with
 | any=>simp only[aas,aax,Hg];simp[c0]
 | var=>simp only[aas,aax,Di];simp[c0]
 | neg h=>simp only[aas,aax,ni hk ng,cg hk h];simp[c0]
 | two hw h1 h2=>simp only[aas,aax,ic hk hw,cg hk h1,cg hk h2];simp[c0]
 | four h1 h2 h3 h4=>simp only[aas,aax,ni hk ad,cg hk h1,cg hk h2,cg hk h3,cg hk h4];simp[c0]
 | zero h=>simp only[aas,aax,ni hk mu,xq,cg hk h];simp[c0]
 | twice h=>simp only[aas,aax,ni hk mu,xq,cg hk h];simp[c0]
 | vzero=>simp only[aas,aax,ni hk mu,xq,Di];simp[c0]
 | way h hx=>simp only[aas,aax,cg hk h];simp[c0]
 | s1 h=>
  rename_i l
  simp only[aas,aax,ni hk ng,cy hk h];have a:=l.gm z0.1 z0.2.1 z0.2.2;omega
 | s2 hw hl hm=>
  rename_i w l m
  simp only[aas,aax,ic hk hw,cy hk hl,cy hk hm];have a:=l.gm z0.1 z0.2.1 z0.2.2;have b:=m.gm a.1 a.2.1 a.2.2;omega
 | s3 hw ho hl hm hr=>
  rename_i w o l m r
  simp only[aas,aax,ic hk hw,ic hk ho,cy hk hl,cy hk hm,cy hk hr];have a:=l.gm z0.1 z0.2.1 z0.2.2;have b:=m.gm a.1 a.2.1 a.2.2;have c:=r.gm b.1 b.2.1 b.2.2;omega
 | s4 hw ho hl hm hr=>
  rename_i w o l m r
  simp only[aas,aax,ic hk hw,ic hk ho,cy hk hl,cy hk hm,cy hk hr];have a:=l.gm z0.1 z0.2.1 z0.2.2;have b:=m.gm a.1 a.2.1 a.2.2;have c:=r.gm b.1 b.2.1 b.2.2;omega
theorem ip:∀(r:List Nat) (p:Nat),starts (p+1) r=(starts p r).map (·+1)
 | [],p=>rfl
 | a::r,p=>by
  show (p+1)::(starts (p+1+1) r).drop a=(p+1)::((starts (p+1) r).drop a).map (·+1)
  rw[ip r (p+1),acg]
theorem Gm (a:Nat) (ar:List Nat) (p:Nat):bb (a::ar) (p+1)=(bb ar p).map (·+1):=by
 unfold bb;show (starts (p+1+1) (ar.drop (p+1))).take (ar.getD p 0)=_
 rw[ip,adt]
theorem Nr {kinds:List Str} {ws:List V} (hk:Kinds kinds) (hw:∀v∈ws,isW v):∀(sh:List V) (p:Nat) (u u':Und) (d m:Nat),(∀v∈sh,isW v)→pend d (sh.map arV)=aA 0→eat d `au=aA m→vy u→bq kinds ws sh p u=aA u'→vy u'
 | [],p,u,u',d,m,_,_,_,hu,h=>by
  have h:aA u=aA u':=h;cases h
  exact hu
 | v::r,p,u,u',0,m,_,hp,_,_,_=>nomatch hp
 | v::r,p,u,u',d+1,m,hs,hp,he,hu,h=>by
  have hpl:p < ws.length:=by
   rcases adk p ws.length with g | g
   ·exact g
   ·rw[ac6 g] at he;cases he
  have hx:ws[p]?=aA ws[p]:=aa1 hpl;rw[dr] at h;have eg:ws.getD p .non=ws[p]:=by rw[aaj,hx];rfl
  rw[eg] at h;by_cases c:lies `y v ws[p]=true
  ·rw[if_pos c] at h;obtain ⟨d',m',h1,h2⟩:=gx hk (hs v aa6) hx (hw _ (aaf hpl)) hp he c;exact Nr hk hw r _ _ u' d' m' (λx hx=>hs x (aab _ hx)) h1 h2 (hu.put (hw _ (aaf hpl)) _ _) h
  ·rw[if_neg c] at h;cases h
theorem Dy {kinds:List Str} {rs:List Rl} {ws:List V} (bk:Bk kinds rs) (tw:Tw ws):∀{ns:List Str} {st:List Ky} {ds:List (Rl×Und)},cf kinds rs ws ns st=aA ds→(∀k∈st,k.1 < ws.length)→∃pl:Nat→Nat,(starts 0 (ff ds)).map pl=st.map (·.1)∧∀(j:Nat) (d:Rl×Und),ds[j]?=aA d→d.1∈rs∧pl j < ws.length∧vy d.2∧bq kinds ws d.1.shape (pl j) ⟨[],[],[]⟩=aA d.2∧(bb (ff ds) j).map pl=d.2.hs
 | [],[],ds,h,_=>by
  have h:aA []=aA ds:=h;cases h
  exact ⟨λ_=>0,rfl,λj d h=>by simp at h⟩
 | [],_::_,ds,h,_=>by cases h
 | _::_,[],ds,h,_=>by cases h
 | nm::r,k::st,ds,h,hst=>by
  cases e:du kinds rs ws nm k.2 k.1 with
  | none=>rw[g9 e] at h;cases h
  | some d=>
   rw[gs e] at h;obtain ⟨ds',h',rfl⟩:=Option.map_eq_some_iff.mp h;obtain ⟨a1,a3,a4,a5⟩:=oa (r:=d.1) (u:=d.2) e;have hk:=hst k aa6;obtain ⟨w1,w2,w3⟩:=bk.sh _ a1;obtain ⟨n,hn⟩:=tw.eat hk;have hww:∀v∈ws,isW v:=λv hv=>(tw.w v hv).1;have hin:=xg bk.kd hww _ _ _ _ 1 n w1 w2 hn (λ_ z=>(aac z).elim) a5;have huw:=Nr bk.kd hww _ _ _ _ 1 n w1 w2 hn ⟨(λ_ z=>(aac z).elim),(λ_ z=>(aac z).elim)⟩ a5;obtain ⟨pl,i1,i2⟩:=Dy bk tw h' λx hx=>by
    rcases List.mem_append.mp hx with z | z
    ·exact hin _ (ac9 (a:=x.1) (b:=x.2) z).1
    ·exact hst x (aab _ z)
   have hl:d.2.hs.length=(aq kinds d.1.shape).length:=by
    have:=(uo bk.kd d.1.shape k.1 _ d.2 (bk.sh d.1 a1).1 a5).1;have z:(⟨[],[],[]⟩:Und).hs.length=0:=rfl;omega
   have hz:(Ae kinds d).map (·.1)=d.2.hs:=by
    unfold Ae;exact aen (ae8 hl)
   rw[aaa,hz] at i1;refine ⟨λj=>match j with | 0=>k.1 | j+1=>pl j,?_,λj x hx=>?_⟩
   ·show (0::(starts 1 (ff ds')).drop d.2.hs.length).map _=k.1::st.map (·.1)
    rw[aaq,ip,←acg,abd];congr 1
    show ((starts 0 (ff ds')).drop d.2.hs.length).map pl=_
    rw[acg,i1,List.drop_left]
   ·cases j with
    | zero=>
     cases hx
     refine ⟨a1,hk,huw,a5,?_⟩;show ((starts 1 (ff ds')).take d.2.hs.length).map _=_
     rw[ip,←adt,abd];show ((starts 0 (ff ds')).take d.2.hs.length).map pl=_
     rw[adt,i1,List.take_left]
    | succ j=>
     obtain ⟨b1,c1,c2,b2,b3⟩:=i2 j x hx;refine ⟨b1,c1,c2,b2,?_⟩;show (bb (d.2.hs.length::ff ds') (j+1)).map _=_
     rw[Gm,abd];exact b3
noncomputable def arE (es:List Sd):List Nat:=es.map λe=>e.2.hs.length
structure CvT (kinds:List Str) (rd:List Rd) (ws:List V) (es:List Sd) (pl:Nat→Nat):Prop where
 rd:∀e∈es,e.1∈rd
 md:∀e∈es,Mk kinds e.1.1.shape e.1.2
 pw:∀j,j < es.length→pl j < ws.length
 uw:∀e∈es,vy e.2
 laid:∀(j:Nat) (e:Sd),es[j]?=aA e→bq kinds ws e.1.1.shape (pl j) ⟨[],[],[]⟩=aA e.2∧(bb `x j).map pl=e.2.hs
theorem CvT.thing {kinds:List Str} {rd:List Rd} {ws:List V} {es:List Sd} {pl:Nat→Nat} (h:CvT kinds rd ws es pl) (hk:Kinds kinds) {j:Nat} {e:Sd} (he:es[j]?=aA e):bo e.1.2=i7 e.1.2∧WkD (Ga e.2) e.1.2∧e.2.hs.length≤5∧e.2.ns.length≤5∧e.2.vs.length≤5:=by
 have m:=h.md e (aai he);have c:=Ef _ _ _ _ (h.laid j e he).1;have c:Ga e.2=e.1.1.shape.foldl (cW kinds) c0:=c;have f:=m.few hk;rw[←c] at f;exact ⟨m.used,by rw[c];exact m.wk hk,f⟩
noncomputable def gd (es:List Sd) (ar:List Nat) (f:Nat→Nat) (p:Nat):List `z:=match es[p]? with
 | some e=>jv e ((bb ar p).map λq=>((f q:Nat):Int)) (bxN (f p) (nbE es p))
 | none=>[]
def b7 (a b:Addr) (H H':Hp):Prop:=∀x o,x≠a→x≠b→H x=aA o→H' x=aA o
theorem b7.trans {a b:Addr} {H H1 H2:Hp} (s:b7 a b H H1) (t:b7 a b H1 H2):b7 a b H H2:=λx o n m h=>t x o n m (s x o n m h)
theorem b7.of {a b:Addr} {H H':Hp} (s:ah H H'):b7 a b H H':=λx o _ _ h=>s x o h
theorem b7.put1 {a b:Addr} {H:Hp} (o:HO):b7 a b H (upd H a o):=λx u n _ h=>by rw[ak n];exact h
theorem b7.put2 {a b:Addr} {H:Hp} (o:HO):b7 a b H (upd H b o):=λx u _ n h=>by rw[ak n];exact h
theorem b7.new {a b d:Addr} {H H':Hp} (s:b7 a b H H') (hd:H d=none) (o:HO):b7 a b H (upd H' d o):=λx u n m h=>by rw[ak (ao h hd)];exact s x u n m h
theorem b7.tk {a b:Addr} {H H':Hp} {xs ys:List V} (s:b7 a b H H') (ha:H a=aA `U) (hb:H b=aA (.lst ys)):TK H H':=λx zs h=>s x _ (λe=>by rw[e,ha] at h;cases h) (λe=>by rw[e,hb] at h;cases h) h
def jd (n:Nat):Sp:=λvs H Q _=>∃(b wt ct rl cl:Addr) (kinds:List Str) (rd:List Rd) (ws:List V) (es:List Sd) (pl f:Nat→Nat) (p s c:Nat) (as:List Addr),vs=[.ref b,.ref wt,.int (pl p:Nat),.ref ct,.int (p:Nat),.ref rl,.ref cl]∧dj H b kinds rd∧H wt=aA `ba∧Bk kinds (rd.map (·.1))∧Tw ws∧H ct=aA (.tup (es.map λe=>V.str e.1.1.name))∧CvT kinds rd ws es pl∧H rl=aA `f∧H cl=aA (.lst [.int (c:Nat)])∧eat 1 ((arE es).drop p)=aA s∧s≤n∧as.length+100*s≤100000∧(∀q∈post `x p,f q=baseOf (nbE es) (post `x p) c q)∧∀(t:Addr) (bs:List Addr) (H':Hp),b7 rl cl H H'→H' t=aA (.tup [.int (f p:Nat),.int (p+s:Nat)])→H' rl=aA `bd→H' cl=aA (.lst [.int (c+sumOf (nbE es) (post `x p):Nat)])→bc H' bs ((post `x p).flatMap (gd es `x f))→Q `N H'
theorem Iy {n:Nat} {b wt ct rl cl:Addr} {kinds:List Str} {rd:List Rd} {ws:List V} {es:List Sd} {pl f:Nat→Nat} {p s c:Nat} {as:List Addr} {H:Hp} {Q:VK} {E:XK} (p0:dj H b kinds rd) (p1:H wt=aA `ba) (p2:Bk kinds (rd.map (·.1))) (p3:Tw ws) (p4:H ct=aA (.tup (es.map λe=>V.str e.1.1.name))) (p5:CvT kinds rd ws es pl) (p6:H rl=aA `f) (p7:H cl=aA (.lst [.int (c:Nat)])) (p8:eat 1 ((arE es).drop p)=aA s) (p9:s≤n) (pa:as.length+100*s≤100000) (pb:∀q∈post `x p,f q=baseOf (nbE es) (post `x p) c q) (pc:∀(t:Addr) (bs:List Addr) (H':Hp),b7 rl cl H H'→H' t=aA (.tup [.int (f p:Nat),.int (p+s:Nat)])→H' rl=aA `bd→H' cl=aA (.lst [.int (c+sumOf (nbE es) (post `x p):Nat)])→bc H' bs ((post `x p).flatMap (gd es `x f))→Q `N H'):jd n [.ref b,.ref wt,.int (pl p:Nat),.ref ct,.int (p:Nat),.ref rl,.ref cl] H Q E:=⟨b,wt,ct,rl,cl,kinds,rd,ws,es,pl,f,p,s,c,as,rfl,p0,p1,p2,p3,p4,p5,p6,p7,p8,p9,pa,pb,pc⟩
theorem sg {vs:List V} {H:Hp} {Q:VK} {E:XK} (h:jd 0 vs H Q E):False:=by
 obtain ⟨b,wt,ct,rl,cl,kinds,rd,ws,es,pl,f,p,s,c,as,_,_,_,_,_,_,_,_,_,h8,h9,_⟩:=h;have:=cu h8;omega
theorem Px {nb:Nat→Nat} {A C B:List Nat} {c x:Nat} (nd:(A++(C++B)).Nodup) (hx:x∈C):baseOf nb (A++(C++B)) c x=baseOf nb C (c+sumOf nb A) x:=by
 rw[aeh] at nd;rw[xw λz=>nd.2.2 x z x (abe _ hx) rfl,Dp hx]
theorem Pl {es:List Sd} {p:Nat} {e:Sd} (h:es[p]?=aA e):nbE es p=(bo e.1.2).length:=by unfold nbE;rw[h];rfl
theorem Pn {es:List Sd} {ar:List Nat} {f:Nat→Nat} {p:Nat} {e:Sd} (h:es[p]?=aA e):gd es ar f p=jv e ((bb ar p).map λq=>((f q:Nat):Int)) (bxN (f p) (nbE es p)):=by unfold gd;rw[h]
theorem Sa (nb:Nat→Nat) (a b:List Nat):sumOf nb (a++b)=sumOf nb a+sumOf nb b:=by
 unfold sumOf;rw[aaa,adm]
theorem Hy {ar:List Nat} {p s:Nat} (h:eat 1 `X=aA s):(post ar p).Nodup:=(ve ar.length p s h (by have:=Cj h;omega)).2
theorem T1 {ar:List Nat} {p s:Nat} (h:eat 1 `X=aA s):p∈post ar p:=by rw[post_eq h];exact aao _ aa6
theorem DM.other {H:Hp} {d b:Addr} {m:Str→Option V} {n:Nat} (h:DM H d m n) (nb:d≠b) (o:HO):DM (upd H b o) d m n:=by
 obtain ⟨kvs,h1,h2⟩:=h;exact ⟨kvs,by rw[ak nb];exact h1,h2⟩
theorem DM.sameC {a b:Addr} {H H':Hp} {d:Addr} {m:Str→Option V} {n:Nat} (h:DM H d m n) (s:b7 a b H H') (na:d≠a) (nb:d≠b):DM H' d m n:=by
 obtain ⟨kvs,h1,h2⟩:=h;exact ⟨kvs,s _ _ na nb h1,h2⟩
theorem Ar {es:List Sd} {ar:List Nat} {f:Nat→Nat} (a b:List Nat):(a++b).flatMap (gd es ar f)=a.flatMap (gd es ar f)++b.flatMap (gd es ar f):=abp
theorem b7.free6 {a b t:Addr} {H H':Hp} {x y:HO} (s:b7 a b H H') (ht:H' t=none) (ha:H' a=aA x) (hb:H' b=aA y):H t=none:=by
 cases e:H t with
 | none=>rfl
 | some o=>
  have:=s t o (ao ha ht).symm (ao hb ht).symm e;rw[ht] at this;cases this
theorem nq {es:List Sd} (h:∀e∈es,e.1.2.length≤100) (ar:List Nat) (f:Nat→Nat):∀xs:List Nat,(xs.flatMap (gd es ar f)).length≤100*xs.length
 | []=>aa3 _
 | x::xs=>by
  have ih:=nq h ar f xs;rw[aby,aa2,aa8];have:(gd es ar f x).length≤100:=by
   unfold gd;cases e:es[x]? with
   | none=>exact aag _
   | some a=>
    show (jv a _ _).length≤100
    unfold jv;rw[aa0];exact h a (aai e)
  omega
theorem Qe {kids:List Nat} {i pos:Nat} (h:kids[i]?=aA pos):kids.take (i+1)=kids.take i++[pos]:=by rw[aar,h];rfl
theorem Cvd.mem {kinds:List Str} {rs:List Rd} {ws:List V} {st:List Ky} {cs:List Rd} (h:Cvd kinds rs ws st cs):∀r∈cs,r∈rs:=by
 induction h with
 | nil=>exact λr hr=>nomatch hr
 | cons hr hk hu h ih=>
  intro x hx;rcases List.mem_cons.mp hx with rfl | hx
  ·exact hr
  ·exact ih x hx
theorem Bq:∀(cs:List Rd) (us:List Und),(cs.zip us).map (λe:Sd=>(e.1.1,e.2))=(cs.map (·.1)).zip us
 | [],us=>by simp
 | c::cs,[]=>rfl
 | c::cs,u::us=>by
  show ((c.1,u)::(cs.zip us).map _)=(c.1,u)::_
  rw[Bq cs us];rfl
structure CvAll (kinds:List Str) (rd:List Rd) (ws:List V) (kd:Str) (cs:List Rd) (es:List Sd) (pl:Nat→Nat):Prop where
 len:es.length=cs.length
 nm:es.map (λe=>V.str e.1.1.name)=cs.map λr=>V.str r.1.name
 cov:cf kinds (rd.map (·.1)) ws (cs.map λr=>r.1.name) [(0,kd)]=aA (es.map λe=>(e.1.1,e.2))
 t:CvT kinds rd ws es pl
 pl0:pl 0=0
 pe:pend 1 `x=aA 0
theorem Cvd.all {kinds:List Str} {rd:List Rd} {ws:List V} {kd:Str} {cs:List Rd} (bk:Bk kinds (rd.map (·.1))) (md:∀r∈rd,Mk kinds r.1.shape r.2) (tw:Tw ws) (h0:0 < ws.length) (h:Cvd kinds rd ws [(0,kd)] cs):∃(es:List Sd) (pl:Nat→Nat),CvAll kinds rd ws kd cs es pl:=by
 obtain ⟨us,e1,e2⟩:=h.cover bk;rw[←Bq] at e2;obtain ⟨pl,p1,p2⟩:=Dy bk tw e2 λk hk=>by rw[List.mem_singleton.mp hk];exact h0
 have hm:∀e∈cs.zip us,e.1∈rd:=λe he=>h.mem _ (ac9 (a:=e.1) (b:=e.2) he).1;have ea:ff ((cs.zip us).map λe:Sd=>(e.1.1,e.2))=arE (cs.zip us):=by
  unfold ff arE;rw[abd];rfl
 rw[ea] at p1;have at':∀(j:Nat) (e:Sd),(cs.zip us)[j]?=aA e→_:=λj e he=>p2 j (e.1.1,e.2) (by rw[aa4,he];rfl);have pe:pend 1 (arE (cs.zip us))=aA 0:=by rw[←ea];exact qg bk e2
 refine ⟨cs.zip us,pl,⟨by rw[abr,e1,aec],?_,e2,⟨hm,λe he=>md _ (hm e he),λj hj=>(at' j _ (aa1 hj)).2.1,λe he=>?_,λj e he=>?_⟩,?_,pe⟩⟩
 ·have:(cs.zip us).map (·.1)=cs:=aen (ae8 e1.symm);conv=>rhs;rw[←this]
  rw[abd];rfl
 ·obtain ⟨j,hj⟩:=abm he;exact (at' j e hj).2.2.1
 ·obtain ⟨_,_,_,a,b⟩:=at' j e he;rw[ea] at b;exact ⟨a,b⟩
 ·have hne:arE (cs.zip us)≠[]:=λz=>by rw[z] at pe;cases pe
  obtain ⟨t,ht⟩:=vo _ 0 hne;rw[ht] at p1;exact (abh p1).1
theorem Dw {rd:List Rd} (nd:((rd.map (·.1)).map (·.name)).Nodup):∀{es es':List Sd},(∀e∈es,e.1∈rd)→(∀e∈es',e.1∈rd)→es.map (λe=>(e.1.1,e.2))=es'.map (λe=>(e.1.1,e.2))→es=es'
 | [],[],_,_,_=>rfl
 | [],_::_,_,_,h=>by cases h
 | _::_,[],_,_,h=>by cases h
 | e::es,e'::es',h1,h2,h=>by
  rw[aaq,aaq] at h;obtain ⟨a,b⟩:=abh h;rw[Dw nd (λx hx=>h1 x (aab _ hx)) (λx hx=>h2 x (aab _ hx)) b];congr 1
  obtain ⟨i,hi⟩:=abm (h1 e aa6);obtain ⟨j,hj⟩:=abm (h2 e' aa6);have a1:e.1.1=e'.1.1:=(Prod.mk.inj a).1;have a2:e.2=e'.2:=(Prod.mk.inj a).2;have z1:((rd.map (·.1)).map (·.name))[i]?=aA e.1.1.name:=by rw[aa4,aa4,hi];rfl
  have z2:((rd.map (·.1)).map (·.name))[j]?=aA e.1.1.name:=by rw[aa4,aa4,hj,a1];rfl
  have ij:i=j:=(List.getElem?_inj (List.getElem?_eq_some_iff.mp z1).1 nd).mp (z1.trans z2.symm);subst ij;have:e.1=e'.1:=aa7 (hi.symm.trans hj);exact Prod.ext this a2
theorem Dd {c:Str}:∀{xs:List V} {j:Nat} {m:Str→Option V},(∀v∈xs,isW v)→(∀z v,m z=aA v→isW v)→∀z v,putL c xs j m z=aA v→isW v
 | [],j,m,_,hm,z,v,h=>hm z v h
 | x::xs,j,m,hx,hm,z,v,h=>by
  refine Dd (xs:=xs) (j:=j+1) (m:=gv m (cb c (j+1)) x) (λy hy=>hx y (aab _ hy)) (λy w hy=>?_) z v h;unfold gv at hy;split at hy
  ·cases hy;exact hx x aa6
  ·exact hm y w hy
theorem Qx:∀{us:List Str} {c:Nat} {m:Str→Option V},(∀z v,m z=aA v→isW v)→∀z v,jm us c m z=aA v→isW v
 | [],c,m,hm,z,v,h=>hm z v h
 | x::us,c,m,hm,z,v,h=>by
  refine Qx (us:=us) (c:=c+1) (m:=gv m x (.int (c:Int))) (λy w hy=>?_) z v h;unfold gv at hy;split at hy
  ·cases hy;exact Fh _
  ·exact hm y w hy
theorem Sf {kinds:List Str} {rd:List Rd} {ws:List V} {es:List Sd} {pl:Nat→Nat} (h:CvT kinds rd ws es pl) {ar:List Nat} {f:Nat→Nat} {xs:List Nat}:∀r∈xs.flatMap (gd es ar f),(∀v∈r,isW v)∧r.length≤1000:=λr hr=>by
 obtain ⟨p,hp,hr⟩:=List.mem_flatMap.mp hr;unfold gd at hr;cases e:es[p]? with
 | none=>rw[e] at hr;exact nomatch hr
 | some a=>
  rw[e] at hr;have hr:r∈jv a _ _:=hr;unfold jv at hr;obtain ⟨d,hd,rfl⟩:=List.mem_map.mp hr;have hm:=aai e;obtain ⟨w1,w2,w3⟩:=(Mk.ok (h.md a hm)).1 d hd;have uw:=h.uw a hm;refine ⟨λv hv=>?_,?_⟩
  ·unfold rowOf at hv;rcases List.mem_append.mp hv with z | z
   ·exact w1 v (List.mem_of_mem_take z)
   ·obtain ⟨y,hy,rfl⟩:=List.mem_map.mp z;have hy:=w1 y (adn hy);obtain ⟨k,rfl⟩:=hy;cases k with
    | inl i=>exact Fh i
    | inr s=>
     show isW ((dh a _ _ s).getD (.str s))
     cases g:dh a ((bb ar p).map λq=>((f q:Nat):Int)) (bxN (f p) (nbE es p)) s with
     | none=>exact Kc s
     | some v=>
      refine Dd uw.2 (Dd uw.1 (Dd (λv hv=>?_) λz v hz=>?_)) s v g
      ·obtain ⟨i,_,rfl⟩:=List.mem_map.mp hv;exact Fh i
      ·rw[Pl e] at hz;unfold bxN at hz;rw[yv] at hz;exact Qx (λ_ _ h=>by cases h) z v hz
  ·unfold rowOf;rw[aa2,aa0,aau,aav];omega
end Pc
namespace PySem
open Sem (wp)
open AutoSeq1 (wpAny_loadPart')
noncomputable def eh (l:Addr):Obj:={ cls:=.type "tuple_iterator",data:=.fields #[.ref l,.int 0 0] }
theorem Le (l:Addr) (items:Array Value) (n:Nat) (t:Tok) (dct:Option Addr) (sl:Array (Option Value)):
  Meets (cN.«enumerate.__new__» ⟨[.type "enumerate",.ref l],[("start",.int 1 t)]⟩) (λ_ R s=>s.heap.get? l=aA { cls:=.type "tuple",dict:=dct,data:=.seq items n,slots:=sl }∧
   R (.ok (.ret `R)) { s with heap:=(s.heap.push (eh l)).push `a1 }):=
 .of_wp λprog w A R s h=>by
  obtain ⟨hp,g,d,tk,os⟩:=s;obtain ⟨hl,h⟩:=h;have hsb:=mK;have hLs:jH (fX ⟨hp,g,d,tk,os⟩) l items:=⟨_,hl,rfl,n,rfl⟩;wp_walk using wpAny_loadPart' hl
  refine jY λst=>aG ?_;split
  ·next c _ _ _ _ _=>
   cases (c==cX "enumerate") <;> (wp_walk using wpAny_loadPart' hl,dA hLs;exact ⟨_,rfl,h⟩)
  ·wp_walk using wpAny_loadPart' hl,dA hLs
   exact ⟨_,rfl,h⟩
section
variable {prog:aU} {w:bA} {A:bE} {E:Value→aE→Prop} {s:aE}
theorem Rg {l:Addr} {t:Tok} {items:Array Value} {Q:Value→aE→Prop} (hL:s.heap.IsTuple l items)
  (h:Q `R { s with heap:=(s.heap.push (eh l)).push `a1 }):
  aH `e A (call (.type "enumerate") [.ref l] [("start",.int 1 t)]) Q E s:=by
 have ft:=iQ;obtain ⟨c0,tl,hmro⟩:=ft.mro;have hmade:=ft.made;have hsub:=ft.sub;have hct:=Fw `D (.int 1 t);obtain ⟨⟨c,dct,dt,sl⟩,hl,hc,n,hd⟩:=hL;replace hc:c=.type "tuple":=hc
 replace hd:dt=.seq items n:=hd
 subst hc hd;refine iY (jV (show aH _ _ (callAny (.type "enumerate") _) _ _ _ from ?_));refine aG ⟨gI _ `c,eV nQ ?_⟩;rw[nJ (lR "enumerate" [.ref l] [("start",.int 1 t)]) (mD _ _ _)];have h1:=ft.notType;have h2:=ft.canCreate;repeat (any_goals (first | assumption | wp_step))
 have hen:(ig s.heap.objs.size).cls=.type "enumerate":=rfl;have hT:({ s with heap:=(s.heap.push (eh l)).push `a1 }:aE).TypeIs `R "enumerate":=⟨_,aI _ rfl,rfl⟩;refine fE (R:=wants (λv s1=>v=.ref (s.heap.push (eh l)).objs.size∧s1={ s with heap:=(s.heap.push (eh l)).push `a1 }) E) (eF ft.plain iB (nS (Je `D (.int 1 t)) (Le l items n t dct sl prog w A.in1 _ s ⟨hl,rfl,rfl⟩))) λr s1 hr=>?_;match r,hr with
 | .error e,hr=>exact hr
 | .ok (.ret obj),hr=>
  obtain ⟨rfl,rfl⟩:=hr;have hli:=ft.init.lookup;have hbi:=ft.init.bind `R;repeat (any_goals (first | assumption | wp_step))
  have gi:=yg (T:="enumerate") (self:=.ref (s.heap.push (eh l)).objs.size) (a:=.ref l) (v:=.int 1 t) ft.init.lookup ft.made `a;refine fE (eF ft.init.plain mP (ft.init.check _ _ _ _ _ _ _ _ hT (Em _ _ _) (gi prog w A.in1 (wants (λr s2=>r=.none∧Q `R s2) E) _ ⟨hT,rfl,h⟩))) λr2 s2 hr2=>?_;match r2,hr2 with
  | .error e,hr2=>exact hr2
  | .ok (.ret r),hr2=>
   obtain ⟨rfl,hq⟩:=hr2;repeat (any_goals (first | assumption | wp_step))
end
end PySem
namespace L2
open PySem PySem.Spec PyProof.Rows L2.Zg
theorem Vg {prog:aU} {w:bA} {A:bE} (hh:A.handled=none) (it l:Addr) (hne:l≠it) (items:Array Value):
  Draws prog w A it [it,l] (items.size+1) (λi v=>∃j,i=j+1∧items[j]?=aA v) (λi h=>∃j,i=j+1∧h.IsTupleIter it l j∧h.IsTuple l items) where
 live:=λ_ _ ⟨_,_,⟨o,ho,_⟩,_⟩=>⟨o,ho⟩
 frame:=λ_ _ _ ⟨j,e,a,b⟩ hk=>⟨j,e,a.at λo e=>hk it aa6 o e,b.at λo e=>hk l (aab _ aa6) o e⟩
 item:=by
  rintro i s Q E hi ⟨j,rfl,a,b⟩ hQ;have hj:j < items.size:=ae2 hi;exact Hf.next (b:=true) ⟨a,b⟩ hne (aat hj) λh' ⟨a',b'⟩ hs=>hQ _ h' s.toks ⟨j,rfl,aat hj⟩ ⟨j+1,rfl,a',b'⟩ hs
 done:=by
  rintro s Q E ⟨j,e,a,b⟩ hE;obtain rfl:j=items.size:=(acp e).symm;exact Hf.stop (b:=true) hh ⟨a,b⟩ (abz (aa3 _)) hE
noncomputable def M8 (K:aF) (a:Addr):It:=
 ⟨λi H=>∃xs x,SqT K H a xs∧xs[i]?=aA x,λi H x H'=>∃p y,(∀xs,SqT K H a xs→xs[i]?=aA y)∧H p=none∧x=.ref p∧H'=upd H p (.tup [.int ((i+1:Nat):Int),y]),λi H=>∃xs,SqT K H a xs∧xs.length≤i⟩
theorem Ea {P:aU} {w:bA} {K:aF} {elts:List Expr} {x1} {tpos:Pos} (a it e:Addr) (hne:e≠it) (hea:e≠a) (hai:a≠it):Turn P w K (.Tuple elts x1 tpos) (M8 K a) [e,it] e (λi h=>(∃old,lL h e it ((i+1:Nat):Int) old)∧h.IsTupleIter it a i) where
 mem:=by simp
 obj:=λi h st b hb=>by
  obtain ⟨⟨old,he⟩,o',e',c',d'⟩:=st;rcases List.mem_cons.mp hb with rfl | z
  ·exact ⟨_,he,λv z=>by cases z⟩
  ·cases List.mem_singleton.mp z
   exact ⟨o',e',λv z=>by rw[d'] at z;cases z⟩
 keep:=λi h h' ⟨⟨old,he⟩,st2⟩ k=>⟨⟨old,k e `b _ he⟩,st2.at λo' e'=>k it `b o' e'⟩
 item:=by
  intro X hP hw hK hc i pins s σ H E I hf st hg;subst hP hw hK;obtain ⟨xs,x,hq,hx⟩:=hg;obtain ⟨⟨old,he⟩,st2⟩:=st;obtain ⟨its,rv,p,hz⟩:=I.tuple hq;obtain ⟨u,hu,ru⟩:=rv.get hx;have le:e < s.heap.objs.size:=aJ he;have li:it < s.heap.objs.size:=let ⟨_,e',_⟩:=st2;aJ e'
  have hil:i < its.toArray.size:=by
   have:=(List.getElem?_eq_some_iff.mp hu).1;simpa using this
  refine gR (Vg (A:=X.A.in1) `aF it a hai its.toArray) he ⟨i,rfl,st2,`V⟩ (ael hil) hne (λz=>by
   rcases List.mem_cons.mp z with z | z
   ·exact hne z
   ·exact hea (List.mem_singleton.mp z)) λu' h1 tk hP heo hst1 ht1 hz1 hk1=>⟨_,rfl,?_⟩
  obtain ⟨j,ej,hu'⟩:=hP;cases acp ej
  obtain rfl:u'=u:=by
   have:its.toArray[i]?=aA u:=by simpa using hu
   exact aa7 (hu'.symm.trans this)
  obtain ⟨j,ej,hit1,_⟩:=hst1;cases acp ej
  refine dS heo λh2 he2 sb=>?_;have sb:bF e h1 h2:=sb;have hfr:H s.heap.objs.size=none:=I.hok.fresh (aa3 _);have I1:Inv X pins σ (upd H s.heap.objs.size `T) { s with heap:=s.heap.push { cls:=.type "tuple",data:=.seq #[.int ((i+1:Nat):Int) tk,u'] },toks:=tk+1 }:=
   I.laid (t':=tk+1) (λb o' e'=>aD _ e') (aa3 _) (show bw X.prog X.w _ _ _ `T from ⟨by show (2:Nat)≤sizeLine;decide,[.int ((i+1:Nat):Int) tk,u'],.cons ⟨_,rfl⟩ (.cons ru .nil),⟨_,aI _ rfl,rfl,_,rfl,rfl⟩⟩)
  have nup:∀b,b < s.heap.objs.size→(upd H s.heap.objs.size `T) b=H b:=λb hb=>ak (aal hb);have fpl:∀b∈[e,it],b < s.heap.objs.size:=λb hb=>(List.mem_cons.mp hb).elim (λz=>z ▸ le) λz=>by rw[List.mem_singleton.mp z];exact li
  have I2:=Inv.nk (h':=h2) (t':=tk+1) (fp:=[e,it]) I1 (λb o' hb e'=>by
   have be:b≠e:=λz=>hb (by rw[z];exact aa6);have bi:b≠it:=λz=>hb (by rw[z];exact aab _ aa6);have e':(s.heap.push { cls:=.type "tuple",data:=.seq #[.int ((i+1:Nat):Int) tk,u'] }).get? b=aA o':=e';by_cases hbs:b=s.heap.objs.size
   ·subst hbs;rw[aI _ rfl] at e';cases e'
    exact (sb.2 _ be).trans ht1
   ·rw[fC _ _ _ hbs] at e';exact (sb.2 _ be).trans (hk1 b o' be bi e')) λb hb=>by
   obtain ⟨f0,f⟩:=hf b hb;exact ⟨(nup b (fpl b hb)).trans f0,f⟩
  exact ⟨.ref s.heap.objs.size,_,I2,rfl,⟨_,x,λys hy=>by rw[I.om hy hq];exact hx,hfr,rfl,rfl⟩,⟨⟨u',he2⟩,hit1.at λo' e'=>(sb.2 _ hne.symm).trans e'⟩,λb hb=>(nup b (fpl b hb)).trans (hf b hb).1⟩
 done:=by
  intro X hP hw hK hc i pins s σ H E I hf st hg;subst hP hw hK;obtain ⟨xs,hq,hx⟩:=hg;obtain ⟨⟨old,he⟩,st2⟩:=st;obtain ⟨its,rv,p,hz⟩:=I.tuple hq;have hl:=rv.length;obtain ⟨f0,f1,f2,f3,f4,f5⟩:=hf it `b;have hT:s.TypeIs (.ref e) "enumerate":=⟨_,he,rfl⟩;have hnone:its.toArray[i]?=none:=by simp;omega
  unfold cV;refine aC (dJ (bI (name:=aB "__next__") hT dE (bL dE hT hJ ?_ (gS _))));show aH _ _ (eB (.ref e) 2 >>=_) _ _ _
  refine aC (bC he rfl (x:=.ref it) rfl (aC (Hf.stop (b:=true) `aF ⟨st2,`V⟩ hnone λh' x eb ⟨o,ho,hc'⟩=>aC (dN (T:="StopIteration") (b:=true) ⟨o,ho,hc'⟩ fJ ?_))));exact aG ⟨rfl,I.turned (t':=s.toks) (λb o' hb e'=>eb b o' hb e') f0 f1 f3 f4 f5⟩
 self:=λ_ _ _ _ _ st h=>by
  obtain ⟨⟨old,he⟩,_⟩:=st;exact cT he h
theorem zf {K:aF} {a:Addr} {xs:List V} {g:TG} {tb:TS} {D:Ends} {σ:St} {H:Hp} (Pv:Nat→St→Hp→Prop) (h0:Pv 0 σ H) (hl:∀i σ H,i≤xs.length→Pv i σ H→SqT K H a xs)
  (hs:∀i x σ H p,xs[i]?=aA x→Pv i σ H→H p=none→g `a4 σ (upd H p `T) λσ2 H2=>tb { D with nx:=Pv (i+1),ct:=Pv (i+1),bk:=D.nx } σ2 H2) (hd:∀σ H,Pv xs.length σ H→D.nx σ H):zv g tb D (M8 K a) σ H:=by
 refine ⟨λi m σ H=>m=xs.length - i∧i≤xs.length∧Pv i σ H,⟨xs.length,by simp,aag _,h0⟩,?_⟩;rintro i m σ H ⟨rfl,hi,p⟩;have q:=hl i σ H hi p;by_cases hlt:i < xs.length
 ·refine .inr ⟨⟨xs,_,q,aa1 hlt⟩,Pv (i+1),λσ' H' p'=>⟨xs.length - (i+1),by omega,rfl,hlt,p'⟩,λx H' y=>?_⟩;obtain ⟨t,v,hv,hn,rfl,rfl⟩:=y;exact hs i v σ H t (hv xs q) p hn
 ·obtain rfl:i=xs.length:=by omega
  exact .inl ⟨⟨xs,q,aa3 _⟩,hd σ H p⟩
section
variable {X:Cx}
def Nk (K:aF) (ta:TA):TI:=λσ H R=>ta σ H λvs H1=>∃a xs,vs=[.ref a]∧((SqL K H1 a xs∧R (Ite1 K a) H1)∨(SqT K H1 a xs∧R (M8 K a) H1))
theorem Qs {a:Expr} {ta:TA} {p pos tpos cp kp:Pos} {elts:List Expr} {x1} {j} (hg:Gl X "enumerate") (hm:X.mg "enumerate"=none) (ha:PA X [a] ta) (hs:aZ [a] X.env=[(false,eval a X.env)]:=by rfl):PI X (.Tuple elts x1 tpos) (.Call (.Name "enumerate" p) [a] [⟨aA "start",.Constant (.int 1) j cp,kp⟩] pos) (Nk X.K ta):=by
 intro pins s σ H R I h;refine bW (gb I hg hm mx (Ck (thn `Y λus s1 ⟨vs,H1,I1,r1,q1⟩=>?_) (by rw[hs];rfl) (by rw[hs];rfl) rfl rfl));obtain ⟨l,xs,e,hq⟩:=q1;subst e;cases r1 with
 | cons r rr=>
  cases rr
  cases (show _=aY l from r)
  refine kws_cons (mU (kws_nil ?_));rcases hq with ⟨hq,q⟩ | ⟨hq,q⟩
  ·have I1:=I1.tok (s1.toks+1);obtain ⟨its,rv,pl,hz⟩:=I1.list hq;refine Ni (t:=s1.toks) pl.isList ?_;have hz1:(s1.heap.push (ik l)).objs.size=s1.heap.objs.size+1:=bB ..;have he:lL ((s1.heap.push (ik l)).push (ig s1.heap.objs.size)) (s1.heap.objs.size+1) s1.heap.objs.size ((0+1:Nat):Int) .none:=by
    have:=aI (s1.heap.push (ik l)) (o:=ig s1.heap.objs.size) rfl;rw[hz1] at this;exact this
   show aH _ _ (iO (.ref (s1.heap.push (ik l)).objs.size)) _ _ _
   rw[hz1];refine cT he ?_;have I2:=I1.kept (h':=(s1.heap.push (ik l)).push (ig s1.heap.objs.size)) (t':=s1.toks+1) λb o x=>aD _ (aD _ x);have ll:l < s1.heap.objs.size:=pl.lt;refine ⟨s1.heap.objs.size+1,[s1.heap.objs.size+1,s1.heap.objs.size],_,_,H1,rfl,I2,Io l _ _ (ad7 _) (ab4 (abw ll)) (aal ll),⟨⟨_,he⟩,⟨_,aD _ (aI _ rfl),rfl,rfl⟩⟩,λb hb=>?_,q⟩;rcases List.mem_cons.mp hb with z | z
   ·subst z;exact I1.kh (ab7 _) (I1.hok.fresh (ab7 _))
   ·rw[List.mem_singleton.mp z];exact I1.kh (aa3 _) `aB
  ·have I1:=I1.tok (s1.toks+1);obtain ⟨its,rv,pl,hz⟩:=I1.tuple hq;refine Rg (t:=s1.toks) (show s1.heap.IsTuple l its.toArray from pl) ?_;have hz1:(s1.heap.push (eh l)).objs.size=s1.heap.objs.size+1:=bB ..;have he:lL ((s1.heap.push (eh l)).push (ig s1.heap.objs.size)) (s1.heap.objs.size+1) s1.heap.objs.size ((0+1:Nat):Int) .none:=by
    have:=aI (s1.heap.push (eh l)) (o:=ig s1.heap.objs.size) rfl;rw[hz1] at this;exact this
   show aH _ _ (iO (.ref (s1.heap.push (eh l)).objs.size)) _ _ _
   rw[hz1];refine cT he ?_;have I2:=I1.kept (h':=(s1.heap.push (eh l)).push (ig s1.heap.objs.size)) (t':=s1.toks+1) λb o x=>aD _ (aD _ x);have ll:l < s1.heap.objs.size:=by obtain ⟨o,e,_⟩:=(show s1.heap.IsTuple l its.toArray from pl);exact aJ e
   refine ⟨s1.heap.objs.size+1,[s1.heap.objs.size+1,s1.heap.objs.size],_,_,H1,rfl,I2,Ea l _ _ (ad7 _) (ab4 (abw ll)) (aal ll),⟨⟨_,he⟩,⟨_,aD _ (aI _ rfl),rfl,rfl⟩⟩,λb hb=>?_,q⟩;rcases List.mem_cons.mp hb with z | z
   ·subst z;exact I1.kh (ab7 _) (I1.hok.fresh (ab7 _))
   ·rw[List.mem_singleton.mp z];exact I1.kh (aa3 _) `aB
end
end L2
namespace PySem
open Sem (wp)
open AutoSeq1 (wpAny_loadPart')
noncomputable def E6 (it:Addr):Obj:={ cls:=.type "enumerate",data:=.fields #[.none,.bool false,.ref it,bZ 0,.none,.none] }
theorem Mc (l:Addr) (items:Array Value) (n:Nat) (dct:Option Addr) (sl:Array (Option Value)):
  Meets (cN.«enumerate.__new__» ⟨[.type "enumerate",.ref l],[]⟩) (λ_ R s=>s.heap.get? l=aA { cls:=.type "tuple",dict:=dct,data:=.seq items n,slots:=sl }∧
   R (.ok (.ret `R)) { s with heap:=(s.heap.push (eh l)).push (E6 s.heap.objs.size) }):=
 .of_wp λprog w A R s h=>by
  obtain ⟨hp,g,d,tk,os⟩:=s;obtain ⟨hl,h⟩:=h;have hsb:=mK;have hLs:jH (fX ⟨hp,g,d,tk,os⟩) l items:=⟨_,hl,rfl,n,rfl⟩;wp_walk using wpAny_loadPart' hl
  refine jY λst=>aG ?_;split
  ·next c _ _ _ _ _=>
   cases (c==cX "enumerate") <;> (wp_walk using wpAny_loadPart' hl,dA hLs;exact ⟨_,rfl,h⟩)
  ·wp_walk using wpAny_loadPart' hl,dA hLs
   exact ⟨_,rfl,h⟩
section
variable {prog:aU} {w:bA} {A:bE} {E:Value→aE→Prop} {s:aE}
theorem Nn {l:Addr} {items:Array Value} {Q:Value→aE→Prop} (hL:s.heap.IsTuple l items)
  (h:Q `R { s with heap:=(s.heap.push (eh l)).push (E6 s.heap.objs.size) }):
  aH `e A (call (.type "enumerate") [.ref l]) Q E s:=by
 obtain ⟨⟨c,dct,dt,sl⟩,hl,hc,n,hd⟩:=hL;replace hc:c=.type "tuple":=hc
 replace hd:dt=.seq items n:=hd
 subst hc hd;exact nF iQ `a (F.typeCall_enumerate_1 _) (F.newCall_enumerate_1 _) (λobj=>F.args_object_init_2 obj _) iB (Mc l items n dct sl) ⟨hl,⟨_,aI _ rfl,rfl⟩,h⟩
end
end PySem
namespace L2
open PySem PySem.Spec PyProof.Rows L2.Zg
theorem Ut {prog:aU} {w:bA} {A:bE} (hh:A.handled=none) (it l:Addr) (hne:l≠it) (items:Array Value):
  Draws prog w A it [it,l] items.size (λi v=>items[i]?=aA v) (λi h=>h.IsTupleIter it l i∧h.IsTuple l items) where
 live:=λ_ _ ⟨⟨o,ho,_⟩,_⟩=>⟨o,ho⟩
 frame:=λ_ _ _ ⟨a,b⟩ hk=>⟨a.at λo e=>hk it aa6 o e,b.at λo e=>hk l (aab _ aa6) o e⟩
 item:=by
  rintro i s Q E hi ⟨a,b⟩ hQ;exact Hf.next (b:=true) ⟨a,b⟩ hne (aat hi) λh' ⟨a',b'⟩ hs=>hQ _ h' s.toks (aat hi) ⟨a',b'⟩ hs
 done:=by
  rintro s Q E ⟨a,b⟩ hE;exact Hf.stop (b:=true) hh ⟨a,b⟩ (abz (aa3 _)) hE
noncomputable def Nc (K:aF) (a:Addr):It:=
 ⟨λi H=>∃xs x,SqT K H a xs∧xs[i]?=aA x,λi H x H'=>∃p y,(∀xs,SqT K H a xs→xs[i]?=aA y)∧H p=none∧x=.ref p∧H'=upd H p (.tup [.int ((i:Nat):Int),y]),λi H=>∃xs,SqT K H a xs∧xs.length≤i⟩
theorem Gi {P:aU} {w:bA} {K:aF} {elts:List Expr} {x1} {tpos:Pos} (a it e:Addr) (hne:e≠it) (hea:e≠a) (hai:a≠it):Turn P w K (.Tuple elts x1 tpos) (Nc K a) [e,it] e (λi h=>(∃old,lL h e it ((i:Nat):Int) old)∧h.IsTupleIter it a i) where
 mem:=by simp
 obj:=λi h st b hb=>by
  obtain ⟨⟨old,he⟩,o',e',c',d'⟩:=st;rcases List.mem_cons.mp hb with rfl | z
  ·exact ⟨_,he,λv z=>by cases z⟩
  ·cases List.mem_singleton.mp z
   exact ⟨o',e',λv z=>by rw[d'] at z;cases z⟩
 keep:=λi h h' ⟨⟨old,he⟩,st2⟩ k=>⟨⟨old,k e `b _ he⟩,st2.at λo' e'=>k it `b o' e'⟩
 item:=by
  intro X hP hw hK hc i pins s σ H E I hf st hg;subst hP hw hK;obtain ⟨xs,x,hq,hx⟩:=hg;obtain ⟨⟨old,he⟩,st2⟩:=st;obtain ⟨its,rv,p,hz⟩:=I.tuple hq;obtain ⟨u,hu,ru⟩:=rv.get hx;have le:e < s.heap.objs.size:=aJ he;have li:it < s.heap.objs.size:=let ⟨_,e',_⟩:=st2;aJ e'
  have hil:i < its.toArray.size:=by
   have:=(List.getElem?_eq_some_iff.mp hu).1;simpa using this
  refine gR (Ut (A:=X.A.in1) `aF it a hai its.toArray) he ⟨st2,`V⟩ hil hne (λz=>by
   rcases List.mem_cons.mp z with z | z
   ·exact hne z
   ·exact hea (List.mem_singleton.mp z)) λu' h1 tk hP heo hst1 ht1 hz1 hk1=>⟨_,rfl,?_⟩
  have hu':=hP;obtain rfl:u'=u:=by
   have:its.toArray[i]?=aA u:=by simpa using hu
   exact aa7 (hu'.symm.trans this)
  obtain ⟨hit1,_⟩:=hst1;refine dS heo λh2 he2 sb=>?_;have sb:bF e h1 h2:=sb;have hfr:H s.heap.objs.size=none:=I.hok.fresh (aa3 _);have I1:Inv X pins σ (upd H s.heap.objs.size (.tup [.int ((i:Nat):Int),x])) { s with heap:=s.heap.push { cls:=.type "tuple",data:=.seq #[.int ((i:Nat):Int) tk,u'] },toks:=tk+1 }:=
   I.laid (t':=tk+1) (λb o' e'=>aD _ e') (aa3 _) (show bw X.prog X.w _ _ _ (.tup [.int ((i:Nat):Int),x]) from ⟨by show (2:Nat)≤sizeLine;decide,[.int ((i:Nat):Int) tk,u'],.cons ⟨_,rfl⟩ (.cons ru .nil),⟨_,aI _ rfl,rfl,_,rfl,rfl⟩⟩)
  have nup:∀b,b < s.heap.objs.size→(upd H s.heap.objs.size (.tup [.int ((i:Nat):Int),x])) b=H b:=λb hb=>ak (aal hb);have fpl:∀b∈[e,it],b < s.heap.objs.size:=λb hb=>(List.mem_cons.mp hb).elim (λz=>z ▸ le) λz=>by rw[List.mem_singleton.mp z];exact li
  have I2:=Inv.nk (h':=h2) (t':=tk+1) (fp:=[e,it]) I1 (λb o' hb e'=>by
   have be:b≠e:=λz=>hb (by rw[z];exact aa6);have bi:b≠it:=λz=>hb (by rw[z];exact aab _ aa6);have e':(s.heap.push { cls:=.type "tuple",data:=.seq #[.int ((i:Nat):Int) tk,u'] }).get? b=aA o':=e';by_cases hbs:b=s.heap.objs.size
   ·subst hbs;rw[aI _ rfl] at e';cases e'
    exact (sb.2 _ be).trans ht1
   ·rw[fC _ _ _ hbs] at e';exact (sb.2 _ be).trans (hk1 b o' be bi e')) λb hb=>by
   obtain ⟨f0,f⟩:=hf b hb;exact ⟨(nup b (fpl b hb)).trans f0,f⟩
  exact ⟨.ref s.heap.objs.size,_,I2,rfl,⟨_,x,λys hy=>by rw[I.om hy hq];exact hx,hfr,rfl,rfl⟩,⟨⟨u',he2⟩,hit1.at λo' e'=>(sb.2 _ hne.symm).trans e'⟩,λb hb=>(nup b (fpl b hb)).trans (hf b hb).1⟩
 done:=by
  intro X hP hw hK hc i pins s σ H E I hf st hg;subst hP hw hK;obtain ⟨xs,hq,hx⟩:=hg;obtain ⟨⟨old,he⟩,st2⟩:=st;obtain ⟨its,rv,p,hz⟩:=I.tuple hq;have hl:=rv.length;obtain ⟨f0,f1,f2,f3,f4,f5⟩:=hf it `b;have hT:s.TypeIs (.ref e) "enumerate":=⟨_,he,rfl⟩;have hnone:its.toArray[i]?=none:=by simp;omega
  unfold cV;refine aC (dJ (bI (name:=aB "__next__") hT dE (bL dE hT hJ ?_ (gS _))));show aH _ _ (eB (.ref e) 2 >>=_) _ _ _
  refine aC (bC he rfl (x:=.ref it) rfl (aC (Hf.stop (b:=true) `aF ⟨st2,`V⟩ hnone λh' x eb ⟨o,ho,hc'⟩=>aC (dN (T:="StopIteration") (b:=true) ⟨o,ho,hc'⟩ fJ ?_))));exact aG ⟨rfl,I.turned (t':=s.toks) (λb o' hb e'=>eb b o' hb e') f0 f1 f3 f4 f5⟩
 self:=λ_ _ _ _ _ st h=>by
  obtain ⟨⟨old,he⟩,_⟩:=st;exact cT he h
def Jv (K:aF) (ta:TA):TI:=λσ H R=>ta σ H λvs H1=>∃a xs,vs=[.ref a]∧SqT K H1 a xs∧R (Nc K a) H1
theorem Eg {K:aF} {a:Addr} {xs:List V} {g:TG} {tb:TS} {D:Ends} {σ:St} {H:Hp} (Pv:Nat→St→Hp→Prop) (h0:Pv 0 σ H) (hl:∀i σ H,i≤xs.length→Pv i σ H→SqT K H a xs)
  (hs:∀i x σ H p,xs[i]?=aA x→Pv i σ H→H p=none→g `a4 σ (upd H p (.tup [.int ((i:Nat):Int),x])) λσ2 H2=>tb { D with nx:=Pv (i+1),ct:=Pv (i+1),bk:=D.nx } σ2 H2) (hd:∀σ H,Pv xs.length σ H→D.nx σ H):zv g tb D (Nc K a) σ H:=by
 refine ⟨λi m σ H=>m=xs.length - i∧i≤xs.length∧Pv i σ H,⟨xs.length,by simp,aag _,h0⟩,?_⟩;rintro i m σ H ⟨rfl,hi,p⟩;have q:=hl i σ H hi p;by_cases hlt:i < xs.length
 ·refine .inr ⟨⟨xs,_,q,aa1 hlt⟩,Pv (i+1),λσ' H' p'=>⟨xs.length - (i+1),by omega,rfl,hlt,p'⟩,λx H' y=>?_⟩;obtain ⟨t,v,hv,hn,rfl,rfl⟩:=y;exact hs i v σ H t (hv xs q) p hn
 ·obtain rfl:i=xs.length:=by omega
  exact .inl ⟨⟨xs,q,aa3 _⟩,hd σ H p⟩
section
variable {X:Cx}
theorem Lk {a:Expr} {ta:TA} {p pos tpos:Pos} {elts:List Expr} {x1} (hg:Gl X "enumerate") (hm:X.mg "enumerate"=none) (ha:PA X [a] ta) (hs:aZ [a] X.env=[(false,eval a X.env)]:=by rfl):PI X (.Tuple elts x1 tpos) (.Call (.Name "enumerate" p) [a] [] pos) (Jv X.K ta):=by
 intro pins s σ H R I h;refine Call_ (gb I hg hm mx (bH (thn `Y λus s1 ⟨vs,H1,I1,r1,q1⟩=>?_) hs rfl));obtain ⟨l,xs,e,hq,q⟩:=q1;subst e;cases r1 with
 | cons r rr=>
  cases rr
  cases (show _=aY l from r)
  obtain ⟨its,rv,pl,hz⟩:=I1.tuple hq;refine Nn (show s1.heap.IsTuple l its.toArray from pl) ?_;have hz1:(s1.heap.push (eh l)).objs.size=s1.heap.objs.size+1:=bB ..;have he:lL ((s1.heap.push (eh l)).push (E6 s1.heap.objs.size)) (s1.heap.objs.size+1) s1.heap.objs.size ((0:Nat):Int) .none:=by
   have:=aI (s1.heap.push (eh l)) (o:=E6 s1.heap.objs.size) rfl;rw[hz1] at this;exact this
  show aH _ _ (iO (.ref (s1.heap.push (eh l)).objs.size)) _ _ _
  rw[hz1];refine cT he ?_;have I2:=I1.kept (h':=(s1.heap.push (eh l)).push (E6 s1.heap.objs.size)) (t':=s1.toks) λb o x=>aD _ (aD _ x);have ll:l < s1.heap.objs.size:=by obtain ⟨o,e,_⟩:=(show s1.heap.IsTuple l its.toArray from pl);exact aJ e
  refine ⟨s1.heap.objs.size+1,[s1.heap.objs.size+1,s1.heap.objs.size],_,_,H1,rfl,I2,Gi l _ _ (ad7 _) (ab4 (abw ll)) (aal ll),⟨⟨_,he⟩,⟨_,aD _ (aI _ rfl),rfl,rfl⟩⟩,λb hb=>?_,q⟩;rcases List.mem_cons.mp hb with z | z
  ·subst z;exact I1.kh (ab7 _) (I1.hok.fresh (ab7 _))
  ·rw[List.mem_singleton.mp z];exact I1.kh (aa3 _) `aB
end
end L2
namespace L2
open PySem PySem.Spec PyProof.Rows
abbrev TFx:=St→Hp→Str→(Str→Hp→Prop)→Prop
def PFx (X:Cx) (es:List Expr) (n:Nat) (t:TFx):Prop:=
 ∀(pins:List (Addr×Obj)) (s:aE) (σ:St) (H:Hp) (Q:Str→Hp→Prop) (acc:Str),Inv X pins σ H s→acc.length+n≤sizeLine→t σ H acc Q→
  Joins `d X.A X.xe (evalEach es X.env) acc (λout s1=>out.length≤sizeLine∧∃H1,Inv X pins σ H1 s1∧Q out H1) s
noncomputable def tX0:TFx:=λ_ H acc Q=>Q acc H
noncomputable def tXS (tv:TE) (t:TFx):TFx:=λσ H acc Q=>tv σ H λx H1=>∃z,x=.str z∧z.length≤1000∧t σ H1 (acc++z) Q
noncomputable def tXI (tv:TE) (t:TFx):TFx:=λσ H acc Q=>tv σ H λx H1=>∃a:Int,x=.int a∧a.natAbs.log2 < 1920∧t σ H1 (acc++aB (toString a)) Q
def tFx (t:TFx):TE:=λσ H Q=>t σ H gD λo H1=>Q (.str o) H1
section
variable {X:Cx} {v e1 e2:Expr} {es:List Expr} {tv:TE} {t:TFx} {p pos:Pos} {n:Nat}
theorem px_nil:PFx X [] 0 tX0:=λpins s σ H Q acc I ha h=>⟨ha,H,I,h⟩
theorem px_s (hv:PE X v tv) (r:PFx X es n t):PFx X (.FormattedValue v (-1) none p::es) (1000+n) (tXS tv t):=λpins s σ H Q acc I ha h=>by
 refine fT (thn (hv pins s σ H _ I h) λu s1 ⟨x,H1,I1,r1,z,e,hl,q⟩=>?_);subst e;obtain ⟨t,rfl⟩:=r1;have sz:=aQ;exact jX (λt' tk=>⟨_,t',rfl,by rw[cD];omega,r pins _ σ H1 Q _ (I1.tok _) (by rw[cD];omega) q⟩) (by omega)
theorem px_i (hv:PE X v tv) (r:PFx X es n t):PFx X (.FormattedValue v (-1) none p::es) (2000+n) (tXI tv t):=λpins s σ H Q acc I ha h=>by
 refine fT (thn (hv pins s σ H _ I h) λu s1 ⟨x,H1,I1,r1,a,e,hl,q⟩=>?_);subst e;obtain ⟨t,rfl⟩:=r1;have hx:(aB (toString a)).length≤1921:=by rw[lP];exact nI `a hl
 have sz:=aQ;refine lQ hl ?_;exact ⟨_,_,rfl,by rw[cD];show _+(aB (toString a)).length≤_;omega,r pins _ σ H1 Q _ (I1.tok _) (by rw[cD];show _+(aB (toString a)).length+_≤_;omega) q⟩
theorem Uv (h:PFx X (e1::e2::es) n t) (hn:n≤1000000:=by decide):PE X (.JoinedStr (e1::e2::es) pos) (tFx t):=by
 intro pins s σ H Q I hq;have sz:=aQ;refine jW ?_;have:=h pins s σ H _ gD I (by show 0+n≤_;omega) hq;have mono:∀(xs:List (Sem Value)) (acc:Str) (Q Q':Str→aE→Prop) (s:aE),(∀o s,Q o s→Q' o s)→Joins `d X.A X.xe xs acc Q s→Joins `d X.A X.xe xs acc Q' s:=by
  intro xs;induction xs with
  | nil=>intro acc Q Q' s hQ h;exact hQ _ _ h
  | cons x r ih=>intro acc Q Q' s hQ h;exact thn h λu s1 ⟨y,t,e,hl,hj⟩=>⟨y,t,e,hl,ih _ _ _ _ hQ hj⟩
 exact mono _ _ _ _ _ (λo s1 ⟨hl,H1,I1,q⟩=>⟨hl,.str o,H1,I1.tok _,⟨_,rfl⟩,q⟩) this
end
end L2
namespace L2.Zg
open PySem L2.Zd
structure Hs (it l:Addr) (XS:Str) (XT:Tok) (k:Nat) (h:Heap):Prop where
 st:h.IsStrIter it "str_ascii_iterator" XS XT k
theorem Hs.keep {it l:Addr} {XS:Str} {XT:Tok} {k:Nat} {h h':Heap} (x:Hs it l XS XT k h) (g1:∀o,h.get? it=aA o→h'.get? it=aA o) (g2:∀o,h.get? l=aA o→h'.get? l=aA o):Hs it l XS XT k h':=by
 obtain ⟨⟨o,e,r⟩⟩:=x;exact ⟨⟨o,g1 _ e,r⟩⟩
section
variable {prog:aU} {w:bA} {A:bE} {E:Value→aE→Prop} {s:aE}
theorem Hs.next {it l:Addr} {XS:Str} {XT:Tok} {k ch:Nat} {v:Value} {Q:Value→aE→Prop} (x:Hs it l XS XT k s.heap) (hne:l≠it) (hx:XS.cps[k]?=aA ch) (ex:v=.str ⟨#[ch]⟩ s.toks)
  (hQ:∀h',Hs it l XS XT (k+1) h'→bF it s.heap h'→Q v { s with heap:=h',toks:=s.toks+1 }):aH `e A (aX (.ref it)) Q E s:=
 wpAny_nextOf_ascii_item x.st hx λh' a b=>by rw[←ex];exact hQ h' ⟨a⟩ b
theorem Hs.stop {it l:Addr} {XS:Str} {XT:Tok} {k:Nat} {Q:Value→aE→Prop} (hh:A.handled=none) (x:Hs it l XS XT k s.heap) (hx:XS.cps[k]?=none)
  (hE:∀h' e,Heap.ExtBut it s.heap h'→(∃o,h'.get? e=aA o∧o.cls=.type "StopIteration")→E (.ref e) { s with heap:=h' }):aH `e A (aX (.ref it)) Q E s:=
 wpAny_nextOf_ascii_end hh x.st hx hE
end
def ZsS (z TI TO i1 i2 l1 l2:Addr) (XS:Str) (XT:Tok) (ys:Array Value) (i:Nat) (h:Heap):Prop:=
 (∃f0 b,IsZ h z TI TO f0 (.bool b)∧(f0=.none∨∃T:Addr,f0=bZ T))∧(∃a b,bX h TO a b)∧bX h TI (.ref i1) (.ref i2)∧Hs i1 l1 XS XT i h∧Hf true i2 l2 ys i h
section
variable {prog:aU} {w:bA} {A:bE} {E:Value→aE→Prop} {s:aE} {z TI TO i1 i2 l1 l2:Addr} {XS:Str} {XT:Tok} {ys:Array Value} {i:Nat}
theorem itemS {ch:Nat} {x y:Value} {Q:Value→aE→Prop} (D:cZ z TI TO i1 i2 l1 l2) (hz:ZsS z TI TO i1 i2 l1 l2 XS XT ys i s.heap) (hx:XS.cps[i]?=aA ch) (ex:x=.str ⟨#[ch]⟩ s.toks) (hy:ys[i]?=aA y)
  (hQ:∀h',ZsS z TI TO i1 i2 l1 l2 XS XT ys (i+1) h'→bX h' s.heap.objs.size x y→h'.objs.size=s.heap.objs.size+1→(∀c o,c≠z→c≠TO→c≠i1→c≠i2→s.heap.get? c=aA o→h'.get? c=aA o)→Q `m { s with heap:=h',toks:=s.toks+1 }):
  aH `e A `ac (λfin s'=>∃v,fin=.done (.ret v)∧Q v s') E s:=by
 obtain ⟨⟨f0,b,z0,hf⟩,⟨p,q,hTO⟩,hTI,h1,h2⟩:=hz;show aH _ _ (eB `p 2 >>=_) _ _ _
 refine aC (bC z0 rfl (x:=.bool false) rfl ?_);show aH _ _ (eB `p 3 >>=_) _ _ _
 refine aC (bC z0 rfl (x:=.ref TI) rfl ?_);refine aC (bQ hTI rfl ?_);show aH _ _ (bD `p >>=_) _ _ _
 refine aC (free z0 hf λr h₁ b1 z1 s1=>?_);have k1:∀c o,c≠z→s.heap.get? c=aA o→h₁.get? c=aA o:=λc o n e=>s1.extBut _ _ n e;have H1:=h1.keep (λo e=>k1 _ o D.i1z e) λo e=>k1 _ o D.l1z e;have H2:=h2.keep (λo e=>k1 _ o D.i2z e) λo e=>k1 _ o D.l2z e;cases r with
 | false=>
  simp only[abi,if_false];refine aC ?_;rw[←ac8];simp only[abq,abo];refine aC (aC (bK ?_));show aH _ _ (aX (.ref i1) >>=_) _ _ _
  refine aC (H1.next (s:={ s with heap:=h₁ }) D.l1i1 hx ex λh₂ H1' s2=>aG (aG ?_));have s2:bF i1 h₁ h₂:=s2;have H2':=H2.keep (λo e=>s2.extBut _ _ D.i12.symm e) λo e=>s2.extBut _ _ D.l2i1 e;refine aC (aC (bK ?_));show aH _ _ (aX (.ref i2) >>=_) _ _ _
  refine aC (H2'.next (s:={ s with heap:=h₂,toks:=s.toks+1 }) D.l2i2 hy λh₃ H2'' s3=>aG (aG (aG ?_)));have s3:bF i2 h₂ h₃:=s3;refine aC (gN (hsz:=by show (2:Nat)≤sizeLine;decide) ?_);have sz:h₃.objs.size=s.heap.objs.size:=by rw[s3.1,s2.1,s1.1]
  have up:∀c o,c≠z→c≠i1→c≠i2→s.heap.get? c=aA o→(h₃.push { cls:=.type "tuple",data:=.seq #[x,y] }).get? c=aA o:=λc o n1 n2 n3 e=>aD _ (s3.extBut _ _ n3 (s2.extBut _ _ n2 (s1.extBut _ _ n1 e)));refine aG ⟨_,rfl,?_⟩;rw[sz];refine hQ _ ⟨⟨f0,b1,aD _ (s3.extBut _ _ D.i2z.symm (s2.extBut _ _ D.i1z.symm z1)),hf⟩,⟨p,q,up _ _ D.TOz D.TOi1 D.TOi2 hTO⟩,up _ _ D.TIz D.TIi1 D.TIi2 hTI,?_,H2''.keep (λo e=>aD _ e) λo e=>aD _ e⟩ ?_ (by rw[bB,sz]) λc o n1 _ n3 n4 e=>up c o n1 n3 n4 e
  ·exact H1'.keep (λo e=>aD _ (s3.extBut _ _ D.i12 e)) λo e=>aD _ (s3.extBut _ _ D.l1i2 e)
  ·rw[←sz];exact aI _ rfl
 | true=>
  simp only[if_true];refine aC (eU ?_);refine aC (bC z1 rfl (x:=.ref TO) rfl ?_);refine aC (bT z1 `b λh₂ z2 s2=>?_);replace z2:IsZ h₂ z TI TO .ellipsis (.bool b1):=z2
  have s2:bF z h₁ h₂:=s2;refine aC ?_;simp only[ad8,adj,abq,abo];have H1a:=H1.keep (λo e=>s2.extBut _ _ D.i1z e) λo e=>s2.extBut _ _ D.l1z e;have H2a:=H2.keep (λo e=>s2.extBut _ _ D.i2z e) λo e=>s2.extBut _ _ D.l2z e;refine aC (aC (eP ?_));show aH _ _ (aX (.ref i1) >>=_) _ _ _
  refine aC (H1a.next (s:={ s with heap:=h₂ }) D.l1i1 hx ex λh₃ H1b s3=>aG ?_);have s3:bF i1 h₂ h₃:=s3;have o3:bX h₃ TO p q:=s3.extBut _ _ D.TOi1 (s2.extBut _ _ D.TOz (k1 _ _ D.TOz hTO));refine aC (bQ o3 rfl ?_);refine aC (fP o3 λh₄ o4 s4=>?_);replace o4:bX h₄ TO x q:=o4
  have s4:bF TO h₃ h₄:=s4;refine aC (fW (aG ?_));have H2b:=H2a.keep (λo e=>s4.extBut _ _ D.TOi2.symm (s3.extBut _ _ D.i12.symm e)) λo e=>s4.extBut _ _ D.l2TO (s3.extBut _ _ D.l2i1 e);refine aC (aC (eP ?_));show aH _ _ (aX (.ref i2) >>=_) _ _ _
  refine aC (H2b.next (s:={ s with heap:=h₄,toks:=s.toks+1 }) D.l2i2 hy λh₅ H2c s5=>aG ?_);have s5:bF i2 h₄ h₅:=s5;have o5:bX h₅ TO x q:=s5.extBut _ _ D.TOi2 o4;refine aC (bQ o5 rfl ?_);refine aC (fP o5 λh₆ o6 s6=>?_);replace o6:bX h₆ TO x y:=o6
  have s6:bF TO h₅ h₆:=s6;refine aC (fW (aG (aG ?_)));refine aC (bQ o6 rfl ?_);refine aC (gN ?_);have sz:h₆.objs.size=s.heap.objs.size:=by rw[s6.1,s5.1,s4.1,s3.1,s2.1,s1.1]
  have z6:IsZ h₆ z TI TO .ellipsis (.bool b1):=s6.extBut _ _ D.TOz.symm (s5.extBut _ _ D.i2z.symm (s4.extBut _ _ D.TOz.symm (s3.extBut _ _ D.i1z.symm z2)));have up:∀c o,c≠z→c≠TO→c≠i1→c≠i2→s.heap.get? c=aA o→h₆.get? c=aA o:=λc o n1 n2 n3 n4 e=>s6.extBut _ _ n2 (s5.extBut _ _ n4 (s4.extBut _ _ n2 (s3.extBut _ _ n3 (s2.extBut _ _ n1 (k1 _ _ n1 e)))));have H1c:=H1b.keep (λo e=>s6.extBut _ _ D.TOi1.symm (s5.extBut _ _ D.i12 (s4.extBut _ _ D.TOi1.symm e))) λo e=>s6.extBut _ _ D.l1TO (s5.extBut _ _ D.l1i2 (s4.extBut _ _ D.l1TO e));have H2d:=H2c.keep (λo e=>s6.extBut _ _ D.TOi2.symm e) λo e=>s6.extBut _ _ D.l2TO e;have zl:z < h₆.objs.size:=aJ z6;show aH _ _ (cS `p (.ref h₆.objs.size) >>=_) _ _ _
  refine aC ?_;unfold cS;have z7:IsZ (h₆.push { cls:=.type "tuple",data:=.seq #[x,y] }) z TI TO .ellipsis (.bool b1):=aD _ z6;refine aC (bT z7 `b λh₈ z8 s8=>?_);replace z8:IsZ h₈ z TI TO (bZ h₆.objs.size) (.bool b1):=z8
  refine bT z8 `b λh₉ z9 s9=>?_;replace z9:IsZ h₉ z TI TO (bZ h₆.objs.size) (.bool false):=z9
  have u9:∀c o,c≠z→h₆.get? c=aA o→h₉.get? c=aA o:=λc o n e=>s9.extBut _ _ n (s8.extBut _ _ n (aD _ e));have t9:bX h₉ h₆.objs.size x y:=s9.extBut _ _ (ab4 zl) (s8.extBut _ _ (ab4 zl) (aI _ rfl));have n9:h₉.objs.size=h₆.objs.size+1:=by rw[s9.1,s8.1,bB]
  rw[sz] at z9 t9 n9;refine aG ⟨_,rfl,?_⟩;show Q (.ref h₆.objs.size) _
  rw[sz];exact hQ h₉ ⟨⟨_,false,z9,.inr ⟨_,rfl⟩⟩,⟨x,y,u9 _ _ D.TOz o6⟩,u9 _ _ D.TIz (up _ _ D.TIz D.TITO D.TIi1 D.TIi2 hTI),H1c.keep (λo e=>u9 _ o D.i1z e) λo e=>u9 _ o D.l1z e,H2d.keep (λo e=>u9 _ o D.i2z e) λo e=>u9 _ o D.l2z e⟩ t9 n9 λc o n1 n2 n3 n4 e=>u9 c o n1 (up c o n1 n2 n3 n4 e)
theorem finS {Q:Fin→aE→Prop} (hh:A.handled=none) (D:cZ z TI TO i1 i2 l1 l2) (hz:ZsS z TI TO i1 i2 l1 l2 XS XT ys i s.heap) (hx:XS.cps[i]?=none)
  (hE:∀h' e,(∀c o,c≠z→c≠TO→c≠i1→c≠i2→s.heap.get? c=aA o→h'.get? c=aA o)→(∃o,h'.get? e=aA o∧o.cls=.type "StopIteration")→E (.ref e) { s with heap:=h' }):
  aH `e A `ac Q E s:=by
 obtain ⟨⟨f0,b,z0,hf⟩,⟨p,q,hTO⟩,hTI,h1,h2⟩:=hz;show aH _ _ (eB `p 2 >>=_) _ _ _
 refine aC (bC z0 rfl (x:=.bool false) rfl ?_);show aH _ _ (eB `p 3 >>=_) _ _ _
 refine aC (bC z0 rfl (x:=.ref TI) rfl ?_);refine aC (bQ hTI rfl ?_);show aH _ _ (bD `p >>=_) _ _ _
 refine aC (free z0 hf λr h₁ b1 z1 s1=>?_);have k1:∀c o,c≠z→s.heap.get? c=aA o→h₁.get? c=aA o:=λc o n e=>s1.extBut _ _ n e;have H1:=h1.keep (λo e=>k1 _ o D.i1z e) λo e=>k1 _ o D.l1z e;cases r with
 | false=>
  simp only[abi,if_false];refine aC ?_;rw[←ac8];simp only[abq,abo];refine aC (aC (bK ?_));show aH _ _ (aX (.ref i1) >>=_) _ _ _
  exact aC (H1.stop (s:={ s with heap:=h₁ }) hh hx λh₂ e s2 he=>hE h₂ e (λc o n1 _ n3 _ g=>s2 _ _ n3 (k1 _ _ n1 g)) he)
 | true=>
  simp only[if_true];refine aC (eU ?_);refine aC (bC z1 rfl (x:=.ref TO) rfl ?_);refine aC (bT z1 `b λh₂ z2 s2=>?_);replace z2:IsZ h₂ z TI TO .ellipsis (.bool b1):=z2
  have s2:bF z h₁ h₂:=s2;refine aC ?_;simp only[ad8,adj,abq,abo];have H1a:=H1.keep (λo e=>s2.extBut _ _ D.i1z e) λo e=>s2.extBut _ _ D.l1z e;refine aC (aC (eP ?_));show aH _ _ (aX (.ref i1) >>=_) _ _ _
  refine aC (H1a.stop (s:={ s with heap:=h₂ }) hh hx λh₃ e s3 he=>?_);obtain ⟨oe,hoe,hce⟩:=he;have z3:IsZ h₃ z TI TO .ellipsis (.bool b1):=s3 _ _ D.i1z.symm z2;have hez:e≠z:=λx=>by subst x;rw[z3] at hoe;cases hoe;simp at hce
  exact bT z3 `b λh₄ _ s4=>hE h₄ e (λc o n1 _ n3 _ g=>s4.extBut _ _ n1 (s3 _ _ n3 (s2.extBut _ _ n1 (k1 _ _ n1 g)))) ⟨oe,s4.extBut _ _ hez hoe,hce⟩
theorem Tn {ch:Nat} {x y:Value} {Q:Option Value→aE→Prop} (D:cZ z TI TO i1 i2 l1 l2) (hz:ZsS z TI TO i1 i2 l1 l2 XS XT ys i s.heap) (hx:XS.cps[i]?=aA ch) (ex:x=.str ⟨#[ch]⟩ s.toks) (hy:ys[i]?=aA y)
  (hQ:∀h',ZsS z TI TO i1 i2 l1 l2 XS XT ys (i+1) h'→bX h' s.heap.objs.size x y→h'.objs.size=s.heap.objs.size+1→(∀c o,c≠z→c≠TO→c≠i1→c≠i2→s.heap.get? c=aA o→h'.get? c=aA o)→Q (aA `m) { s with heap:=h',toks:=s.toks+1 }):
  aH `e A (cV `p) Q E s:=by
 have hT:s.TypeIs `p "zip":=by obtain ⟨⟨f0,b,z0,_⟩,_⟩:=hz;exact ⟨_,z0,rfl⟩
 unfold cV;exact aC (dJ (bI (name:=aB "__next__") hT bY (bL bY hT eJ (itemS D hz hx ex hy λh' a b c d=>aG (hQ h' a b c d)) (dX _))))
theorem pyFinS {Q:Option Value→aE→Prop} (hh:A.handled=none) (D:cZ z TI TO i1 i2 l1 l2) (hz:ZsS z TI TO i1 i2 l1 l2 XS XT ys i s.heap) (hx:XS.cps[i]?=none)
  (hQ:∀h',(∀c o,c≠z→c≠TO→c≠i1→c≠i2→s.heap.get? c=aA o→h'.get? c=aA o)→Q none { s with heap:=h' }):aH `e A (cV `p) Q E s:=by
 have hT:s.TypeIs `p "zip":=by obtain ⟨⟨f0,b,z0,_⟩,_⟩:=hz;exact ⟨_,z0,rfl⟩
 unfold cV;refine aC (dJ (bI (name:=aB "__next__") hT bY (bL bY hT eJ (finS (by first | exact hh | simp[hh]) D hz hx λh' e hk he=>?_) (dX _))));obtain ⟨o,ho,hc⟩:=he;refine aC (dN (T:="StopIteration") (b:=true) ⟨o,ho,hc⟩ fJ ?_);exact aG (hQ _ hk)
theorem Uo {Q:Value→aE→Prop} (hz:ZsS z TI TO i1 i2 l1 l2 XS XT ys i s.heap) (h:Q `p s):aH `e A (iO `p) Q E s:=by
 have hT:s.TypeIs `p "zip":=by obtain ⟨⟨f0,b,z0,_⟩,_⟩:=hz;exact ⟨_,z0,rfl⟩
 refine gU hT dH (bL dH hT hZ ?_ (gV _));show aH _ _ (ret `p) _ _ s
 exact aG ⟨_,rfl,"zip",_,hT,F.slot_zip_next.lookup,h⟩
end
theorem new_st (XS:Str) (XT:Tok) (ha:XS.cps.all (· < 128)=true) (l2:Addr) (ys:Array Value):
  Meets (cN.«zip.__new__» ⟨[.type "zip",.str XS XT,.ref l2],[]⟩) (λ_ R s=>s.heap.IsTuple l2 ys∧
   R (.ok (.ret `bb)) { s with heap:=((((s.heap.push { cls:=.type "str_ascii_iterator",data:=.fields #[.str XS XT,.int 0 0] }).push { cls:=.type "tuple_iterator",data:=.fields #[.ref l2,.int 0 0] }).push { cls:=.type "tuple",data:=.seq #[.ref s.heap.objs.size,.ref (s.heap.objs.size+1)] }).push { cls:=.type "tuple",data:=.seq #[.none,.none] }).push { cls:=.type "zip",data:=.fields #[.none,.bool false,.bool false,.ref (s.heap.objs.size+2),.ref (s.heap.objs.size+3)] } }):=
 .of_wp λprog w A R s h=>by
  obtain ⟨hp,g,d,tk,os⟩:=s;obtain ⟨hl2,h⟩:=h;have hsub:=sub_zip;have hL2:jH (fX ⟨hp.push { cls:=.type "str_ascii_iterator",data:=.fields #[.str XS XT,.int 0 0] },g,d,tk,os⟩) l2 ys:=Heap.IsTuple.push hl2 _;simp only[←bB] at h;wp_walk using wpAny_pyIter_ascii ha,dA hL2
  simp only[bB] at h ⊢;exact ⟨_,rfl,h⟩
section
variable {prog:aU} {w:bA} {A:bE} {E:Value→aE→Prop} {s:aE}
theorem Tx {XS:Str} {XT:Tok} {l2:Addr} {ys:Array Value} {Q:Value→aE→Prop} (ha:XS.cps.all (· < 128)=true) (hl2:s.heap.IsTuple l2 ys)
  (h:∀h',ZsS (s.heap.objs.size+4) (s.heap.objs.size+2) (s.heap.objs.size+3) s.heap.objs.size (s.heap.objs.size+1) l2 l2 XS XT ys 0 h'→h'.objs.size=s.heap.objs.size+5→
   (∀c o,s.heap.get? c=aA o→h'.get? c=aA o)→Q `bb { s with heap:=h' }):
  aH `e A (call (.type "zip") [.str XS XT,.ref l2]) Q E s:=by
 refine nF F.called_zip `a (F.typeCall_zip_2 _ _) (F.newCall_zip_2 _ _) (λobj=>lY obj _ _) F.entry_zip_new (new_st XS XT ha l2 ys) ⟨hl2,?_⟩;generalize hn:s.heap.objs.size=n at h ⊢;have e1:(s.heap.push { cls:=.type "str_ascii_iterator",data:=.fields #[.str XS XT,.int 0 0] }).get? n=aA { cls:=.type "str_ascii_iterator",data:=.fields #[.str XS XT,.int 0 0] }:=by rw[←hn];exact aI _ rfl
 have n1:(s.heap.push { cls:=.type "str_ascii_iterator",data:=.fields #[.str XS XT,.int 0 0] }).objs.size=n+1:=by rw[bB,hn]
 have k1:∀c o,s.heap.get? c=aA o→(s.heap.push { cls:=.type "str_ascii_iterator",data:=.fields #[.str XS XT,.int 0 0] }).get? c=aA o:=λc o e=>aD _ e;generalize s.heap.push { cls:=.type "str_ascii_iterator",data:=.fields #[.str XS XT,.int 0 0] }=h1 at e1 n1 k1 ⊢;have e2:(h1.push { cls:=.type "tuple_iterator",data:=.fields #[.ref l2,.int 0 0] }).get? (n+1)=aA { cls:=.type "tuple_iterator",data:=.fields #[.ref l2,.int 0 0] }:=by rw[←n1];exact aI _ rfl
 have n2:(h1.push { cls:=.type "tuple_iterator",data:=.fields #[.ref l2,.int 0 0] }).objs.size=n+2:=by rw[bB,n1]
 have k2:∀c o,h1.get? c=aA o→(h1.push { cls:=.type "tuple_iterator",data:=.fields #[.ref l2,.int 0 0] }).get? c=aA o:=λc o e=>aD _ e;generalize h1.push { cls:=.type "tuple_iterator",data:=.fields #[.ref l2,.int 0 0] }=h2 at e2 n2 k2 ⊢;have e3:(h2.push { cls:=.type "tuple",data:=.seq #[.ref n,.ref (n+1)] }).get? (n+2)=aA { cls:=.type "tuple",data:=.seq #[.ref n,.ref (n+1)] }:=by rw[←n2];exact aI _ rfl
 have n3:(h2.push { cls:=.type "tuple",data:=.seq #[.ref n,.ref (n+1)] }).objs.size=n+3:=by rw[bB,n2]
 have k3:∀c o,h2.get? c=aA o→(h2.push { cls:=.type "tuple",data:=.seq #[.ref n,.ref (n+1)] }).get? c=aA o:=λc o e=>aD _ e;generalize h2.push { cls:=.type "tuple",data:=.seq #[.ref n,.ref (n+1)] }=h3 at e3 n3 k3 ⊢;have e4:(h3.push { cls:=.type "tuple",data:=.seq #[.none,.none] }).get? (n+3)=aA { cls:=.type "tuple",data:=.seq #[.none,.none] }:=by rw[←n3];exact aI _ rfl
 have n4:(h3.push { cls:=.type "tuple",data:=.seq #[.none,.none] }).objs.size=n+4:=by rw[bB,n3]
 have k4:∀c o,h3.get? c=aA o→(h3.push { cls:=.type "tuple",data:=.seq #[.none,.none] }).get? c=aA o:=λc o e=>aD _ e;generalize h3.push { cls:=.type "tuple",data:=.seq #[.none,.none] }=h4 at e4 n4 k4 ⊢;have e5:(h4.push { cls:=.type "zip",data:=.fields #[.none,.bool false,.bool false,.ref (n+2),.ref (n+3)] }).get? (n+4)=aA { cls:=.type "zip",data:=.fields #[.none,.bool false,.bool false,.ref (n+2),.ref (n+3)] }:=by rw[←n4];exact aI _ rfl
 have n5:(h4.push { cls:=.type "zip",data:=.fields #[.none,.bool false,.bool false,.ref (n+2),.ref (n+3)] }).objs.size=n+5:=by rw[bB,n4]
 have k5:∀c o,h4.get? c=aA o→(h4.push { cls:=.type "zip",data:=.fields #[.none,.bool false,.bool false,.ref (n+2),.ref (n+3)] }).get? c=aA o:=λc o e=>aD _ e;generalize h4.push { cls:=.type "zip",data:=.fields #[.none,.bool false,.bool false,.ref (n+2),.ref (n+3)] }=h5 at e5 n5 k5 ⊢;have up:∀c o,s.heap.get? c=aA o→h5.get? c=aA o:=λc o e=>k5 _ _ (k4 _ _ (k3 _ _ (k2 _ _ (k1 _ _ e))));obtain ⟨o2,g2,r2⟩:=hl2;exact ⟨⟨_,e5,rfl⟩,h _ ⟨⟨.none,false,e5,.inl rfl⟩,⟨_,_,k5 _ _ e4⟩,k5 _ _ (k4 _ _ e3),⟨⟨_,k5 _ _ (k4 _ _ (k3 _ _ (k2 _ _ e1))),rfl,rfl⟩⟩,⟨⟨_,k5 _ _ (k4 _ _ (k3 _ _ e2)),rfl,rfl⟩,⟨o2,up _ _ g2,r2⟩⟩⟩ n5 up⟩
end
end L2.Zg
namespace L2
open PySem PySem.Spec PyProof.Rows L2.Zg L2.Zd
noncomputable def ItzS (K:aF) (XS:Str) (l2:Addr):It:=
  ⟨λi H=>∃ys y ch,SqT K H l2 ys∧XS.cps[i]?=aA ch∧ys[i]?=aA y,
   λi H x H'=>∃p ch v,XS.cps[i]?=aA ch∧(∀ys,SqT K H l2 ys→ys[i]?=aA v)∧H p=none∧x=.ref p∧H'=upd H p (.tup [.str ⟨#[ch]⟩,v]),
   λi H=>∃ys,SqT K H l2 ys∧XS.cps.size≤i⟩
theorem K7 {P:aU} {w:bA} {K:aF} {tg:Expr} (z TI TO i1 i2 l2:Addr) (XS:Str) (XT:Tok) (D:cZ z TI TO i1 i2 l2 l2) (ht:(∃x pos,tg=.Name x pos)∨∃es k pos,tg=.Tuple es k pos):
  Turn P w K tg (ItzS K XS l2) [z,TI,TO,i1,i2] z (λi h=>zpN z TI TO i1 i2 h∧h.IsStrIter i1 "str_ascii_iterator" XS XT i∧itB true h i2 l2 i) where
 mem:=by simp
 obj:=λi h st b hb=>by
  obtain ⟨⟨⟨f0,b0,a1,_⟩,⟨p,q,a2⟩,a3⟩,a4,a5⟩:=st;simp only[aam,aac,or_false] at hb;rcases hb with rfl | rfl | rfl | rfl | rfl
  ·exact ⟨_,a1,λv z=>by cases z⟩
  ·exact ⟨_,a3,λv z=>by cases z⟩
  ·exact ⟨_,a2,λv z=>by cases z⟩
  ·obtain ⟨o,e,_,d⟩:=a4;exact ⟨o,e,λv z=>by rw[d] at z;cases z⟩
  ·exact a5.obj
 keep:=λi h h' st k=>by
  obtain ⟨⟨⟨f0,b0,a1,a0⟩,⟨p,q,a2⟩,a3⟩,a4,a5⟩:=st;exact ⟨⟨⟨f0,b0,k z `b _ a1,a0⟩,⟨p,q,k TO `b _ a2⟩,k TI `b _ a3⟩,by obtain ⟨o,e,r⟩:=a4;exact ⟨o,k i1 `b _ e,r⟩,a5.keep (k i2 `b)⟩
 item:=by
  intro X hP hw hK hc i pins s σ H E I hf st hg;subst hP hw hK;obtain ⟨ys,y,ch,hq2,hx,hy⟩:=hg;obtain ⟨⟨a1,a2,a3⟩,a4,a5⟩:=st;obtain ⟨its2,rv2,_,_,f2,_,_⟩:=I.sqB (b:=true) hq2;obtain ⟨v,hv,rv⟩:=rv2.get hy;have fpl:∀b∈[z,TI,TO,i1,i2],b < s.heap.objs.size:=λb hb=>by
   obtain ⟨f0,b0,e1,_⟩:=a1;obtain ⟨p,q,e2⟩:=a2;obtain ⟨_,e4,_⟩:=id a4;obtain ⟨_,e5,_⟩:=a5.obj;simp only[aam,aac,or_false] at hb;rcases hb with rfl | rfl | rfl | rfl | rfl
   ·exact aJ e1
   ·exact aJ a3
   ·exact aJ e2
   ·exact aJ e4
   ·exact aJ e5
  refine Tn (XS:=XS) (XT:=XT) (ys:=its2.toArray) (i:=i) (ch:=ch) (x:=.str ⟨#[ch]⟩ s.toks) (y:=v) D ⟨a1,a2,a3,⟨a4⟩,f2 _ _ a5⟩ hx rfl (by simpa using hv) λh1 zs1 hT hz1 hk1=>⟨_,rfl,?_⟩;obtain ⟨⟨f0,b0,e0,g0⟩,⟨p,q,e2⟩,e3,e4,e5⟩:=zs1;refine go_zip ht e0 g0 λh2 f3 e0' g0' sb=>?_;have sb:bF z h1 h2:=sb;have hfr:H s.heap.objs.size=none:=I.hok.fresh (aa3 _);have I1:Inv X pins σ (upd H s.heap.objs.size (.tup [.str ⟨#[ch]⟩,y])) { s with heap:=s.heap.push { cls:=.type "tuple",data:=.seq #[.str ⟨#[ch]⟩ s.toks,v] },toks:=s.toks+1 }:=
   I.laid (t':=s.toks+1) (λb o' e'=>aD _ e') (aa3 _) (show bw X.prog X.w _ _ _ (.tup [.str ⟨#[ch]⟩,y]) from ⟨by show (2:Nat)≤sizeLine;decide,[.str ⟨#[ch]⟩ s.toks,v],.cons ⟨_,rfl⟩ (.cons rv .nil),⟨_,aI _ rfl,rfl,_,rfl,rfl⟩⟩)
  have nup:∀b,b < s.heap.objs.size→(upd H s.heap.objs.size (.tup [.str ⟨#[ch]⟩,y])) b=H b:=λb hb=>ak (aal hb);have zl:=fpl z `b;have I2:=Inv.nk (h':=h2) (t':=s.toks+1) (fp:=[z,TI,TO,i1,i2]) I1 (λb o' hb e'=>by
   simp only[aam,aac,or_false,not_or] at hb;have e':(s.heap.push { cls:=.type "tuple",data:=.seq #[.str ⟨#[ch]⟩ s.toks,v] }).get? b=aA o':=e';by_cases hbs:b=s.heap.objs.size
   ·subst hbs;rw[aI _ rfl] at e';cases e'
    exact (sb.2 _ hb.1).trans hT
   ·rw[fC _ _ _ hbs] at e';exact (sb.2 _ hb.1).trans (hk1 b o' hb.1 hb.2.2.1 hb.2.2.2.1 hb.2.2.2.2 e')) λb hb=>by
   obtain ⟨f0,f⟩:=hf b hb;exact ⟨by rw[nup b (fpl b hb)];exact f0,f⟩
  exact ⟨.ref s.heap.objs.size,_,I2,rfl,⟨_,ch,y,hx,λzs hz=>by rw[I.Va (b:=true) hz hq2];exact hy,hfr,rfl,rfl⟩,⟨⟨⟨f3,b0,e0',g0'⟩,⟨p,q,sb.extBut _ _ D.TOz e2⟩,sb.extBut _ _ D.TIz e3⟩,(by obtain ⟨⟨o,e,r⟩⟩:=e4;exact ⟨o,sb.extBut _ _ D.i1z e,r⟩),(O2 e5).keep λo e=>sb.extBut _ _ D.i2z e⟩,λb hb=>by rw[nup b (fpl b hb)];exact (hf b hb).1⟩
 done:=by
  intro X hP hw hK hc i pins s σ H E I hf st hg;subst hP hw hK;obtain ⟨ys,hq2,hx⟩:=hg;obtain ⟨⟨a1,a2,a3⟩,a4,a5⟩:=st;obtain ⟨its2,rv2,_,_,f2,_,_⟩:=I.sqB (b:=true) hq2;refine pyFinS (XS:=XS) (XT:=XT) (ys:=its2.toArray) (i:=i) `aF D ⟨a1,a2,a3,⟨a4⟩,f2 _ _ a5⟩ (abz hx) λh' hk=>⟨rfl,Inv.nk (t':=s.toks) (fp:=[z,TI,TO,i1,i2]) I (λb o hb e=>?_) hf⟩;simp only[aam,aac,or_false,not_or] at hb;exact hk b o hb.1 hb.2.2.1 hb.2.2.2.1 hb.2.2.2.2 e
 self:=λ_ _ _ _ _ st h=>by
  obtain ⟨⟨⟨f0,b0,a1,_⟩,_⟩,_⟩:=st;refine gU ⟨_,a1,rfl⟩ dH (bL dH ⟨_,a1,rfl⟩ hZ ?_ (gV _));exact aG ⟨_,rfl,"zip",_,⟨_,a1,rfl⟩,F.slot_zip_next.lookup,h⟩
def iZipS (K:aF) (ta:TA):TI:=λσ H R=>ta σ H λvs H1=>∃XS l2 ys,vs=[.str XS,.ref l2]∧XS.cps.all (· < 128)=true∧SqT K H1 l2 ys∧R (ItzS K XS l2) H1
section
variable {X:Cx}
theorem Ts {a b:Expr} {ta:TA} {p pos:Pos} {tg:Expr} (hg:Gl X "zip") (hm:X.mg "zip"=none) (ht:(∃x pos,tg=.Name x pos)∨∃es k pos,tg=.Tuple es k pos) (ha:PA X [a,b] ta) (hs:aZ [a,b] X.env=(false,eval a X.env)::aZ [b] X.env:=by rfl) (hpl:(cF pos (aZ [b] X.env)).any (·.1)=false:=by rfl):PI X tg (.Call (.Name "zip" p) [a,b] [] pos) (iZipS X.K ta):=by
 intro pins s σ H R I h;refine Call_ (gb I hg hm O4 (bH (thn `Y λus s1 ⟨vs,H1,I1,r1,q1⟩=>?_) hs hpl));obtain ⟨XS,l2,ys,rfl,ha',e2,q⟩:=q1;obtain ⟨u1,u2,rfl,ru1,ru2⟩:=vals2 r1;obtain ⟨XT,rfl⟩:=ru1;cases ru2
 obtain ⟨v,rv,_,lt2,_,t2,_⟩:=I1.sqB (b:=true) e2;refine Tx ha' (t2 rfl) λh' zs hz keep=>?_;refine Uo zs ?_;obtain ⟨a1,a2,a3,a4,a5⟩:=zs;refine ⟨s1.heap.objs.size+4,[s1.heap.objs.size+4,s1.heap.objs.size+2,s1.heap.objs.size+3,s1.heap.objs.size,s1.heap.objs.size+1],_,_,H1,rfl,I1.kept (t':=s1.toks) keep,K7 _ _ _ _ _ l2 XS XT (nG lt2 lt2) ht,⟨⟨a1,a2,a3⟩,a4.st,O2 a5⟩,λb hb=>?_,q⟩;simp only[aam,aac,or_false] at hb;rcases hb with rfl | rfl | rfl | rfl | rfl
 ·exact I1.kh (aaz _ _) (I1.hok.fresh (aaz _ _))
 ·exact I1.kh (aaz _ _) (I1.hok.fresh (aaz _ _))
 ·exact I1.kh (aaz _ _) (I1.hok.fresh (aaz _ _))
 ·exact I1.kh (aa3 _) `aB
 ·exact I1.kh (aaz _ _) (I1.hok.fresh (aaz _ _))
end
theorem Mg {K:aF} {XS:Str} {l2:Addr} {ys:List V} {g:TG} {tb:TS} {D:Ends} {σ:St} {H:Hp} (Pv:Nat→St→Hp→Prop) (h0:Pv 0 σ H) (hn:XS.cps.size=ys.length) (hl:∀i σ H,i≤ys.length→Pv i σ H→SqT K H l2 ys)
  (hs:∀i ch y σ H p,XS.cps[i]?=aA ch→ys[i]?=aA y→Pv i σ H→H p=none→g `a4 σ (upd H p (.tup [.str ⟨#[ch]⟩,y])) λσ2 H2=>tb { D with nx:=Pv (i+1),ct:=Pv (i+1),bk:=D.nx } σ2 H2) (hd:∀σ H,Pv ys.length σ H→D.nx σ H):zv g tb D (ItzS K XS l2) σ H:=by
 refine ⟨λi m σ H=>m=ys.length - i∧i≤ys.length∧Pv i σ H,⟨ys.length,by simp,aag _,h0⟩,?_⟩;rintro i m σ H ⟨rfl,hi,p⟩;have q2:=hl i σ H hi p;by_cases hlt:i < ys.length
 ·refine .inr ⟨⟨ys,_,_,q2,aat (by omega),aa1 hlt⟩,Pv (i+1),λσ' H' p'=>⟨ys.length - (i+1),by omega,rfl,hlt,p'⟩,λx H' y=>?_⟩;obtain ⟨t,ch,v,hu,hv,hn,rfl,rfl⟩:=y;exact hs i ch v σ H t hu (hv ys q2) p hn
 ·have e:i=ys.length:=by omega
  subst e;exact .inl ⟨⟨ys,q2,by omega⟩,hd σ H p⟩
end L2
namespace K61
open PySem PySem.Spec L2 PyProof.Rows Pc
set_option hygiene false
set_option compiler.extract_closed false
local macro_rules | `(tactic| push_cast [$xs,*])=>`(tactic| simp only [↓Kv,↓Ve,↓U8,↓Tf,↓exists_eq_left,↓exists_eq_left',↓int_ex,↓ref_ex,↓bl_ex,↓Ul,se,zu,rID,rUD,tBD,Il,Bl,Pa,Q3,tSeq,tIfS,tRet,tRetN,tNext,tVar,tC,Ei,tB,tOp,tUn,rI,rI0,rU,rEq,rNe,E9,tCB,Dx,tNil,tAnd,tOr,tNot,tAndV,tOrV,tNotV,tIf,i5,tAsg,tBM,tBM0,tSl,Jg,N0,rSlS,rSlL,tLst,tTup,tDrop,tNoIf,iStr,Qr,iTup,iRng1,iRng2,tLC,Qh,lx,List.set_cons_zero,List.set_cons_succ,List.getElem?_cons_zero,List.getElem?_cons_succ,Option.some.injEq,V.int.injEq,V.str.injEq,V.bl.injEq,V.ref.injEq,List.cons.injEq,exists_eq_left,exists_eq_left',exists_eq_right,exists_eq_right',exists_and_left,exists_and_right,and_true,true_and,List.cons_append,List.nil_append,List.append_nil,reduceCtorEq,false_and,exists_false,false_or,or_false,decide_eq_true_eq,eq_self,if_true,if_false,Bool.false_eq_true,Bool.true_eq_false,cxOf_K,cxOf_P,cxOf_w,Ux,cxOf_b,List.map_cons,List.map_nil,Option.getD_some,Option.getD_none,exists_const,nox_K,and_assoc,exists_eq,exists_eq',V.ty.injEq,tVals,Int.reduceLT,Int.reduceLE,Int.reduceNeg,Int.reducePow,Nat.reduceLT,Nat.reduceLeDiff,U2,Uw,CDiv,tCallV,tDIn,Jh,tDGet,iRev,Qa,sDPut,and_self,exists_prop,$xs,*])
set_option hygiene true
set_option compiler.extract_closed true
noncomputable def top (i:Nat):Stmt:=PySem.Challenge.pw_pricecover_k61_rows_of_a_cover.main.body.getD i (.Pass ⟨0,0,0,0⟩)
structure ErS (K:aF) (mg:Str→Option Value) (κ:Cl):Prop where
 m_cov:mg "CoverError"=aA (.ref κ.cov)
 m_badCover:mg "BadCover"=aA (.ref κ.badCover)
 x_cov:Xc K κ.cov vbm
 x_badCover:Xc K κ.badCover (cbm κ)
structure Gs (w:bA) (K:aF) (mg:Str→Option Value) (κ:Cl):Prop where
 er:ErS K mg κ
 i_BadCover:bP K (.ref κ.badCover) "__init__"=aA (aA (.builtin "ValueError.__init__"))
 m_all:mg "all"=none
 m_any:mg "any"=none
 m_bool:mg "bool"=none
 m_dict:mg "dict"=none
 m_enumerate:mg "enumerate"=none
 m_int:mg "int"=none
 m_isinstance:mg "isinstance"=none
 m_len:mg "len"=none
 m_list:mg "list"=none
 m_max:mg "max"=none
 m_range:mg "range"=none
 m_reversed:mg "reversed"=none
 m_str:mg "str"=none
 m_tuple:mg "tuple"=none
 m_zip:mg "zip"=none
 m_PARTS_BELOW:∃a,mg "PARTS_BELOW"=aA `r∧ModD w K a [(aP "add",.int 2),(aP "sub",.int 2),(aP "mul",.int 2),(aP "neg",.int 1)]
 m_BOXES:∃a,mg "BOXES"=aA `r∧∀H,SqT K H a [.str "out",.str "t1",.str "t2",.str "t3"]
def Kl (K:aF):Sp:=λvs H Q _=>∃(a:Addr) (ns:List Int),vs=[.ref a]∧SqL K H a `J∧ns.length≤63∧∀H',Q (.bl true) H'
def spT:Sp:=λvs H Q _=>False
set_option hygiene false
local macro_rules
 | `(A0 $a)=>`(@pl _ $a _ _ rfl rfl `a)
 | `(A1 $a $b)=>`(@Ce _ _ _ _ _ $a $b rfl)
 | `(A2 $_)=>`(@Nm _)
 | `(A3 $_)=>`(@N1 _ _ _ _)
 | `(A4 $a $b $c)=>`(@pe_op _ _ _ _ _ _ _ _ $a $b $c)
 | `(A5 $a $b)=>`(@Pt _ _ _ _ _ $a $b)
 | `(A6 $a $b $c)=>`(@pe_ix _ _ _ _ _ _ _ $a $b $c (λ_ _=>rfl))
 | `(A7 $a)=>`(@Vb _ _ _ $a)
 | `(A8 $a)=>`(@pe_tup _ _ _ _ _ $a)
 | `(A9 $a $b $c)=>`(@Nw _ _ $a _ _ _ _ $b rfl (ab5 rfl) $c rfl `O)
 | `(AA $_)=>`(@M9 _)
 | `(AB $a)=>`(@Cg.str _ _ _ _ _ $a)
 | `(AC $_)=>`(@Ox _ _ _ _)
 | `(AD $a $b $c)=>`(@pe_has _ _ _ _ _ _ _ _ _ _ $a $b $c rfl `c rfl rfl)
 | `(AE $a)=>`(@ps_ret _ _ _ _ $a)
 | `(AF $_)=>`(@nomark _ _ `a `a)
 | `(AG $_)=>`(@Tt _)
 | `(AH $a)=>`(@pk _ $a _ _ rfl rfl `a)
 | `(AI $a $b $c $d)=>`(@Gu _ _ _ _ _ _ _ _ $a $b $c $d)
 | `(AJ $a $b $c $d)=>`(@Nt _ _ _ _ _ _ _ _ _ $a rfl $b $c $d `a `a rfl rfl)
 | `(AK $a $b $c)=>`(@ps_if _ _ _ _ _ _ _ _ $a $b $c)
 | `(AL $_)=>`(@Tc _)
 | `(AM $_)=>`(@Sw _)
 | `(AN $a $b $c)=>`(@Dq _ _ $a _ $b rfl $c `O)
 | `(AO $_)=>`(@Kj _)
 | `(AQ $a)=>`(@pe_lst _ _ _ _ $a)
 | `(AR $_)=>`(@op_eq _)
 | `(AS $_)=>`(@Aa _)
 | `(AT $_)=>`(@Qn _)
 | `(AU $a)=>`(@R0 _ _ _ _ $a rfl)
 | `(AV $a $b $c $d $e $f)=>`(@pe_bm _ _ _ _ _ _ _ _ _ _ _ _ $a $b $c $d $e $f rfl rfl rfl rfl rfl)
 | `(AW $a)=>`(@Np _ _ _ $a)
 | `(AX $_)=>`(@Cg.nil)
 | `(AY $_)=>`(@vc _)
 | `(AZ $a $b $c)=>`(@Ip _ _ _ _ _ _ _ _ PassesOwn.never rfl $a $b $c (by intro _;rfl))
 | `(B0 $a $b $c $d)=>`(@Lg _ _ _ _ _ _ _ _ _ $a rfl $b $c $d `a `a rfl rfl)
 | `(B5 $a $b)=>`(@Nq _ _ _ _ _ $a $b rfl)
 | `(B6 $_)=>`(@Ss _)
 | `(B7 $a)=>`(@Pp _ _ _ _ $a)
 | `(B8 $a $b $c $d $e)=>`(@lz.mk _ _ $a $b $c _ rfl rfl rfl rfl $d rfl $e)
 | `(B9 $a $b)=>`(@Dq _ _ $a _ $b rfl (ab5 rfl) (.inr rfl))
 | `(BA $a)=>`(@Cg.int _ _ _ _ _ $a)
 | `(BB $_)=>`(@yp _)
 | `(BC $a)=>`(@Tv _ _ _ $a (by intro _;rfl))
 | `(BD $a $b $c)=>`(@Tq _ _ _ _ _ _ $a $b $c (λ_ _=>rfl))
 | `(BE $_)=>`(@Ff _)
 | `(BF $a $b)=>`(@pe_gty _ _ _ _ $a $b rfl `c `c)
 | `(BG $a $b)=>`(@Vd _ _ _ _ _ $a $b)
 | `(BH $_)=>`(@U0 _)
 | `(BI $a $b $c $d $e)=>`(@pe_lc _ _ _ _ _ _ _ _ _ _ _ _ _ _ _ $a rfl $b $c $d $e (by intro _;rfl))
 | `(BJ $a $b $c $d)=>`(@Mv _ _ _ _ _ _ _ _ _ _ $a $b $c $d)
 | `(BK $_)=>`(@R4 _)
 | `(BL $a)=>`(@Oz _ _ _ $a)
 | `(BM $a $b)=>`(@pg_tup _ _ _ _ _ $a rfl $b rfl rfl)
 | `(BN $_)=>`(@Uq _)
 | `(BO $a)=>`(@PW.pt _ _ _ $a)
 | `(BP $a)=>`(@Kk _ _ _ _ $a)
 | `(BQ $a $b)=>`(@ps_asg _ _ _ _ _ _ $a $b rfl rfl rfl)
 | `(BR $a $b)=>`(@pw_or _ _ _ _ _ _ _ $a $b)
 | `(BS $a)=>`(@pif1 _ _ _ $a)
 | `(BT $a $b $c)=>`(@Nw _ _ $a _ _ _ _ $b rfl (ab3 rfl) $c rfl `O)
 | `(BU $a $b $c $d $e $f $g)=>`(@Ob _ _ _ _ _ _ _ _ _ _ _ _ _ _ _ $a _ _ _ $b rfl (ab5 rfl) $c rfl $d $e $f $g rfl (by intro _;rfl) `O)
 | `(BV $a $b $c)=>`(@Gu _ _ _ _ _ _ _ _ $a $b $c (by with_unfolding_all rfl))
 | `(BW $a)=>`(@pt_not _ _ _ _ $a)
 | `(BX $a $b)=>`(@Uh _ _ _ _ _ _ $a $b)
 | `(BY $_)=>`(@pe_bl _ _ _ _)
 | `(BZ $a $b)=>`(@pe_un _ _ _ _ _ _ $a $b)
 | `(C0 $a $b)=>`(@Kz _ _ _ _ _ _ rfl $a $b rfl)
 | `(C1 $a)=>`(@pw_or1 _ _ _ _ $a)
 | `(C2 $a $b)=>`(@O3 _ _ _ _ _ _ PassesOwn.never $a $b)
 | `(C3 $a $b $c $d)=>`(@Df _ _ _ _ _ _ _ _ $a $b $c $d)
 | `(C4 $a $b)=>`(@pw_and _ _ _ _ _ _ _ $a $b)
 | `(C5 $a $b $c $d)=>`(@Vj _ _ _ _ _ _ _ _ _ $a $b $c $d rfl)
 | `(C6 $a $b $c)=>`(@Ny _ _ _ _ _ _ _ _ _ $a $b $c)
 | `(C7 $a $b $c)=>`(@pg_sub _ _ _ _ _ _ _ $a $b $c (by intro _;rfl))
 | `(C8 $a $b $c $d $e)=>`(@pe_bm0 _ _ _ _ _ _ _ _ _ $a $b $c $d $e rfl rfl)
 | `(C9 $a $b)=>`(@U9 _ _ _ _ _ _ _ _ rfl $a $b rfl)
 | `(CB $a $b $c)=>`(@Qo _ _ _ _ _ _ _ _ $a $b $c)
 | `(CC $a $b $c $d $e)=>`(@Mq _ _ _ _ _ _ _ _ _ _ _ _ $a $b $c $d $e rfl `c rfl rfl)
set_option hygiene true
section
variable {P:aU} {w:bA} {K:aF} {mg:Str→Option Value} {base:Heap} {k:Nat} {κ:Cl}
noncomputable abbrev zc:Stmt:=top 28
theorem Q0:av ["script","k","cell","mixed"] ["script","k"] (af zc):=⟨rfl,rfl,rfl,by decide+kernel,rfl,by decide+kernel,by decide+kernel⟩
theorem Rv (G:Gs w K mg κ) (D:Def K mg "_law_draw" zc ["script","k"]):Has P w K mg base (k+1) "_law_draw" ["script","k"] (lp K):=by
 refine D.has Q0 (λvs H Q E h=>?_) (λf cdv A outer s H vs Q E hr h=>?_)
 ·obtain ⟨_,_,_,rfl,_,_,_,_⟩:=h;rfl
 have nd:=Q0.nd;have hu:=br hr;have hu0:=aae hu;obtain ⟨a,ns,k1,rfl,hA,hl,hk,q⟩:=h;have m_len:=G.m_len;have m_max:=G.m_max;refine ⟨_,(A5 (A9 2 nd (A3 0)) (BG (AK (AI (@jh _) `aH (A3 0) (AF 0)) (A7 (A9 2 nd (A4 (AG 0) (A6 (AO 0) (A0 0) (A4 (AG 0) (A0 1) `aH)) (A3 0)))) (AL 0)) (A5 (A9 3 nd (A4 (AG 0) (A4 (@jf _) (A4 (AM 0) (A4 (AM 0) (A0 2) (A3 0)) (A4 (@jf _) (A3 0) (A4 (AT 0) (A0 1) (AJ (@Mb _ rfl) m_max b_max (A1 (A3 0) (A1 `aH (A2 0))))))) (A3 0)) (A3 0))) (A7 (AE (A4 (AG 0) (A4 (@jf _) (A0 3) (A0 3)) (A3 0))))))),?_⟩;rw[show start ["script","k","cell","mixed"] [.ref a,.int (k1:Int)]=[aA `r,aA (.int (k1:Int)),none,none] from rfl];clear hu hu0 nd hr;push_cast [and_true];have sz:=aQ;refine g6 (λσ' H'=>σ'=[aA `r,aA (.int (k1:Int)),aA (.int (drwC ns k1)),none]∧H=H') ?_ ?_
 ·push_cast [and_true];refine ⟨_,.inl hA,?_⟩;rw[aa0];unfold drwC;refine de (λc=>?_) λc=>?_
  ·have hlt:k1 % ns.length < ns.length:=Nat.mod_lt _ (by omega);rw[if_pos (by omega)];refine ⟨_,.inl hA,by rw[aa0];omega,a,ns.map V.int,_,.int ns[k1 % ns.length],rfl,rfl,hA,?_,?_⟩
   ·rw[aa0,show (k1:Int) % (ns.length:Int)=((k1 % ns.length:Nat):Int) by omega];exact ay (by rw[aa4,aa1 hlt];rfl)
   ·rw[aaj,aa1 hlt];exact ⟨by decide,rfl,rfl⟩
  ·rw[if_neg (by omega)]
 rintro _ _ ⟨rfl,rfl⟩;push_cast [and_true];have em:(if (((ns.map V.int).length:Nat):Int) > 1 then (((ns.map V.int).length:Nat):Int) else 1)=((max 1 ns.length:Nat):Int):=by
  rw[aa0];by_cases c:(ns.length:Int) > 1
  ·rw[if_pos c];omega
  ·rw[if_neg c];omega
 have ed:(k1:Int) / ((max 1 ns.length:Nat):Int)=((k1 / max 1 ns.length:Nat):Int):=by omega
 have b1:drwM ns k1 < 2147483629:=abk _ `a;have b0:0≤drwM ns k1:=ab9 _ `a;refine ⟨ns.map V.int,.inl hA,?_⟩;rw[em,ed];exact ⟨by omega,by omega,by unfold yr;omega,by unfold yr;omega,by unfold yr;unfold drwM at b0 b1;omega,q⟩
noncomputable abbrev zh:Stmt:=top 29
theorem Nv:av ["script","i","letters","pad","place","tail","word"] ["script","i"] (af zh):=⟨rfl,rfl,rfl,by decide+kernel,rfl,by decide+kernel,by decide+kernel⟩
theorem U1 (G:Gs w K mg κ) (h_law_draw:Has P w K mg base k "_law_draw" ["script","k"] (lp K)) (D:Def K mg "_law_word" zh ["script","i"]):Has P w K mg base (k+1) "_law_word" ["script","i"] (yd K):=by
 refine D.has Nv (λvs H Q E h=>?_) (λf cdv A outer s H vs Q E hr h=>?_)
 ·obtain ⟨_,_,_,rfl,_,_,_,_⟩:=h;rfl
 have nd:=Nv.nd;have hu:=br hr;have hu0:=aae hu;obtain ⟨a,ns,i,rfl,hA,hl,hi,q⟩:=h;refine ⟨_,(A5 (A9 2 nd (AC 0)) (A5 (A9 3 nd (A6 (@G1 _) (A0 2) (A4 (AG 0) `s (A3 0)))) (A5 (A9 4 nd (A4 (AG 0) `s (A3 0))) (A5 (A9 5 nd (A4 (AG 0) `s (A4 (BH 0) (A3 0) (A0 4)))) (BG (AK (AI (AR 0) (A4 (AG 0) (A4 (AT 0) `s (A3 0)) (A3 0)) (A3 0) (AF 0)) (A7 (A9 5 nd (A4 (AG 0) (AD h_law_draw hr (A1 (A0 0) (A1 (A4 (AM 0) (A3 0) (A0 1)) (A2 0)))) (A4 (BH 0) (A3 0) (A0 4))))) (AL 0)) (A5 (A9 6 nd (A4 (@gu _) (A4 (@gu _) (A4 (@y8 _) (A0 3) (A0 4)) (A6 (@G1 _) (A0 2) (A4 (AG 0) (A4 (AM 0) (A0 1) `s) (A3 0)))) (A4 (@y8 _) (A0 3) (A0 5)))) (A5 (AK (AI (AR 0) (A0 6) (AC 0) (AF 0)) (A7 (AE (AC 0))) (AL 0)) (A7 (AE (A0 6)))))))))),?_⟩;rw[show start ["script","i","letters","pad","place","tail","word"] [.ref a,.int (i:Int)]=[aA `r,aA (.int (i:Int)),none,none,none,none,none] from rfl];clear hu hu0 nd hr;push_cast [and_true];have sz:=aQ;have d8:0 < 8 - drw ns 1 % 8:=by have:=abk (drw ns 1) (show (0:Int) < 8 by decide);omega
 refine cz (k:=0) hA hl (by omega) ⟨by decide,Gb (cz (k:=1) hA hl (by omega) ⟨by decide,cz (k:=2) hA hl (by omega) ⟨d8,?_⟩⟩)⟩;refine g6 (λσ' H'=>σ'=[aA `r,aA (.int (i:Int)),aA (.str abcS),aA (.str (ltr (drw ns 0))),aA (.int (drw ns 1 % 8)),aA (.int (wTl ns i)),none]∧H=H') ?_ ?_
 ·push_cast [and_true];refine cz (k:=1) hA hl (by omega) ⟨by decide,by decide,rfl,?_⟩;have e:wTl ns i=if drw ns 1 / 8 % 2=1 then (drw ns (4+i) % (8 - drw ns 1 % 8)).toNat else (drw ns 2 % (8 - drw ns 1 % 8)).toNat:=rfl
  refine de (λc=>?_) λc=>?_
  ·rw[if_pos c] at e;refine cz (k:=4+i) hA hl (by omega) ⟨d8,?_,rfl⟩;rw[e];have:=ab9 (drw ns (4+i)) (show 8 - drw ns 1 % 8≠0 by omega);omega
  ·rw[if_neg c] at e;refine ⟨?_,rfl⟩;rw[e];have:=ab9 (drw ns 2) (show 8 - drw ns 1 % 8≠0 by omega);omega
 rintro _ _ ⟨rfl,rfl⟩;push_cast [and_true];have tl:=O0 ns i;have p8:=Ql ns;have l1:=Ja (drw ns 0);have l2:=Ja ((i:Int)+drw ns 3);have m1:=Km (drw ns 0) (wPl ns);have m2:=Km (drw ns 0) (wTl ns i);refine ⟨ab9 _ `a,by omega,by omega,cz (k:=3) hA hl (by omega) (Gb ⟨_,rfl,by show (su (ltr (drw ns 0)) (wPl ns)).length+_≤_;omega,by omega,by omega,by omega,by rw[Str.length_append];show (su (ltr (drw ns 0)) (wPl ns)).length+_+(su (ltr (drw ns 0)) (wTl ns i)).length≤_;omega,rfl,?_⟩)⟩;unfold wd at q;by_cases c:wd0 ns i=aB "add"
 ·rw[if_pos c] at q;exact ifY c q
 ·rw[if_neg c] at q;exact ifN c q
noncomputable abbrev yb:Stmt:=top 30
theorem Ou:av ["draw","some"] ["draw"] (af yb):=⟨rfl,rfl,rfl,by decide+kernel,rfl,by decide+kernel,by decide+kernel⟩
theorem Sh (G:Gs w K mg κ) (D:Def K mg "_law_number" yb ["draw"]):Has P w K mg base (k+1) "_law_number" ["draw"] zi:=by
 refine D.has Ou (λvs H Q E h=>?_) (λf cdv A outer s H vs Q E hr h=>?_)
 ·obtain ⟨_,rfl,_,_,_⟩:=h;rfl
 have nd:=Ou.nd;have hu:=br hr;have hu0:=aae hu;obtain ⟨c,rfl,h0,h1,q⟩:=h;refine ⟨_,(A5 (A9 1 nd (AQ (A1 `l (A1 `l (A1 (A4 (AG 0) (A4 (@jf _) (A4 (AT 0) (A0 0) (A3 0)) (A3 0)) (A4 (@To _) (A3 0) (A3 0))) (A1 (A3 0) (A2 0))))))) (A7 (AE (A6 (AO 0) (AQ (A1 (A6 (AO 0) (A0 1) (A4 (AG 0) (A0 0) (A3 0))) (A1 (BZ (@uh _) (A6 (AO 0) (A0 1) (A4 (AG 0) (A0 0) (A3 0)))) (A2 0)))) `l)))),?_⟩;rw[show start ["draw","some"] [.int c]=[aA (.int c),none] from rfl];clear hu hu0 nd hr;push_cast [and_true];have sz:=aQ;refine ⟨by unfold yr;omega,⟨by decide,by decide,by decide⟩,by decide,by show (4:Nat)≤sizeLine;decide,λp hp=>?_⟩;obtain ⟨v,hv,hm⟩:=vj [V.int (c / 8 % 4),V.int (c / 8 % 1000),V.int (c / 8*8191 % 10 ^ aes 12),V.int 1] (c % 4) (ab9 _ `a) (by show c % 4 < 4;omega);obtain ⟨x,rfl,hx⟩:∃x:Int,v=.int x∧x.natAbs < 10 ^ 12:=by
  simp only[aam,aac,or_false] at hm;rcases hm with rfl | rfl | rfl | rfl
  ·exact ⟨_,rfl,by omega⟩
  ·exact ⟨_,rfl,by omega⟩
  ·refine ⟨_,rfl,?_⟩;have e:(10:Int) ^ aes 12=1000000000000:=by decide
   rw[e];have a1:=ab9 (c / 8*8191) (show (1000000000000:Int)≠0 by decide);have a2:=abk (c / 8*8191) (show (0:Int) < 1000000000000 by decide);omega
  ·exact ⟨1,rfl,by decide⟩
 have s1:=ae hp (.lst [V.int (c / 8 % 4),V.int (c / 8 % 1000),V.int (c / 8*8191 % 10 ^ aes 12),V.int 1]);refine az aa hv (az aa hv ⟨by show (2:Nat)≤sizeLine;decide,λp2 hp2=>?_⟩);obtain ⟨y,hy,hm2⟩:=vj [V.int x,V.int (-x)] (c / 4 % 2) (ab9 _ `a) (by show c / 4 % 2 < 2;omega);refine az aa hy ?_;simp only[aam,aac,or_false] at hm2;rcases hm2 with rfl | rfl
 ·exact q _ _ (s1.trans (ae hp2 _)) hx
 ·exact q _ _ (s1.trans (ae hp2 _)) (by rw[Int.natAbs_neg];exact hx)
noncomputable abbrev ky:Stmt:=top 33
theorem Gg:av ["draw"] ["draw"] (af ky):=⟨rfl,rfl,rfl,by decide+kernel,rfl,by decide+kernel,by decide+kernel⟩
theorem K0 (G:Gs w K mg κ) (D:Def K mg "_law_price" ky ["draw"]):Has P w K mg base (k+1) "_law_price" ["draw"] sj:=by
 refine D.has Gg (λvs H Q E h=>?_) (λf cdv A outer s H vs Q E hr h=>?_)
 ·obtain ⟨_,rfl,_,_⟩:=h;rfl
 have nd:=Gg.nd;have hu:=br hr;have hu0:=aae hu;obtain ⟨c,rfl,h0,q⟩:=h;refine ⟨_,(A7 (AE (A6 (AO 0) (AQ (A1 (A3 0) (A1 (A4 (AM 0) (A3 0) `l) (A1 (A4 (AM 0) (A3 0) `l) (A1 (A4 (AM 0) (A3 0) `l) (A2 0)))))) (A4 (AG 0) (A0 0) (A3 0))))),?_⟩;rw[show start ["draw"] [.int c]=[aA (.int c)] from rfl];clear hu hu0 nd hr;push_cast [and_true];have sz:=aQ;refine ⟨by show (4:Nat)≤sizeLine;decide,λp hp=>?_⟩;obtain ⟨v,hv,hm⟩:=vj [V.int 1,V.int (1+c / 4 % 3),V.int (1+c / 4 % 40),V.int (1+c / 4 % 999999)] (c % 4) (ab9 _ `a) (by show c % 4 < 4;omega);refine az aa hv ?_;simp only[aam,aac,or_false] at hm;rcases hm with rfl | rfl | rfl | rfl
 ·exact q _ _ (ae hp _) `a `a
 ·exact q _ _ (ae hp _) (by omega) (by omega)
 ·exact q _ _ (ae hp _) (by omega) (by omega)
 ·exact q _ _ (ae hp _) (by omega) (by omega)
noncomputable abbrev qo:Stmt:=top 31
theorem Kf:av ["draw","kinds","seen","box"] ["draw","kinds","seen","box"] (af qo):=⟨rfl,rfl,rfl,by decide+kernel,rfl,by decide+kernel,by decide+kernel⟩
theorem N9 (G:Gs w K mg κ) (D:Def K mg "_law_leaf" qo ["draw","kinds","seen","box"]):Has P w K mg base (k+1) "_law_leaf" ["draw","kinds","seen","box"] wm:=by
 refine D.has Kf (λvs H Q E h=>?_) (λf cdv A outer s H vs Q E hr h=>?_)
 ·obtain ⟨_,_,_,_,_,_,rfl,_,_,_,_,_,_,_⟩:=h;rfl
 have nd:=Kf.nd;have hu:=br hr;have hu0:=aae hu;obtain ⟨c,kl,sn,bx,kinds,kc,rfl,hK,hS,hk1,b1,b2,b3,q⟩:=h;have m_len:=G.m_len;have m_str:=G.m_str;refine ⟨_,(A5 (AK (AI (@Dj _) (A4 (AG 0) (A0 0) (A3 0)) (A3 0) (AF 0)) (A5 (BQ (A4 (AM 0) (A6 (AO 0) (A0 2) (A3 0)) (A3 0)) (C7 (A0 2) (A3 0) (@set_list _))) (A7 (AE (A8 (A1 (A6 (AO 0) (A0 1) (A4 (AG 0) (A4 (AT 0) (A0 0) (A3 0)) (AJ (AS 0) m_len cm (A1 (A0 1) (A2 0))))) (A1 (A8 (A2 0)) (A1 (A4 (@gu _) (AC 0) (B0 (@iq _) m_str An (A1 (A6 (AO 0) (A0 2) (A3 0)) (A2 0)))) (A2 0)))))))) (AL 0)) (A5 `q (A5 `q (A7 (AE (A8 (A1 `l (A1 (A8 (A1 (A8 (A1 (AC 0) (A1 (A0 3) (A1 `l (A2 0))))) (A2 0))) `aP)))))))),?_⟩;rw[show start ["draw","kinds","seen","box"] [.int c,.ref kl,.ref sn,.str bx]=[aA (.int c),aA (.ref kl),aA (.ref sn),aA (.str bx)] from rfl];clear hu hu0 nd hr;push_cast [and_true];have sz:=aQ;have nks:kl≠sn:=jq hK hS (by intro e;cases kinds <;> simp[Cnt.vs] at e);refine de (λ_=>?_) λ_=>?_
 ·refine az hS (ay (j:=0) rfl) ?_;push_cast [gSub,J1];obtain ⟨tx1,tx2⟩:=ka (n:=kc.h+1) (by omega);have h1l:(aB "h").length=1:=by decide+kernel
  refine ⟨_,hS,0,rfl,?_⟩;have eS:upd H sn `bc sn=aA (.lst [V.int ((kc.h+1:Nat):Int),V.int (kc.n:Int),V.int (kc.v:Int)]):=aa;have eK:upd H sn `bc kl=aA (.lst `h):=by rw[ak nks];exact hK
  have s1:gr sn H (upd H sn `bc):=λb o ne h=>by rw[ak ne];exact h
  generalize upd H sn `bc=H1 at eS eK s1 ⊢;obtain ⟨i,hi,ei⟩:=zx (c / 6) (n:=kinds.length) (by omega);refine ⟨kinds.map V.str,.inl (SqL.of eK),by rw[aa0];omega,az (v:=.str kinds[i]) eK (by rw[aa0,ei];exact ay (by rw[aa4,aa1 hi];rfl)) ⟨aag _,λp hp=>az (ae hp _ _ _ eS) (ay (j:=0) rfl) ⟨tx2,by omega,by show (3:Nat)≤sizeLine;decide,λp1 hp1=>?_⟩⟩⟩;have s2:=ae hp (.tup []);have s3:=ae hp1 (.tup [V.str kinds[i],V.ref p,V.str (aB "h"++Az (V.int ((kc.h+1:Nat):Int)))]);exact q (.h kinds[i]) p1 _ (aaf hi) (s1.trans (gr.of (s2.trans s3))) ((s2.trans s3) _ _ eS) ⟨p,aa,[],s3 _ _ aa,bc.nil _⟩
 ·push_cast [gSub,J1];have put:∀(x:V) (j:Nat) (l:Lv),l.ok kinds→kc.vs.set j x=(l.next kc).vs→∀{deed:List V} {w:V},w=l.word→l.ia kc bx=[deed]→l.lbl kc bx=bx→∀(t:Addr) (H':Hp),ah (upd H sn (.lst (kc.vs.set j x))) H'→(∃da:Addr,H' t=aA (.tup [w,.ref da,.str bx])∧dw H' da [deed])→Q `N H':=λx j l ok e deed w ew ed el t H' s' h=>by
   obtain ⟨da,g1,g2⟩:=h;refine q l t H' ok (gr.trans (gr.tb _) (gr.of s')) ?_ ⟨da,by rw[el,←ew];exact g1,by rw[ed];exact g2⟩;rw[←e];exact s' _ _ aa
  refine ⟨rfl,de (λ_=>?_) λ_=>⟨rfl,de (λ_=>?_) λ_=>?_⟩⟩
  ·obtain ⟨tx1,tx2⟩:=ka (n:=kc.n+1) (by omega);have h1l:(aB "n").length=1:=by decide+kernel
   refine az hS (ay (j:=1) rfl) ⟨_,hS,1,rfl,az (v:=.int ((kc.n+1:Nat):Int)) aa (ay (j:=1) rfl) ⟨tx2,by omega,Dl (by show (3:Nat)≤10;decide) (put _ 1 .n trivial rfl rfl rfl rfl)⟩⟩
  ·obtain ⟨tx1,tx2⟩:=ka (n:=kc.v+1) (by omega);have h1l:(aB "v").length=1:=by decide+kernel
   refine az hS (ay (j:=2) rfl) ⟨_,hS,2,rfl,az (v:=.int ((kc.v+1:Nat):Int)) aa (ay (j:=2) rfl) ⟨tx2,by omega,Dl (by show (3:Nat)≤10;decide) (put _ 2 .v trivial rfl rfl rfl rfl)⟩⟩
  ·refine Dl (by show (3:Nat)≤10;decide) λt H' s' h=>?_;obtain ⟨da,g1,g2⟩:=h;exact q (.c (c / 6 % 3)) t H' ⟨by omega,by omega⟩ (gr.of s') (s' _ _ hS) ⟨da,g1,g2⟩
noncomputable abbrev lg:Stmt:=top 32
theorem Gf:av ["draw","more","kinds","seen","word","first","second","third","other","deeds"] ["draw","more","kinds"] (af lg):=⟨rfl,rfl,rfl,by decide+kernel,rfl,by decide+kernel,by decide+kernel⟩
theorem Lj (G:Gs w K mg κ) (h_law_leaf:Has P w K mg base k "_law_leaf" ["draw","kinds","seen","box"] wm) (D:Def K mg "_law_shape" lg ["draw","more","kinds"]):Has P w K mg base (k+1) "_law_shape" ["draw","more","kinds"] ui:=by
 refine D.has Gf (λvs H Q E h=>?_) (λf cdv A outer s H vs Q E hr h=>?_)
 ·obtain ⟨_,_,_,_,rfl,_,_,_,_,_,_,_⟩:=h;rfl
 have nd:=Gf.nd;have hu:=br hr;have hu0:=aae hu;obtain ⟨c,m,kl,kinds,rfl,hK,hk1,h0,h1,m0,m1,q⟩:=h;refine ⟨_,(A5 (A9 3 nd (AQ (AW (BA (BA (BA (AX 0))))))) (A5 (A9 4 nd (A6 (AO 0) (AQ (AW `F)) (A4 (AG 0) (A0 0) (A3 0)))) (A5 (A9 5 nd (AD h_law_leaf hr (A1 `l (A1 (A0 2) (A1 (A0 3) `aD))))) (A5 (AK (AI (AR 0) `l (A3 0) (AF 0)) (A7 (AE (A8 (A1 (A8 (A1 (AC 0) (A1 `t (A2 0)))) (A1 (A4 (B6 0) `t (A8 (A1 (A8 (A1 (AC 0) (A1 (AC 0) (A1 `t (A2 0))))) (A2 0)))) (A2 0)))))) (AL 0)) (A5 (A9 6 nd (AD h_law_leaf hr (A1 (A4 (AG 0) (A0 1) (A3 0)) (A1 (A0 2) (A1 (A0 3) `aD))))) (A5 (AK (AI (@Dj _) `l (A3 0) (AF 0)) (A7 (AE (A8 (A1 (A8 (A1 (A0 4) (A1 `t (A1 `ad (A2 0))))) (A1 (A4 (B6 0) (A4 (B6 0) `t `ad) (A8 (A1 (A8 (A1 (A0 4) (A1 (AC 0) (A1 `t (A1 `ad (A2 0)))))) (A2 0)))) (A2 0)))))) (AL 0)) (A5 (A9 7 nd (AD h_law_leaf hr (A1 (A4 (AG 0) (A4 (AT 0) (A0 1) (A3 0)) (A3 0)) (A1 (A0 2) (A1 (A0 3) `aD))))) (A5 (A9 8 nd (A6 (AO 0) (AQ (AW `F)) (A4 (AG 0) (A4 (AT 0) (A0 1) (A3 0)) (A3 0)))) (A5 (AK (AI (AR 0) (A4 (AG 0) (A4 (AT 0) (A0 1) (A3 0)) (A3 0)) (A3 0) (AF 0)) (A5 (A9 9 nd (A4 (B6 0) (A4 (B6 0) (A4 (B6 0) `ad `aT) (A8 (A1 (A8 (A1 (A0 8) (A1 (AC 0) (A1 `ad (A1 `aT (A2 0)))))) (A2 0)))) `t)) (A7 (AE (A8 (A1 (A8 (A1 (A0 4) (A1 `t (A1 (A0 8) (A1 `ad (A1 `aT (A2 0))))))) (A1 (A4 (B6 0) (A0 9) (A8 (A1 (A8 (A1 (A0 4) (A1 (AC 0) (A1 `t `aD)))) (A2 0)))) (A2 0))))))) (AL 0)) (A5 (A9 9 nd (A4 (B6 0) (A4 (B6 0) (A4 (B6 0) `t `ad) (A8 (A1 (A8 (A1 (A0 8) (A1 (AC 0) (A1 `t (A1 `ad (A2 0)))))) (A2 0)))) `aT)) (A7 (AE (A8 (A1 (A8 (A1 (A0 4) (A1 (A0 8) (A1 `t (A1 `ad (A1 `aT (A2 0))))))) (A1 (A4 (B6 0) (A0 9) (A8 (A1 (A8 (A1 (A0 4) (A1 (AC 0) (A1 (AC 0) (A1 `aT (A2 0)))))) (A2 0)))) (A2 0)))))))))))))))),?_⟩;rw[show start ["draw","more","kinds","seen","word","first","second","third","other","deeds"] [.int c,.int m,.ref kl]=[aA (.int c),aA (.int m),aA (.ref kl),none,none,none,none,none,none,none] from rfl];clear hu hu0 nd hr;push_cast [and_true];have sz:=aQ;refine ⟨by show (3:Nat)≤sizeLine;decide,λsn hsn=>⟨by show (3:Nat)≤sizeLine;decide,λpw hpw=>?_⟩⟩;have s1:=ae hsn (.lst [V.int 0,V.int 0,V.int 0]);have s2:=ae hpw `aj;have S2:=s1.trans s2;have n2:=s2 _ _ (aa (H:=H) (a:=sn) (o:=.lst [V.int 0,V.int 0,V.int 0]));have w2:upd (upd H sn (.lst [V.int 0,V.int 0,V.int 0])) pw `aj pw=aA `aj:=aa;generalize upd (upd H sn (.lst [V.int 0,V.int 0,V.int 0])) pw `aj=H2 at s2 S2 n2 w2 ⊢;obtain ⟨w,hw,hw3⟩:=Po c;have same:∀{H':Hp},gr sn H2 H'→ah H H':=λs b o h=>s b o (ao h hsn) (S2 b o h);have tkB:∀{HA HB:Hp} {xs:List V},HA sn=aA `U→gr sn HA HB→TK HA HB:=λe s b xs h=>s b _ (jq h e (by intro z;cases z)) h;refine az w2 hw (Ct (k:=c0) (S2 _ _ hK) n2 hk1 `a `a `a λl t1 H3 ok1 s3 n3 L3=>⟨rfl,?_⟩);have lk1:=l.gm (k:=c0) (n:=0) `a `a `a;have dl1:=l.ux c0 "t1";obtain ⟨da1,a1,a2⟩:=id L3;refine de (λ_=>?_) λ_=>?_
 ·refine ag a1 rfl ⟨by show (2:Nat)≤sizeLine;decide,λsa hsa=>?_⟩;have s4:=ae hsa (.tup [V.str `A,l.word]);have e4:upd H3 sa (.tup [V.str `A,l.word]) sa=aA (.tup [V.str `A,l.word]):=aa;generalize upd H3 sa (.tup [V.str `A,l.word])=H4 at s4 e4 ⊢;refine ag (s4 _ _ a1) rfl (ag (s4 _ _ a1) rfl (Bo (a2.tk (TK.of s4)) (by show (3:Nat)≤10;decide) (by omega) λp5 H5 s5 d5=>Iw (s5 _ _ e4) d5 λt H6 s6 m6=>q t _ _ H6 (Mk.s1 ok1) ((same s3).trans (s4.trans (s5.trans s6))) m6))
 ·refine Ct (k:=l.next c0) (s3 _ _ (jq (S2 _ _ hK) n2 (by intro e;cases kinds <;> simp at e)) (S2 _ _ hK)) n3 hk1 (by omega) (by omega) (by omega) λm' t2 H4 ok2 s4 n4 L4=>?_;have lk2:=m'.gm (k:=l.next c0) (n:=1) lk1.1 lk1.2.1 lk1.2.2;have dl2:=m'.ux (l.next c0) "t2";obtain ⟨da2,b1,b2⟩:=id L4;have tk4:=tkB n3 s4;have a1:=tk4 _ _ a1;have a2:=a2.tk tk4;have s24:=s3.trans s4;refine de (λ_=>?_) λ_=>?_
  ·refine ag a1 rfl (ag b1 rfl ⟨by show (3:Nat)≤sizeLine;decide,λsa hsa=>?_⟩);have s5:=ae hsa (.tup [V.str w,l.word,m'.word]);have e5:upd H4 sa (.tup [V.str w,l.word,m'.word]) sa=aA (.tup [V.str w,l.word,m'.word]):=aa;generalize upd H4 sa (.tup [V.str w,l.word,m'.word])=H5 at s5 e5 ⊢;refine ag (s5 _ _ a1) rfl (ag (s5 _ _ b1) rfl (catD (a2.tk (TK.of s5)) (b2.tk (TK.of s5)) (by omega) λp6 H6 s6 d6=>ag ((s5.trans s6) _ _ a1) rfl (ag ((s5.trans s6) _ _ b1) rfl (Bo d6 (by show (4:Nat)≤10;decide) (by simp only[aa2,aa5];omega) λp7 H7 s7 d7=>Iw ((s6.trans s7) _ _ e5) d7 λt H8 s8 m8=>q t _ _ H8 (Mk.s2 hw3 ok1 ok2) ((same s24).trans (s5.trans (s6.trans (s7.trans s8)))) m8))))
  ·refine Ct (k:=m'.next (l.next c0)) (s24 _ _ (jq (S2 _ _ hK) n2 (by intro e;cases kinds <;> simp at e)) (S2 _ _ hK)) n4 hk1 (by omega) (by omega) (by omega) λr t3 H5 ok3 s5 n5 L5=>⟨by show (3:Nat)≤sizeLine;decide,λpo hpo=>?_⟩;have dl3:=r.ux (m'.next (l.next c0)) "t3";obtain ⟨da3,x1,x2⟩:=id L5;have tk5:=tkB n4 s5;have s6:=ae hpo `aj;have e6:upd H5 po `aj po=aA `aj:=aa;generalize upd H5 po `aj=H6 at s6 e6 ⊢;have a1:=s6 _ _ (tk5 _ _ a1);have a2:=(a2.tk tk5).tk (TK.of s6);have b1:=s6 _ _ (tk5 _ _ b1);have b2:=(b2.tk tk5).tk (TK.of s6);have x1:=s6 _ _ x1;have x2:=x2.tk (TK.of s6);have S6:=(same (s24.trans s5)).trans s6;obtain ⟨o,ho,ho3⟩:=Po (m / 1000000);refine az e6 ho ⟨rfl,de (λ_=>?_) λ_=>?_⟩
   ·refine ag b1 rfl (ag x1 rfl (catD b2 x2 (by omega) λp7 H7 s7 d7=>ag (s7 _ _ b1) rfl (ag (s7 _ _ x1) rfl (Bo d7 (by show (4:Nat)≤10;decide) (by simp only[aa2,aa5];omega) λp8 H8 s8 d8=>ag ((s7.trans s8) _ _ a1) rfl (catD d8 (a2.tk (TK.of (s7.trans s8))) (by simp only[aa2,aa5];omega) λp9 H9 s9 d9=>?_)))));have s79:=s7.trans (s8.trans s9);refine ag (s79 _ _ a1) rfl (ag (s79 _ _ b1) rfl (ag (s79 _ _ x1) rfl ⟨by show (5:Nat)≤sizeLine;decide,λsa hsa=>?_⟩));have sA:=ae hsa `aZ;have eA:upd H9 sa `aZ sa=aA `aZ:=aa;generalize upd H9 sa `aZ=HA at sA eA ⊢;exact ag ((s79.trans sA) _ _ a1) rfl (Bo (d9.tk (TK.of sA)) (by show (4:Nat)≤10;decide) (by simp only[aa2,aa5];omega) λpB HB sB dB=>Iw (sB _ _ eA) dB λt HC sC mC=>q t _ _ HC (Mk.s3 hw3 ho3 ok1 ok2 ok3) (S6.trans (s79.trans (sA.trans (sB.trans sC)))) mC)
   ·refine ag a1 rfl (ag b1 rfl (catD a2 b2 (by omega) λp7 H7 s7 d7=>ag (s7 _ _ a1) rfl (ag (s7 _ _ b1) rfl (Bo d7 (by show (4:Nat)≤10;decide) (by simp only[aa2,aa5];omega) λp8 H8 s8 d8=>ag ((s7.trans s8) _ _ x1) rfl (catD d8 (x2.tk (TK.of (s7.trans s8))) (by simp only[aa2,aa5];omega) λp9 H9 s9 d9=>?_)))));have s79:=s7.trans (s8.trans s9);refine ag (s79 _ _ a1) rfl (ag (s79 _ _ b1) rfl (ag (s79 _ _ x1) rfl ⟨by show (5:Nat)≤sizeLine;decide,λsa hsa=>?_⟩));have sA:=ae hsa `a0;have eA:upd H9 sa `a0 sa=aA `a0:=aa;generalize upd H9 sa `a0=HA at sA eA ⊢;exact ag ((s79.trans sA) _ _ x1) rfl (Bo (d9.tk (TK.of sA)) (by show (4:Nat)≤10;decide) (by simp only[aa2,aa5];omega) λpB HB sB dB=>Iw (sB _ _ eA) dB λt HC sC mC=>q t _ _ HC (Mk.s4 hw3 ho3 ok1 ok2 ok3) (S6.trans (s79.trans (sA.trans (sB.trans sC)))) mC)
noncomputable abbrev qp:Stmt:=top 34
theorem Jy:av ["script","kinds","draw","made","some","deeds"] ["script","kinds"] (af qp):=⟨rfl,rfl,rfl,by decide+kernel,rfl,by decide+kernel,by decide+kernel⟩
theorem Mt (G:Gs w K mg κ) (h_law_draw:Has P w K mg base k "_law_draw" ["script","k"] (lp K)) (D:Def K mg "_law_more" qp ["script","kinds"]):Has P w K mg base (k+1) "_law_more" ["script","kinds"] (xi K):=by
 refine D.has Jy (λvs H Q E h=>?_) (λf cdv A outer s H vs Q E hr h=>?_)
 ·obtain ⟨_,_,_,_,rfl,_,_,_,_,_⟩:=h;rfl
 have nd:=Jy.nd;have hu:=br hr;have hu0:=aae hu;obtain ⟨a,kl,ns,kinds,rfl,hA,hl,hK,hk1,q⟩:=h;have m_len:=G.m_len;have m_range:=G.m_range;have m_tuple:=G.m_tuple;refine ⟨_,(A5 (BT 2 nd `s) (A5 (A9 3 nd (AQ (A2 0))) (BG (AK (AI (AR 0) (A4 (AG 0) (AH 2) (A3 0)) (A3 0) (AF 0)) (A5 (A9 4 nd (B0 (BB 0) m_tuple dq (A1 (BI (B8 ["k"] ["kinds","draw"] [1,2] (aad rfl `aA) (aad (aad rfl (aad rfl rfl)) `n)) (C0 m_range (A1 (A3 0) (A2 0))) (λ_ _ _=>(B9 0 (show abj (["k","kinds","draw"]:List Str) by decide+kernel))) (λ_ _ _=>(@zy _)) (λ_ _ _=>(A6 (@Fb _ K rfl) (AH 1) (A4 (AG 0) (A4 (AT 0) (AH 2) (A4 (AM 0) (A3 0) (A4 (@jf _) (A3 0) (A0 0)))) (AJ (@Af _ K rfl) m_len cm (A1 (AH 1) (A2 0))))))) (A2 0)))) (A5 (A9 5 nd (A8 (A1 (A8 (AW (AB `F))) (A1 (A8 (AW (AB `F))) (A1 (A8 (AW (AB `F))) (A2 0)))))) (A7 (AU (AV aM aS aT (AY 0) (A0 3) (A1 (A8 (A1 (A4 (B6 0) (A4 (B6 0) (A4 (B6 0) (A8 (A1 (AC 0) `aD)) (BJ (@j6 _) (A0 4) (BK 0) (BL (A3 0)))) (A8 `aD)) (BJ (@j6 _) (A0 4) (BL (A3 0)) (BK 0))) (A1 (A0 5) (A2 0)))) (A2 0))))))) (AL 0)) (BG (AK `aQ (A7 (AU (AV aM aS aT (AY 0) (A0 3) (A1 (A8 (A1 (A8 (A1 (AC 0) (A1 (A3 0) (A1 (A6 (AO 0) (AH 1) (A3 0)) (A2 0))))) (A1 (A8 (A1 (A8 (AW (AB (AB (BA (AX 0)))))) (A1 (A8 (AW (AB (AB (BA (AX 0)))))) (A2 0)))) (A2 0)))) (A2 0))))) (AL 0)) (BG (AK `aQ (A5 (A9 5 nd (A8 (A1 (A8 (AW (AB (AB (BA (AX 0)))))) (A1 (A8 (AW (AB `F))) (A1 (A8 (AW `F)) (A1 (A8 (AW `F)) (A2 0))))))) (A7 (AU (AV aM aS aT (AY 0) (A0 3) (A1 (A8 (A1 (A8 (A1 (AC 0) (A1 (A3 0) (A1 (A6 (AO 0) (AH 1) (A4 (AG 0) (A4 (AT 0) (AH 2) (A3 0)) (AJ (AS 0) m_len cm (A1 (AH 1) (A2 0))))) (A2 0))))) (A1 (A0 5) (A2 0)))) (A2 0)))))) (AL 0)) (BG (AK `aQ (A7 (AU (AV aM aS aT (AY 0) (A0 3) (A1 (A8 (A1 (A8 (AW (AB (AB (BA (AX 0)))))) (A1 (A8 (A1 (A8 (AW (AB (AB (BA (AX 0)))))) (A2 0))) (A2 0)))) (A2 0))))) (AL 0)) (A7 (AE (A0 3))))))))),?_⟩;rw[show start ["script","kinds","draw","made","some","deeds"] [.ref a,.ref kl]=[aA `r,aA (.ref kl),none,none,none,none] from rfl];clear hu hu0 nd hr;push_cast [and_true];have sz:=aQ;refine cz (k:=57) hA hl (by omega) ⟨aag _,λml hml=>?_⟩;have nkm:kl≠ml:=ao hK hml;have fK:∀{H':Hp},ah H H'→H' kl=aA (.lst `h):=λs=>s _ _ hK;obtain ⟨I,eI⟩:∃I:Nat→L2.St→Hp→Prop,∀j σ H',I j σ H'↔∃(as:List Addr) (ms:List Md) (v4 v5:Option V),σ=[aA `r,aA (.ref kl),aA (.int (drw ns 57)),aA (.ref ml),v4,v5]∧ah H H'∧H' ml=aA `f∧ck H' as ms∧ms.length≤j∧∀x∈ms,Mk kinds x.1 x.2:=⟨_,λ_ _ _=>abu⟩;have add:∀{j:Nat} {as:List Addr} {ms:List Md} {HA HB:Hp} (t:Addr) (sh:List V) (dd:List `z) (v4 v5:Option V),j≤10→ah H HA→HA ml=aA `f→ck HA as ms→ms.length≤j→(∀x∈ms,Mk kinds x.1 x.2)→ah HA HB→jg HB t sh dd→Mk kinds sh dd→nu (.ref ml) [.ref t] HB λ_ H1=>I (j+1) [aA `r,aA (.ref kl),aA (.int (drw ns 57)),aA (.ref ml),v4,v5] H1:=λ{j as ms HA HB} t sh dd v4 v5 hj sA mA MA lA kA sB hM hk=>by
  have mB:=sB _ _ mA;have al:=MA.1;have tk:TK HB (upd HB ml `S):=TK.put mB (λ_ z=>nomatch z);refine (b8 (K:=K) mB (by rw[aa0];omega) ((eI _ _ _).mpr ⟨as++[t],ms++[(sh,dd)],_,_,rfl,(sA.trans sB).upd hml _,by rw[aa,aaa];rfl,((MA.tk (TK.of sB)).app (ck.one hM)).tk tk,by rw[aa2];show _+1≤_;omega,λx hx=>?_⟩)).2;rcases List.mem_append.mp hx with hx | hx
  ·exact kA x hx
  ·rw[List.mem_singleton.mp hx];exact hk
 have keep:∀{j:Nat} {σ:L2.St} {H':Hp},I j σ H'→I (j+1) σ H':=λh=>by
  obtain ⟨as,ms,v4,v5,h1,h2,h3,h4,h5,h6⟩:=(eI _ _ _).mp h;exact (eI _ _ _).mpr ⟨as,ms,v4,v5,h1,h2,h3,h4,by omega,h6⟩
 have i0:I 0 [aA `r,aA (.ref kl),aA (.int (drw ns 57)),aA (.ref ml),none,none] (upd H ml `ai):=(eI _ _ _).mpr ⟨[],[],_,_,rfl,ae hml _,aa,ck.nil _,aa3 _,λ_ h=>(aac h).elim⟩;refine g6 (I 1) ?_ ?_
 ·generalize upd H ml `ai=H1 at i0 ⊢;push_cast [and_true];refine ⟨rfl,de (λ_=>?_) λ_=>keep i0⟩;obtain ⟨as,ms,v4,v5,_,s1,m1,M1,l1,k1⟩:=(eI _ _ _).mp i0;intro D hD;refine Gr (λi ys=>∃zs:List Str,ys=zs.map V.str∧zs.length=i∧∀z∈zs,z∈kinds) (by show (4:Nat) < _;omega) hD ⟨[],rfl,rfl,λ_ h=>(aac h).elim⟩ (λi ys H2 G' K' hi hP hl2 hS hG hK'=>?_) λys H2 hP hl2 hS hD2=>?_
  ·obtain ⟨zs,rfl,zl,zk⟩:=hP;have hi:i < 4:=hi;push_cast [and_true];obtain ⟨j,hj,ej⟩:=zx (drw ns 57 / (2+3*(0+(i:Int)))) (n:=kinds.length) (by omega);refine ⟨by unfold yr;omega,by omega,by omega,kinds.map V.str,.inl (SqL.of (hS _ _ (fK s1))),by rw[aa0];omega,az (v:=.str kinds[j]) (hS _ _ (fK s1)) (by rw[aa0,ej];exact ay (by rw[aa4,aa1 hj];rfl)) (hK' _ _ `aM ⟨zs++[kinds[j]],by rw[aaa];rfl,by rw[aa2,zl];rfl,Ta zk λz hz=>by rw[List.mem_singleton.mp hz];exact aaf hj⟩)⟩
  obtain ⟨zs,rfl,zl,zk⟩:=hP;have zl:zs.length=4:=zl;obtain ⟨x1,x2,x3,x4,rfl⟩:∃x1 x2 x3 x4,zs=[x1,x2,x3,x4]:=us4 (P:=λzs=>∃x1 x2 x3 x4,zs=[x1,x2,x3,x4]) zl λa b c d=>⟨a,b,c,d,rfl⟩;refine ⟨_,.inl ⟨SqL.of hD2,λst hst=>?_⟩⟩;have s_st:=ae hst (.tup ([x1,x2,x3,x4].map V.str));have e_st:upd H2 st (.tup ([x1,x2,x3,x4].map V.str)) st=aA (.tup ([x1,x2,x3,x4].map V.str)):=aa;generalize upd H2 st (.tup ([x1,x2,x3,x4].map V.str))=H3 at s_st e_st ⊢;refine ⟨by show (4:Nat)≤sizeLine;decide,λd1 h_d1=>?_⟩;have s_d1:=ae h_d1 `aq;have e_d1:upd H3 d1 `aq d1=aA `aq:=aa;generalize upd H3 d1 `aq=H4 at s_d1 e_d1 ⊢;refine ⟨by show (4:Nat)≤sizeLine;decide,λd2 h_d2=>?_⟩;have s_d2:=ae h_d2 `al;have e_d2:upd H4 d2 `al d2=aA `al:=aa;generalize upd H4 d2 `al=H5 at s_d2 e_d2 ⊢;refine ⟨by show (4:Nat)≤sizeLine;decide,λd3 h_d3=>?_⟩;have s_d3:=ae h_d3 `aI;have e_d3:upd H5 d3 `aI d3=aA `aI:=aa;generalize upd H5 d3 `aI=H6 at s_d3 e_d3 ⊢;refine ⟨by show (3:Nat)≤sizeLine;decide,λda h_da=>?_⟩;have s_da:=ae h_da `I;have e_da:upd H6 da `I da=aA `I:=aa;generalize upd H6 da `I=H7 at s_da e_da ⊢;have s17:=hS.trans (s_st.trans (s_d1.trans (s_d2.trans (s_d3.trans s_da))));refine ⟨bf (s17 _ _ m1),?_⟩;refine ⟨by show (2:Nat)≤sizeLine;decide,λp0 h_p0=>?_⟩;have s_p0:=ae h_p0 (.tup [V.str `i,V.str `i]);have e_p0:upd H7 p0 (.tup [V.str `i,V.str `i]) p0=aA (.tup [V.str `i,V.str `i]):=aa;generalize upd H7 p0 (.tup [V.str `i,V.str `i])=H8 at s_p0 e_p0 ⊢;have e2:=(s_d1.trans (s_d2.trans (s_d3.trans (s_da.trans s_p0)))) _ _ e_st;have D8:dw H8 da [[V.str `i,V.str `u,V.str (aB "h1"),V.str (aB "h2")],[V.str `i,V.str (aB "t2"),V.str (aB "h3"),V.str (aB "h4")],[V.str `i,V.str `k,V.str `u,V.str (aB "t2")]]:=⟨[d1,d2,d3],s_p0 _ _ e_da,bc.cons ((s_d2.trans (s_d3.trans (s_da.trans s_p0))) _ _ e_d1) (bc.cons ((s_d3.trans (s_da.trans s_p0)) _ _ e_d2) (bc.one ((s_da.trans s_p0) _ _ e_d3)))⟩;refine ko e2 λq1 H9 s9 h9=>?_;rw[show ir ([x1,x2,x3,x4].map V.str) none (aA 2)=[V.str x1,V.str x2] from cut2 _ _ _ _] at h9;refine g7 (s9 _ _ e_p0) h9 (by show (4:Nat)≤sizeLine;decide) λq2 HA sA hA2=>?_;refine ⟨by show (1:Nat)≤sizeLine;decide,λq3 h_q3=>?_⟩;have s_q3:=ae h_q3 (.tup [V.str `i]);have e_q3:upd HA q3 (.tup [V.str `i]) q3=aA (.tup [V.str `i]):=aa;generalize upd HA q3 (.tup [V.str `i])=HB at s_q3 e_q3 ⊢;refine g7 (s_q3 _ _ hA2) e_q3 (by show (5:Nat)≤sizeLine;decide) λq4 HC sC hC=>?_;have s8C:=s9.trans (sA.trans (s_q3.trans sC));refine ko (s8C _ _ e2) λq5 HD' sD hD5=>?_;rw[show ir ([x1,x2,x3,x4].map V.str) (aA 2) none=[V.str x3,V.str x4] from ma [V.str x1,V.str x2,V.str x3,V.str x4] 2 0 (by show (2:Nat)≤4;decide)] at hD5;refine g7 (sD _ _ hC) hD5 (by show (7:Nat)≤sizeLine;decide) λq6 HE sE hE=>?_;have s8E:=s8C.trans (sD.trans sE);refine ⟨by show (2:Nat)≤sizeLine;decide,λt h_t=>?_⟩;have s_t:=ae h_t (.tup [V.ref q6,V.ref da]);have e_t:upd HE t (.tup [V.ref q6,V.ref da]) t=aA (.tup [V.ref q6,V.ref da]):=aa;generalize upd HE t (.tup [V.ref q6,V.ref da])=HF at s_t e_t ⊢;exact add t _ _ _ _ (by omega) s1 m1 M1 l1 k1 (s17.trans (s_p0.trans (s8E.trans s_t))) ⟨q6,da,e_t,s_t _ _ hE,(D8.tk (TK.of (s8E.trans s_t)))⟩ (Mk.four (zk x1 `b) (zk x2 `b) (zk x3 `b) (zk x4 `b))
 rintro σ H2 hh;obtain ⟨as,ms,v4,v5,rfl,s2,m2,M2,l2,k2⟩:=(eI _ _ _).mp hh;refine g6 (I 2) ?_ ?_
 ·push_cast [and_true];refine ⟨rfl,de (λ_=>⟨bf m2,az (v:=.str kinds[0]) (fK s2) (ay (j:=0) (by rw[aa4,aa1 (by omega)];rfl)) ?_⟩) λ_=>keep hh⟩;refine ⟨by show (3:Nat)≤sizeLine;decide,λsa h_sa=>?_⟩;have s_sa:=ae h_sa (.tup [V.str `B,V.int 0,V.str kinds[0]]);have e_sa:upd H2 sa (.tup [V.str `B,V.int 0,V.str kinds[0]]) sa=aA (.tup [V.str `B,V.int 0,V.str kinds[0]]):=aa;generalize upd H2 sa (.tup [V.str `B,V.int 0,V.str kinds[0]])=H3 at s_sa e_sa ⊢;refine ⟨by show (3:Nat)≤sizeLine;decide,λd1 h_d1=>?_⟩;have s_d1:=ae h_d1 (.tup [V.str `W,V.str (aB "t3"),V.int 1]);have e_d1:upd H3 d1 (.tup [V.str `W,V.str (aB "t3"),V.int 1]) d1=aA (.tup [V.str `W,V.str (aB "t3"),V.int 1]):=aa;generalize upd H3 d1 (.tup [V.str `W,V.str (aB "t3"),V.int 1])=H4 at s_d1 e_d1 ⊢;refine ⟨by show (3:Nat)≤sizeLine;decide,λd2 h_d2=>?_⟩;have s_d2:=ae h_d2 `ak;have e_d2:upd H4 d2 `ak d2=aA `ak:=aa;generalize upd H4 d2 `ak=H5 at s_d2 e_d2 ⊢;refine ⟨by show (2:Nat)≤sizeLine;decide,λda h_da=>?_⟩;have s_da:=ae h_da (.tup [V.ref d1,V.ref d2]);have e_da:upd H5 da (.tup [V.ref d1,V.ref d2]) da=aA (.tup [V.ref d1,V.ref d2]):=aa;generalize upd H5 da (.tup [V.ref d1,V.ref d2])=H6 at s_da e_da ⊢;refine ⟨by show (2:Nat)≤sizeLine;decide,λt h_t=>?_⟩;have s_t:=ae h_t `j;have e_t:upd H6 t `j t=aA `j:=aa;generalize upd H6 t `j=H7 at s_t e_t ⊢;exact add t _ _ _ _ (by omega) s2 m2 M2 l2 k2 (s_sa.trans (s_d1.trans (s_d2.trans (s_da.trans s_t)))) ⟨sa,da,e_t,(s_d1.trans (s_d2.trans (s_da.trans s_t))) _ _ e_sa,[d1,d2],s_t _ _ e_da,bc.cons ((s_d2.trans (s_da.trans s_t)) _ _ e_d1) (bc.one ((s_da.trans s_t) _ _ e_d2))⟩ (Mk.zero (aaf _))
 rintro σ H3 hh;obtain ⟨as,ms,v4,v5,rfl,s3,m3,M3,l3,k3⟩:=(eI _ _ _).mp hh;refine g6 (I 3) ?_ ?_
 ·push_cast [and_true];refine ⟨rfl,de (λ_=>?_) λ_=>keep hh⟩;refine ⟨by show (3:Nat)≤sizeLine;decide,λd1 h_d1=>?_⟩;have s_d1:=ae h_d1 (.tup [V.str `W,V.str `u,V.int 9]);have e_d1:upd H3 d1 (.tup [V.str `W,V.str `u,V.int 9]) d1=aA (.tup [V.str `W,V.str `u,V.int 9]):=aa;generalize upd H3 d1 (.tup [V.str `W,V.str `u,V.int 9])=H4 at s_d1 e_d1 ⊢;refine ⟨by show (4:Nat)≤sizeLine;decide,λd2 h_d2=>?_⟩;have s_d2:=ae h_d2 `ar;have e_d2:upd H4 d2 `ar d2=aA `ar:=aa;generalize upd H4 d2 `ar=H5 at s_d2 e_d2 ⊢;refine ⟨by show (3:Nat)≤sizeLine;decide,λd3 h_d3=>?_⟩;have s_d3:=ae h_d3 (.tup [V.str `A,V.str `u,V.str `u]);have e_d3:upd H5 d3 (.tup [V.str `A,V.str `u,V.str `u]) d3=aA (.tup [V.str `A,V.str `u,V.str `u]):=aa;generalize upd H5 d3 (.tup [V.str `A,V.str `u,V.str `u])=H6 at s_d3 e_d3 ⊢;refine ⟨by show (3:Nat)≤sizeLine;decide,λd4 h_d4=>?_⟩;have s_d4:=ae h_d4 (.tup [V.str `A,V.str `k,V.str `u]);have e_d4:upd H6 d4 (.tup [V.str `A,V.str `k,V.str `u]) d4=aA (.tup [V.str `A,V.str `k,V.str `u]):=aa;generalize upd H6 d4 (.tup [V.str `A,V.str `k,V.str `u])=H7 at s_d4 e_d4 ⊢;refine ⟨by show (4:Nat)≤sizeLine;decide,λda h_da=>?_⟩;have s_da:=ae h_da `a7;have e_da:upd H7 da `a7 da=aA `a7:=aa;generalize upd H7 da `a7=H8 at s_da e_da ⊢;have s38:=s_d1.trans (s_d2.trans (s_d3.trans (s_d4.trans s_da)));obtain ⟨j,hj,ej⟩:=zx (drw ns 57 / 18) (n:=kinds.length) (by omega);refine ⟨bf (s38 _ _ m3),kinds.map V.str,.inl (SqL.of (fK (s3.trans s38))),by rw[aa0];omega,az (v:=.str kinds[j]) (fK (s3.trans s38)) (by rw[aa0,ej];exact ay (by rw[aa4,aa1 hj];rfl)) ?_⟩;refine ⟨by show (3:Nat)≤sizeLine;decide,λsa h_sa=>?_⟩;have s_sa:=ae h_sa (.tup [V.str `B,V.int 2,V.str kinds[j]]);have e_sa:upd H8 sa (.tup [V.str `B,V.int 2,V.str kinds[j]]) sa=aA (.tup [V.str `B,V.int 2,V.str kinds[j]]):=aa;generalize upd H8 sa (.tup [V.str `B,V.int 2,V.str kinds[j]])=H9 at s_sa e_sa ⊢;refine ⟨by show (2:Nat)≤sizeLine;decide,λt h_t=>?_⟩;have s_t:=ae h_t `j;have e_t:upd H9 t `j t=aA `j:=aa;generalize upd H9 t `j=HA at s_t e_t ⊢;have s9A:=s_sa.trans s_t;exact add t _ _ _ _ (by omega) s3 m3 M3 l3 k3 (s38.trans s9A) ⟨sa,da,e_t,s_t _ _ e_sa,[d1,d2,d3,d4],s9A _ _ e_da,bc.cons ((s_d2.trans (s_d3.trans (s_d4.trans (s_da.trans s9A)))) _ _ e_d1) (bc.cons ((s_d3.trans (s_d4.trans (s_da.trans s9A))) _ _ e_d2) (bc.cons ((s_d4.trans (s_da.trans s9A)) _ _ e_d3) (bc.one ((s_da.trans s9A) _ _ e_d4))))⟩ (Mk.twice (aaf hj))
 rintro σ H4 hh;obtain ⟨as,ms,v4,v5,rfl,s4,m4,M4,l4,k4⟩:=(eI _ _ _).mp hh;refine g6 (I 4) ?_ ?_
 ·push_cast [and_true];refine ⟨rfl,de (λ_=>⟨bf m4,?_⟩) λ_=>keep hh⟩;refine ⟨by show (3:Nat)≤sizeLine;decide,λsa h_sa=>?_⟩;have s_sa:=ae h_sa (.tup [V.str `B,V.str `be,V.int 0]);have e_sa:upd H4 sa (.tup [V.str `B,V.str `be,V.int 0]) sa=aA (.tup [V.str `B,V.str `be,V.int 0]):=aa;generalize upd H4 sa (.tup [V.str `B,V.str `be,V.int 0])=H5 at s_sa e_sa ⊢;refine ⟨by show (3:Nat)≤sizeLine;decide,λd1 h_d1=>?_⟩;have s_d1:=ae h_d1 `ak;have e_d1:upd H5 d1 `ak d1=aA `ak:=aa;generalize upd H5 d1 `ak=H6 at s_d1 e_d1 ⊢;refine ⟨by show (1:Nat)≤sizeLine;decide,λda h_da=>?_⟩;have s_da:=ae h_da `L;have e_da:upd H6 da `L da=aA `L:=aa;generalize upd H6 da `L=H7 at s_da e_da ⊢;refine ⟨by show (2:Nat)≤sizeLine;decide,λt h_t=>?_⟩;have s_t:=ae h_t `j;have e_t:upd H7 t `j t=aA `j:=aa;generalize upd H7 t `j=H8 at s_t e_t ⊢;exact add t _ _ _ _ (by omega) s4 m4 M4 l4 k4 (s_sa.trans (s_d1.trans (s_da.trans s_t))) ⟨sa,da,e_t,(s_d1.trans (s_da.trans s_t)) _ _ e_sa,[d1],s_t _ _ e_da,bc.one ((s_da.trans s_t) _ _ e_d1)⟩ Mk.vzero
 rintro σ H5 hh;obtain ⟨as,ms,v4,v5,rfl,s5,m5,M5,l5,k5⟩:=(eI _ _ _).mp hh;push_cast [and_true];exact q ml as ms H5 s5 hml m5 M5 l5 k5
noncomputable abbrev qb:Stmt:=top 35
theorem Jn:av ["script","kinds","made","k","word","some","rules","pair","kind","number","deeds","price","at"] ["script"] (af qb):=⟨rfl,rfl,rfl,by decide+kernel,rfl,by decide+kernel,by decide+kernel⟩
theorem Rb (G:Gs w K mg κ) (h_law_draw:Has P w K mg base k "_law_draw" ["script","k"] (lp K)) (h_law_more:Has P w K mg base k "_law_more" ["script","kinds"] (xi K)) (h_law_number:Has P w K mg base k "_law_number" ["draw"] zi) (h_law_price:Has P w K mg base k "_law_price" ["draw"] sj) (h_law_shape:Has P w K mg base k "_law_shape" ["draw","more","kinds"] ui) (h_law_word:Has P w K mg base k "_law_word" ["script","i"] (yd K)) (D:Def K mg "_law_book" qb ["script"]):Has P w K mg base (k+1) "_law_book" ["script"] (xh K):=by
 refine D.has Jn (λvs H Q E h=>?_) (λf cdv A outer s H vs Q E hr h=>?_)
 ·obtain ⟨_,_,rfl,_,_,_⟩:=h;rfl
 have nd:=Jn.nd;have hu:=br hr;have hu0:=aae hu;obtain ⟨a,ns,rfl,hA,hl,q⟩:=h;have m_enumerate:=G.m_enumerate;have m_len:=G.m_len;have m_range:=G.m_range;have m_tuple:=G.m_tuple;refine ⟨_,(A5 (BU 1 nd (B8 ["k"] ["script"] [0] `aA `n) (C0 m_range (A1 (A4 (AM 0) (A3 0) (A4 (AG 0) (AD h_law_draw hr (A1 (AH 0) (A1 (A3 0) (A2 0)))) (A3 0))) (A2 0))) (λ_ _ _=>(B9 0 (show abj (["k","script"]:List Str) by decide+kernel))) (λ_ _ _=>(@zy _)) (λ_ _ _=>(AD h_law_word hr (A1 (AH 1) (A1 (A0 0) (A2 0)))))) (A5 (A9 2 nd (AQ (A1 (A8 (A1 (A8 `aD) (A1 (A8 (A1 (A8 (AW `F)) (A2 0))) (A2 0)))) (A1 (A8 (A1 (A8 `aD) (A1 (A8 (A1 (A8 (AW `F)) (A2 0))) (A2 0)))) (A2 0))))) (A5 (AZ (C9 m_enumerate (A1 (AQ (AW (AB `F))) (A2 0))) (BM 2 (B5 (AN 3 nd (by first | exact ab5 rfl | exact ab3 rfl)) (B5 (AN 4 nd (by first | exact ab5 rfl | exact ab3 rfl)) (BN 0)))) (A7 (AK (AI (@jh _) (A4 (AG 0) (AD h_law_draw hr (A1 (AH 0) (A1 (A4 (AM 0) (A3 0) (A0 3)) (A2 0)))) (A3 0)) (A3 0) (AF 0)) (A5 (A9 5 nd (A8 (A1 (A6 (AO 0) (A0 1) (A4 (AG 0) (A4 (AT 0) (AD h_law_draw hr (A1 (AH 0) (A1 (A4 (AM 0) (A3 0) (A0 3)) (A2 0)))) (A3 0)) (AJ (AS 0) m_len cm (A1 (A0 1) (A2 0))))) (A1 (A6 (AO 0) (A0 1) (A3 0)) (A2 0))))) (A7 (AK (AI (AR 0) (A0 4) (AC 0) (AF 0)) (A7 (AU (AV aM aS aT (AY 0) (A0 2) (A1 (A8 (A1 (A4 (B6 0) (A8 (A1 (AC 0) (A2 0))) (BJ (@j6 _) (A0 5) (BK 0) (BL (A3 0)))) (A1 (A8 (A1 (A8 (AW (AB (AB (AB (AX 0)))))) (A2 0))) (A2 0)))) (A2 0))))) (A7 (AU (AV aM aS aT (AY 0) (A0 2) (A1 (A8 (A1 (A4 (B6 0) (A8 (A1 (A0 4) (A2 0))) (A0 5)) (A1 (A8 (A1 (A8 (A1 (A0 4) (A1 (AC 0) (A1 (AC 0) (A1 (AC 0) (A2 0)))))) (A2 0))) (A2 0)))) (A2 0)))))))) (AL 0)))) (A5 (A9 2 nd (A4 (@G7 _) (A0 2) (AD h_law_more hr (A1 (AH 0) (A1 (A0 1) (A2 0)))))) (A5 (AZ (C0 m_range (A1 (A4 (AG 0) (AD h_law_draw hr (A1 (AH 0) (A1 (A3 0) (A2 0)))) (A3 0)) (A2 0))) (AN 3 nd (by first | exact ab5 rfl | exact ab3 rfl)) (A7 (AU (AV aM aS aT (AY 0) (A0 2) (A1 (AD h_law_shape hr (A1 (AD h_law_draw hr (A1 (AH 0) (A1 (A4 (AM 0) (A3 0) (A4 (@jf _) (A3 0) (A0 3))) (A2 0)))) (A1 (AD h_law_draw hr (A1 (AH 0) (A1 (A4 (AM 0) (A3 0) (A4 (@jf _) (A3 0) (A0 3))) (A2 0)))) (A1 (A0 1) (A2 0))))) (A2 0)))))) (A5 (A9 6 nd (AQ (A2 0))) (A5 (AZ (C9 m_enumerate (A1 (A0 2) (A2 0))) (BM 2 (B5 (AN 3 nd (by first | exact ab5 rfl | exact ab3 rfl)) (B5 (AN 7 nd (by first | exact ab5 rfl | exact ab3 rfl)) (BN 0)))) (A5 (A9 8 nd (A6 (AO 0) (A0 1) (A3 0))) (BG (AK (BO (BR (AI (@Ie _) (A0 3) (A3 0) (AF 0)) (C1 (AI (@Dj _) (A0 3) (A3 0) (AF 0))))) (A7 (A9 8 nd (A6 (AO 0) (A0 1) (A4 (AG 0) (A4 (AT 0) (AD h_law_draw hr (A1 (AH 0) (A1 (A4 (AM 0) (A3 0) (A0 3)) (A2 0)))) (A3 0)) (AJ (AS 0) m_len cm (A1 (A0 1) (A2 0))))))) (AL 0)) (A7 (AU (AV aM aS aT (AY 0) (A0 6) (A1 (A8 (A1 (AD h_law_word hr (A1 (AH 0) (A1 (A4 (AM 0) (A3 0) (A0 3)) (A2 0)))) (A1 (A0 8) (A1 (AD h_law_price hr (A1 (AD h_law_draw hr (A1 (AH 0) (A1 (A4 (AM 0) (A3 0) (A0 3)) (A2 0)))) (A2 0))) (A1 (A6 (AA 0) (A0 7) (A3 0)) (A1 (A6 (AA 0) (A0 7) (A3 0)) (A2 0))))))) (A2 0)))))))) (A5 (AZ (C0 m_range (A1 (A4 (BH 0) (AJ (AS 0) m_len cm (A1 (A0 1) (A2 0))) (A3 0)) (A2 0))) (AN 3 nd (by first | exact ab5 rfl | exact ab3 rfl)) (A7 (AZ (BP (AQ (A1 (A8 (A1 (A0 3) (A1 (A4 (AM 0) (A0 3) (A3 0)) (A2 0)))) (A1 (A8 (A1 (A4 (AM 0) (A0 3) (A3 0)) (A1 (A0 3) (A2 0)))) (A2 0))))) (AN 7 nd (by first | exact ab5 rfl | exact ab3 rfl)) (A5 (A9 9 nd (AD h_law_number hr (A1 (AD h_law_draw hr (A1 (AH 0) (A1 (A4 (AM 0) (A3 0) (A0 3)) (A2 0)))) (A2 0)))) (A5 (A9 10 nd (A8 (A1 (A8 (A1 (AC 0) (A1 (AC 0) (A1 (A0 9) (A2 0))))) (A1 (A8 (AW (AB (AB (AB (AB (AX 0))))))) (A1 (A8 (AW (AB (AB (AB (AB (AX 0))))))) (A2 0)))))) (A5 (A9 11 nd (AD h_law_price hr (A1 (AD h_law_draw hr (A1 (AH 0) (A1 (A4 (AM 0) (A3 0) (AJ (AS 0) m_len cm (A1 (A0 6) (A2 0)))) (A2 0)))) (A2 0)))) (A7 (AU (AV aM aS aT (AY 0) (A0 6) (A1 (A8 (A1 (AD h_law_word hr (A1 (AH 0) (A1 (A4 (AM 0) (A3 0) (AJ (AS 0) m_len cm (A1 (A0 6) (A2 0)))) (A2 0)))) (A1 (A6 (AO 0) (A0 1) (A6 (AA 0) (A0 7) (A3 0))) (A1 (A0 11) (A1 (A8 (A1 (A6 (AO 0) (A0 1) (A6 (AA 0) (A0 7) (A3 0))) (A2 0))) (A1 (A0 10) (A2 0))))))) (A2 0))))))))))) (A5 (A9 12 nd (A4 (AG 0) (AD h_law_draw hr (A1 (AH 0) (A1 (A3 0) (A2 0)))) (AJ (AS 0) m_len cm (A1 (A0 6) (A2 0))))) (A7 (AE (A8 (A1 (B0 (BB 0) m_tuple dq (A1 (A0 1) (A2 0))) (A1 (B0 (BB 0) m_tuple dq (A1 (A4 (@G7 _) (BJ (@Jw _) (A0 6) (BL (A0 12)) (BK 0)) (BJ (@Jw _) (A0 6) (BK 0) (BL (A0 12)))) (A2 0))) (A2 0))))))))))))))),?_⟩;rw[show start ["script","kinds","made","k","word","some","rules","pair","kind","number","deeds","price","at"] [.ref a]=[aA (.ref a),none,none,none,none,none,none,none,none,none,none,none,none] from rfl];clear hu hu0 nd hr;push_cast [and_true];have sz:=aQ;obtain ⟨mk,hmk1,hmk3,emk⟩:∃mk:Nat,1≤mk∧mk≤3∧1+drw ns 40 % 3=(mk:Int):=⟨(1+drw ns 40 % 3).toNat,by omega,by omega,by omega⟩;refine cz (k:=40) hA hl (by omega) ⟨by decide,by omega,by omega,λkl hkl=>?_⟩;rw[emk];refine Gr (λi ys=>ys=((abl i).map (wd ns)).map V.str) (by show mk < _;omega) hkl rfl (λi ys H1 G' K' hi hP hl2 hS hG hK=>?_) λys H1 hP hl2 hS hkl2=>?_
 ·have hi:i < mk:=hi;push_cast [and_true];rw[Int.zero_add];refine Dc (hS.seq hA) hl (by omega) (hK _ _ `aM ?_);rw[hP,List.range_succ,aaa,aaa];rfl
 obtain ⟨kinds,hkd⟩:∃kinds,kinds=(abl mk).map (wd ns):=⟨_,rfl⟩;rw[show (mk:Int).toNat=mk from rfl,←hkd] at hP;subst hP;have kl1:kinds.length=mk:=by rw[hkd,aa0,abx]
 have kat:∀j,(h:j < mk)→kinds[j]?=aA (wd ns j):=λj h=>by rw[hkd,aa4,List.getElem?_range h];rfl
 refine ⟨by show (1:Nat)≤sizeLine;decide,λsa1 h_sa1=>?_⟩;have s_sa1:=ae h_sa1 (.tup [V.str (aB "any")]);have e_sa1:upd H1 sa1 (.tup [V.str (aB "any")]) sa1=aA (.tup [V.str (aB "any")]):=aa;generalize upd H1 sa1 (.tup [V.str (aB "any")])=H2 at s_sa1 e_sa1 ⊢;refine ⟨by show (3:Nat)≤sizeLine;decide,λd1 h_d1=>?_⟩;have s_d1:=ae h_d1 `bf;have e_d1:upd H2 d1 `bf d1=aA `bf:=aa;generalize upd H2 d1 `bf=H3 at s_d1 e_d1 ⊢;refine ⟨by show (1:Nat)≤sizeLine;decide,λda1 h_da1=>?_⟩;have s_da1:=ae h_da1 `L;have e_da1:upd H3 da1 `L da1=aA `L:=aa;generalize upd H3 da1 `L=H4 at s_da1 e_da1 ⊢;refine ⟨by show (2:Nat)≤sizeLine;decide,λm1 h_m1=>?_⟩;have s_m1:=ae h_m1 (.tup [V.ref sa1,V.ref da1]);have e_m1:upd H4 m1 (.tup [V.ref sa1,V.ref da1]) m1=aA (.tup [V.ref sa1,V.ref da1]):=aa;generalize upd H4 m1 (.tup [V.ref sa1,V.ref da1])=H5 at s_m1 e_m1 ⊢;refine ⟨by show (1:Nat)≤sizeLine;decide,λsa2 h_sa2=>?_⟩;have s_sa2:=ae h_sa2 (.tup [V.str `be]);have e_sa2:upd H5 sa2 (.tup [V.str `be]) sa2=aA (.tup [V.str `be]):=aa;generalize upd H5 sa2 (.tup [V.str `be])=H6 at s_sa2 e_sa2 ⊢;refine ⟨by show (3:Nat)≤sizeLine;decide,λd2 h_d2=>?_⟩;have s_d2:=ae h_d2 `aK;have e_d2:upd H6 d2 `aK d2=aA `aK:=aa;generalize upd H6 d2 `aK=H7 at s_d2 e_d2 ⊢;refine ⟨by show (1:Nat)≤sizeLine;decide,λda2 h_da2=>?_⟩;have s_da2:=ae h_da2 (.tup [V.ref d2]);have e_da2:upd H7 da2 (.tup [V.ref d2]) da2=aA (.tup [V.ref d2]):=aa;generalize upd H7 da2 (.tup [V.ref d2])=H8 at s_da2 e_da2 ⊢;refine ⟨by show (2:Nat)≤sizeLine;decide,λm2 h_m2=>?_⟩;have s_m2:=ae h_m2 (.tup [V.ref sa2,V.ref da2]);have e_m2:upd H8 m2 (.tup [V.ref sa2,V.ref da2]) m2=aA (.tup [V.ref sa2,V.ref da2]):=aa;generalize upd H8 m2 (.tup [V.ref sa2,V.ref da2])=H9 at s_m2 e_m2 ⊢;refine ⟨by show (2:Nat)≤sizeLine;decide,λml h_ml=>?_⟩;have s_ml:=ae h_ml (.lst [V.ref m1,V.ref m2]);have e_ml:upd H9 ml (.lst [V.ref m1,V.ref m2]) ml=aA (.lst [V.ref m1,V.ref m2]):=aa;generalize upd H9 ml (.lst [V.ref m1,V.ref m2])=HA at s_ml e_ml ⊢;refine ⟨by show (4:Nat)≤sizeLine;decide,λwl h_wl=>?_⟩;have s_wl:=ae h_wl `as;have e_wl:upd HA wl `as wl=aA `as:=aa;generalize upd HA wl `as=HB at s_wl e_wl ⊢;have s5A:=s_sa2.trans (s_d2.trans (s_da2.trans (s_m2.trans (s_ml.trans s_wl))));have s2A:=s_d1.trans (s_da1.trans (s_m1.trans s5A));have SA:=hS.trans (s_sa1.trans s2A);have MA:ck HB [m1,m2] [([gz],[[V.str `W,V.str `k,V.str (aB "n1")]]),([gf],[[V.str (aB "load"),V.str `k,V.str (aB "v1")]])]:=(ck.one ⟨sa1,da1,s5A _ _ e_m1,s2A _ _ e_sa1,[d1],(s_m1.trans s5A) _ _ e_da1,bc.one ((s_da1.trans (s_m1.trans s5A)) _ _ e_d1)⟩).app (ck.one ⟨sa2,da2,(s_ml.trans s_wl) _ _ e_m2,(s_d2.trans (s_da2.trans (s_m2.trans (s_ml.trans s_wl)))) _ _ e_sa2,[d2],(s_m2.trans (s_ml.trans s_wl)) _ _ e_da2,bc.one ((s_da2.trans (s_m2.trans (s_ml.trans s_wl))) _ _ e_d2)⟩);have mA:=s_wl _ _ e_ml;have fml:H1 ml=none:=(s_sa1.trans (s_d1.trans (s_da1.trans (s_m1.trans (s_sa2.trans (s_d2.trans (s_da2.trans s_m2))))))).free h_ml;have sA1:=s_sa1.trans s2A;have nwm:wl≠ml:=(ao e_ml h_wl).symm;clear s2A s5A e_sa1 e_d1 e_da1 e_m1 e_sa2 e_d2 e_da2 e_m2 s_sa1 s_d1 s_da1 s_m1 s_sa2 s_d2 s_da2 s_m2;obtain ⟨P2,eP2⟩:∃P2:Nat→L2.St→Hp→Prop,∀j σ H',P2 j σ H'↔∃(as:List Addr) (ms:List Md) (v3 v4 v5:Option V),σ=[aA `r,aA (.ref kl),aA (.ref ml),v3,v4,v5,none,none,none,none,none,none,none]∧ah H1 H'∧H' wl=aA `as∧H' ml=aA `f∧ck H' as ms∧ms.length≤2+j∧(∀x∈ms,Mk kinds x.1 x.2)∧1≤ms.length:=⟨_,λ_ _ _=>abu⟩;refine ⟨wl,[V.str `i,V.str `M,V.str `B,V.str `A],rfl,SqL.of e_wl,?_⟩;refine uy (xs:=[V.str `i,V.str `M,V.str `B,V.str `A]) P2 ((eP2 _ _ _).mpr ⟨[m1,m2],_,none,none,none,rfl,sA1,e_wl,mA,MA,aa3 _,λx hx=>?_,by show (1:Nat)≤2;decide⟩) (λi σ H' _ h=>by obtain ⟨_,_,_,_,_,_,_,z,_⟩:=(eP2 _ _ _).mp h;exact SqL.of z) ?_ ?_
 ·simp only[aam,aac,or_false] at hx;rcases hx with rfl | rfl
  ·exact Mk.any
  ·exact Mk.var
 ·intro j x σ HC p0 hx hh hp0;obtain ⟨as,ms,v3,v4,v5,rfl,sC,wC,mC,MC,lC,kC,pC⟩:=(eP2 _ _ _).mp hh;have hj:j < 4:=(List.getElem?_eq_some_iff.mp hx).1;obtain ⟨w,rfl,hw⟩:∃w:Str,x=.str w∧(w="neg"∨w∈r6):=by
   rcases (show j=0∨j=1∨j=2∨j=3 by omega) with rfl | rfl | rfl | rfl
   ·cases hx;exact ⟨_,rfl,.inr `c⟩
   ·cases hx;exact ⟨_,rfl,.inr `c⟩
   ·cases hx;exact ⟨_,rfl,.inr `c⟩
   ·cases hx;exact ⟨_,rfl,.inl rfl⟩
  refine fm aa rfl ?_;have s0:=ae hp0 (.tup [V.int (j:Int),V.str w]);generalize upd HC p0 (.tup [V.int (j:Int),V.str w])=H0 at s0 ⊢;have sC0:=sC.trans s0;have SC:=hS.trans sC0;push_cast [and_true];refine cz (k:=41+j) (SC.seq hA) hl (by omega) ⟨by decide,?_⟩;refine de (λ_=>cz (k:=41+j) (SC.seq hA) hl (by omega) ⟨by decide,by decide,?_⟩) λ_=>(eP2 _ _ _).mpr ⟨as,ms,_,_,_,rfl,sC0,s0 _ _ wC,s0 _ _ mC,MC.tk (TK.of s0),by omega,kC,pC⟩;obtain ⟨i1,hi1,ei1⟩:=zx (drw ns (41+j) / 8) (n:=kinds.length) (by omega);have k0:=sC0 _ _ hkl2;have hz:0 < kinds.length:=by omega
  refine ⟨kinds.map V.str,.inl (SqL.of k0),by rw[aa0];omega,az (v:=.str kinds[i1]) k0 (by rw[aa0,ei1];exact ay (by rw[aa4,aa1 hi1];rfl)) (az (v:=.str kinds[0]) k0 (ay (j:=0) (by rw[aa4,aa1 hz];rfl)) ?_)⟩;refine ⟨by show (2:Nat)≤sizeLine;decide,λso h_so=>?_⟩;have s_so:=ae h_so (.tup [V.str kinds[i1],V.str kinds[0]]);have e_so:upd H0 so (.tup [V.str kinds[i1],V.str kinds[0]]) so=aA (.tup [V.str kinds[i1],V.str kinds[0]]):=aa;generalize upd H0 so (.tup [V.str kinds[i1],V.str kinds[0]])=H2 at s_so e_so ⊢;have s02:=s0.trans s_so;refine ⟨rfl,de (λcn=>⟨bf (s02 _ _ mC),?_⟩) λcn=>⟨bf (s02 _ _ mC),?_⟩⟩
  ·refine ⟨by show (1:Nat)≤sizeLine;decide,λp1 h_p1=>?_⟩;have s_p1:=ae h_p1 (.tup [V.str `A]);have e_p1:upd H2 p1 (.tup [V.str `A]) p1=aA (.tup [V.str `A]):=aa;generalize upd H2 p1 (.tup [V.str `A])=H3 at s_p1 e_p1 ⊢;refine ko (s_p1 _ _ e_so) λq1 H4 s4 h4=>?_;rw[show ir [V.str kinds[i1],V.str kinds[0]] none (aA 1)=[V.str kinds[i1]] from sy [V.str kinds[i1],V.str kinds[0]] 1 (by show (1:Nat)≤2;decide)] at h4;refine g7 (s4 _ _ e_p1) h4 (by show (2:Nat)≤sizeLine;decide) λsa H5 s5 h5=>?_;refine ⟨by show (3:Nat)≤sizeLine;decide,λd1 h_d1=>?_⟩;have s_d1:=ae h_d1 (.tup [V.str `A,V.str `k,V.str (aB "h1")]);have e_d1:upd H5 d1 (.tup [V.str `A,V.str `k,V.str (aB "h1")]) d1=aA (.tup [V.str `A,V.str `k,V.str (aB "h1")]):=aa;generalize upd H5 d1 (.tup [V.str `A,V.str `k,V.str (aB "h1")])=H6 at s_d1 e_d1 ⊢;refine ⟨by show (1:Nat)≤sizeLine;decide,λda h_da=>?_⟩;have s_da:=ae h_da `L;have e_da:upd H6 da `L da=aA `L:=aa;generalize upd H6 da `L=H7 at s_da e_da ⊢;refine ⟨by show (2:Nat)≤sizeLine;decide,λt h_t=>?_⟩;have s_t:=ae h_t `j;have e_t:upd H7 t `j t=aA `j:=aa;generalize upd H7 t `j=H8 at s_t e_t ⊢;have s8:=s02.trans (s_p1.trans (s4.trans (s5.trans (s_d1.trans (s_da.trans s_t)))));exact vk fml sC mC MC (by omega) s8 ⟨sa,da,e_t,(s_d1.trans (s_da.trans s_t)) _ _ h5,[d1],s_t _ _ e_da,bc.one ((s_da.trans s_t) _ _ e_d1)⟩ λH' s' m' M' kp=>(eP2 _ _ _).mpr ⟨_,_,_,_,_,rfl,s',kp _ _ nwm (s8 _ _ wC),m',M',by rw[aa2,aa5];omega,Hu kC (Mk.neg (aaf hi1)),by rw[aa2,aa5];omega⟩
  ·have hw3:w∈r6:=hw.resolve_left cn;refine ⟨by show (1:Nat)≤sizeLine;decide,λp1 h_p1=>?_⟩;have s_p1:=ae h_p1 (.tup [V.str w]);have e_p1:upd H2 p1 (.tup [V.str w]) p1=aA (.tup [V.str w]):=aa;generalize upd H2 p1 (.tup [V.str w])=H3 at s_p1 e_p1 ⊢;refine g7 e_p1 (s_p1 _ _ e_so) (by show (3:Nat)≤sizeLine;decide) λsa H5 s5 h5=>?_;refine ⟨by show (4:Nat)≤sizeLine;decide,λd1 h_d1=>?_⟩;have s_d1:=ae h_d1 `at;have e_d1:upd H5 d1 `at d1=aA `at:=aa;generalize upd H5 d1 `at=H6 at s_d1 e_d1 ⊢;refine ⟨by show (1:Nat)≤sizeLine;decide,λda h_da=>?_⟩;have s_da:=ae h_da `L;have e_da:upd H6 da `L da=aA `L:=aa;generalize upd H6 da `L=H7 at s_da e_da ⊢;refine ⟨by show (2:Nat)≤sizeLine;decide,λt h_t=>?_⟩;have s_t:=ae h_t `j;have e_t:upd H7 t `j t=aA `j:=aa;generalize upd H7 t `j=H8 at s_t e_t ⊢;have s8:=s02.trans (s_p1.trans (s5.trans (s_d1.trans (s_da.trans s_t))));exact vk fml sC mC MC (by omega) s8 ⟨sa,da,e_t,(s_d1.trans (s_da.trans s_t)) _ _ h5,[d1],s_t _ _ e_da,bc.one ((s_da.trans s_t) _ _ e_d1)⟩ λH' s' m' M' kp=>(eP2 _ _ _).mpr ⟨_,_,_,_,_,rfl,s',kp _ _ nwm (s8 _ _ wC),m',M',by rw[aa2,aa5];omega,Hu kC (Mk.two hw3 (aaf hi1) (aaf hz)),by rw[aa2,aa5];omega⟩
 ·intro σ HC hh;obtain ⟨as,ms,v3,v4,v5,rfl,sC,wC,mC,MC,lC,kC,pC⟩:=(eP2 _ _ _).mp hh;have lC:ms.length≤6:=lC;push_cast [and_true];have SC:=hS.trans sC;refine Sj (SC.seq hA) hl (sC _ _ hkl2) (by omega) λm2l bs ms2 HD sD hm2 eD MD lD kD=>?_;have alc:=MC.1;have bld:=MD.1;refine Co (sD _ _ mC) eD (by rw[aa0,aa0];omega) λml2 hml2=>?_;have sE:=ae hml2 (.lst (as.map V.ref++bs.map V.ref));have eE:upd HD ml2 (.lst (as.map V.ref++bs.map V.ref)) ml2=aA `bd:=by rw[aa,aaa]
  have ME:=((MC.tk (TK.of sD)).app MD).tk (TK.of sE);have fml2:HC ml2=none:=sD.free hml2;generalize upd HD ml2 (.lst (as.map V.ref++bs.map V.ref))=HE at sE eE ME ⊢;have sCE:=sD.trans sE;have SE:=SC.trans sCE;have kE:=sC.trans sCE;obtain ⟨mn,hmn,emn⟩:=zx (drw ns 45) (n:=4) `a;refine cz (k:=45) (SE.seq hA) hl (by omega) ⟨by decide,by omega,by omega,?_⟩;rw[show drw ns 45 % 4=(mn:Int) from emn];obtain ⟨P3,eP3⟩:∃P3:Nat→L2.St→Hp→Prop,∀j σ H',P3 j σ H'↔∃(as:List Addr) (ms:List Md) (v3:Option V),σ=[aA `r,aA (.ref kl),aA (.ref ml2),v3,v4,v5,none,none,none,none,none,none,none]∧ah HC H'∧H' ml2=aA `f∧ck H' as ms∧ms.length≤10+j∧(∀x∈ms,Mk kinds x.1 x.2)∧1≤ms.length:=⟨_,λ_ _ _=>abu⟩;refine pf (lo:=0) P3 ((eP3 _ _ _).mpr ⟨as++bs,ms++ms2,v3,rfl,sCE,eE,ME,by rw[aa2];omega,λx hx=>(List.mem_append.mp hx).elim (kC x) (kD x),by rw[aa2];omega⟩) ?_ ?_
  ·intro j σ HF hj hh;have hj:j < mn:=hj;obtain ⟨as,ms,v3,rfl,sF,mF,MF,lF,kF,pF⟩:=(eP3 _ _ _).mp hh;have SF:=SC.trans sF;push_cast [and_true];refine ⟨bf mF,by unfold yr;omega,?_⟩;rw[show (46:Int)+2*(0+(j:Int))=((46+2*j:Nat):Int) by omega];refine cz (SF.seq hA) hl (by omega) ⟨by unfold yr;omega,?_⟩;rw[show (47:Int)+2*(0+(j:Int))=((47+2*j:Nat):Int) by omega];exact cz (SF.seq hA) hl (by omega) (Od ((sC.trans sF) _ _ hkl2) (by omega) (u7 _ _) (Ca _ _) (u7 _ _) (Ca _ _) λt sh dd HG hk sG mG=>vk fml2 sF mF MF (by omega) sG mG λH' s' m' M' kp=>(eP3 _ _ _).mpr ⟨_,_,_,rfl,s',m',M',by rw[aa2,aa5];omega,Hu kF hk,by rw[aa2,aa5];omega⟩)
  ·intro σ HF hh;obtain ⟨as,ms,v3,rfl,sF,mF,MF,lF,kF,pF⟩:=(eP3 _ _ _).mp hh;have SF:=SC.trans sF;have lF:ms.length≤13:=by have:(mn:Int).toNat=mn:=rfl;omega
   have kF0:=(sC.trans sF) _ _ hkl2;have alF:=MF.1;push_cast [and_true];refine ⟨aag _,λrl hrl=>?_⟩;have s_rl:=ae hrl `ai;have e_rl:upd HF rl `ai rl=aA `ai:=aa;generalize upd HF rl `ai=H2 at s_rl e_rl ⊢;refine ⟨ml2,as.map V.ref,rfl,SqL.of (s_rl _ _ mF),?_⟩;obtain ⟨P4,eP4⟩:∃P4:Nat→L2.St→Hp→Prop,∀j σ H',P4 j σ H'↔∃(ra:List Addr) (rs:List Rd) (v3 v7 v8:Option V),σ=[aA `r,aA (.ref kl),aA (.ref ml2),v3,v4,v5,aA (.ref rl),v7,v8,none,none,none,none]∧ah HF H'∧H' rl=aA (.lst (ra.map V.ref))∧bz H' ra rs∧rs.length=j∧Ad ns kinds rs:=⟨_,λ_ _ _=>abu⟩;refine uy (xs:=as.map V.ref) P4 ((eP4 _ _ _).mpr ⟨[],[],v3,none,none,rfl,s_rl,e_rl,bz.nil _,rfl,Ad.nil _ _⟩) (λi σ H' _ h=>by obtain ⟨_,_,_,_,_,_,s,_⟩:=(eP4 _ _ _).mp h;exact SqL.of (s _ _ mF)) ?_ ?_
   ·intro j x σ HG p0 hx hh hp0;obtain ⟨ra,rs,w3,v7,v8,rfl,sG,rG,RG,lG,okG⟩:=(eP4 _ _ _).mp hh;rw[aa4] at hx;obtain ⟨mj,hmj,rfl⟩:=Option.map_eq_some_iff.mp hx;have hjl:j < ms.length:=by rw[←alF];exact (List.getElem?_eq_some_iff.mp hmj).1
    have hms:ms[j]?=aA ms[j]:=aa1 hjl;obtain ⟨mj',hmj',hMj⟩:=MF.2 j _ hms;obtain rfl:mj'=mj:=aa7 (hmj'.symm.trans hmj);have hkj:=kF _ (aaf hjl);generalize ms[j]=md at hms hMj hkj;obtain ⟨sa,da,j1,j2,j3⟩:=hMj;refine fm aa rfl ?_;have s0:=ae hp0 (.tup [V.int (j:Int),V.ref mj']);generalize upd HG p0 (.tup [V.int (j:Int),V.ref mj'])=H0 at s0 ⊢;have sF0:=sG.trans s0;have S0:=SF.trans sF0;have k0:=sF0 _ _ kF0;have hz:0 < kinds.length:=by omega
    push_cast [and_true];refine az (v:=.str kinds[0]) k0 (ay (j:=0) (by rw[aa4,aa1 hz];rfl)) ?_;refine g6 (λσ' H'=>∃kd:Str,kd∈kinds∧σ'=[aA `r,aA (.ref kl),aA (.ref ml2),aA (.int (j:Int)),v4,v5,aA (.ref rl),aA (.ref mj'),aA (.str kd),none,none,none,none]∧H0=H') ?_ ?_
    ·push_cast [and_true];obtain ⟨i1,hi1,ei1⟩:=zx (drw ns (60+j) / 4) (n:=kinds.length) (by omega);refine de (λ_=>?_) λ_=>de (λ_=>?_) λ_=>aaf hz;all_goals exact cz (k:=60+j) (S0.seq hA) hl (by omega) ⟨by decide,by decide,kinds.map V.str,.inl (SqL.of k0),by rw[aa0];omega,az (v:=.str kinds[i1]) k0 (by rw[aa0,ei1];exact ay (by rw[aa4,aa1 hi1];rfl)) ⟨_,aaf hi1,rfl,rfl⟩⟩
    rintro _ _ ⟨kd,hkd',rfl,rfl⟩;push_cast [and_true];refine ⟨bf (s0 _ _ rG),Dc (i:=3+j) (S0.seq hA) hl (by omega) (cz (k:=60+j) (S0.seq hA) hl (by omega) (Ex (u7 _ _) λx HI sI x1 x2=>ag ((sF0.trans sI) _ _ j1) rfl (ag ((sF0.trans sI) _ _ j1) rfl ?_)))⟩;refine ⟨by show (5:Nat)≤sizeLine;decide,λt h_t=>?_⟩;have s_t:=ae h_t `ae;have e_t:upd HI t `ae t=aA `ae:=aa;generalize upd HI t `ae=HJ at s_t e_t ⊢;have sJ:=s0.trans (sI.trans s_t);exact Bw (r:=(⟨wd ns (3+j),kd,x,md.1⟩,md.2)) hrl sG rG RG (by omega) sJ ⟨sa,da,e_t,(sG.trans sJ) _ _ j2,j3.tk (TK.of (sG.trans sJ))⟩ λH' s' m' R' kp=>(eP4 _ _ _).mpr ⟨_,_,_,_,_,rfl,s',m',R',by rw[aa2,aa5,lG],okG.snoc (by rw[lG]) hkd' x1 hkj⟩
   ·intro σ HG hh;obtain ⟨ra,rs,w3,v7,v8,rfl,sG,rG,RG,lG,okG⟩:=(eP4 _ _ _).mp hh;rw[aa0,alF] at lG;have SG:=SF.trans sG;have kG:=sG _ _ kF0;push_cast [and_true];obtain ⟨mw,hmw,emw⟩:∃mw:Nat,mw+1=mk∧(((kinds.map V.str).length:Nat):Int) - 1=(mw:Int):=⟨mk - 1,by omega,by rw[aa0,kl1];omega⟩;refine ⟨kinds.map V.str,.inl (SqL.of kG),by omega,by omega,?_⟩;rw[emw];obtain ⟨P5,eP5⟩:∃P5:Nat→L2.St→Hp→Prop,∀j σ H',P5 j σ H'↔∃(ra:List Addr) (rs:List Rd) (v3 v7 v9 v10 v11:Option V),σ=[aA `r,aA (.ref kl),aA (.ref ml2),v3,v4,v5,aA (.ref rl),v7,v8,v9,v10,v11,none]∧ah HF H'∧H' rl=aA (.lst (ra.map V.ref))∧bz H' ra rs∧rs.length≤13+2*j∧1≤rs.length∧Ad ns kinds rs:=⟨_,λ_ _ _=>abu⟩;refine pf (lo:=0) P5 ((eP5 _ _ _).mpr ⟨ra,rs,_,_,none,none,none,rfl,sG,rG,RG,by omega,by omega,okG⟩) ?_ ?_
    ·intro j σ HI hj hh;have hj:j < mw:=hj;obtain ⟨ra,rs,w3,w7,v9,v10,v11,rfl,sI,rI,RI,lI,pI,okI⟩:=(eP5 _ _ _).mp hh;push_cast [and_true];refine ⟨by show (2:Nat)≤sizeLine;decide,λq1 h_q1=>?_⟩;have s_q1:=ae h_q1 `an;have e_q1:upd HI q1 `an q1=aA `an:=aa;generalize upd HI q1 `an=H3 at s_q1 e_q1 ⊢;refine ⟨by show (2:Nat)≤sizeLine;decide,λq2 h_q2=>?_⟩;have s_q2:=ae h_q2 `ah;have e_q2:upd H3 q2 `ah q2=aA `ah:=aa;generalize upd H3 q2 `ah=H4 at s_q2 e_q2 ⊢;refine ⟨by show (2:Nat)≤sizeLine;decide,λql h_ql=>?_⟩;have s_ql:=ae h_ql (.lst [V.ref q1,V.ref q2]);have e_ql:upd H4 ql (.lst [V.ref q1,V.ref q2]) ql=aA (.lst [V.ref q1,V.ref q2]):=aa;generalize upd H4 ql (.lst [V.ref q1,V.ref q2])=H5 at s_ql e_ql ⊢;have e1:=(s_q2.trans s_ql) _ _ e_q1;have e2:=s_ql _ _ e_q2;have s5:=s_q1.trans (s_q2.trans s_ql);have nql:ql≠rl:=(ao ((s_q1.trans s_q2) _ _ rI) h_ql).symm;obtain ⟨P6,eP6⟩:∃P6:Nat→L2.St→Hp→Prop,∀i σ H',P6 i σ H'↔∃(ra:List Addr) (rs:List Rd) (v7 v9 v10 v11:Option V),σ=[aA `r,aA (.ref kl),aA (.ref ml2),aA (.int (0+(j:Int))),v4,v5,aA (.ref rl),v7,v8,v9,v10,v11,none]∧ah HF H'∧H' ql=aA (.lst [V.ref q1,V.ref q2])∧H' q1=aA `an∧H' q2=aA `ah∧H' rl=aA (.lst (ra.map V.ref))∧bz H' ra rs∧rs.length≤13+2*j+i∧1≤rs.length∧Ad ns kinds rs:=⟨_,λ_ _ _=>abu⟩;refine ⟨⟨_,SqL.of e_ql⟩,j4 (xs:=[V.ref q1,V.ref q2]) P6 ((eP6 _ _ _).mpr ⟨ra,rs,_,_,_,_,rfl,sI.trans s5,e_ql,e1,e2,s5 _ _ rI,RI.tk (TK.of s5),by omega,pI,okI⟩) (λi σ H' _ h=>by obtain ⟨_,_,_,_,_,_,_,_,z,_⟩:=(eP6 _ _ _).mp h;exact SqL.of z) ?_ ?_⟩
     ·intro i x σ HK hx hh;obtain ⟨ra,rs,w7,v9,v10,v11,rfl,sK,qK,f1,f2,rK,RK,lK,pK,okK⟩:=(eP6 _ _ _).mp hh;have hi:i < 2:=(List.getElem?_eq_some_iff.mp hx).1;obtain ⟨u,v,qq,rfl,hu,hv,eqq⟩:∃(u v:Nat) (qq:Addr),x=.ref qq∧u < kinds.length∧v < kinds.length∧HK qq=aA (.tup [V.int (u:Int),V.int (v:Int)]):=by
       rcases (show i=0∨i=1 by omega) with rfl | rfl
       ·cases hx
        exact ⟨j,j+1,q1,rfl,by omega,by omega,by rw[f1,show (0+(j:Int))=((j:Nat):Int) by omega,show (j:Int)+1=((j+1:Nat):Int) by omega]⟩
       ·cases hx
        exact ⟨j+1,j,q2,rfl,by omega,by omega,by rw[f2,show (0+(j:Int))=((j:Nat):Int) by omega,show (j:Int)+1=((j+1:Nat):Int) by omega]⟩
      have SK:=SF.trans sK;have ral:=RK.1;push_cast [and_true];rw[show (58:Int)+(0+(j:Int))=((58+j:Nat):Int) by omega];refine cz (SK.seq hA) hl (by omega) (Pz (u7 _ _) (Ca _ _) λx HL sL hx'=>?_);refine ⟨by show (3:Nat)≤sizeLine;decide,λd1 h_d1=>?_⟩;have s_d1:=ae h_d1 (.tup [V.str `W,V.str `u,V.int x]);have e_d1:upd HL d1 (.tup [V.str `W,V.str `u,V.int x]) d1=aA (.tup [V.str `W,V.str `u,V.int x]):=aa;generalize upd HL d1 (.tup [V.str `W,V.str `u,V.int x])=H6 at s_d1 e_d1 ⊢;refine ⟨by show (4:Nat)≤sizeLine;decide,λd2 h_d2=>?_⟩;have s_d2:=ae h_d2 `aJ;have e_d2:upd H6 d2 `aJ d2=aA `aJ:=aa;generalize upd H6 d2 `aJ=H7 at s_d2 e_d2 ⊢;refine ⟨by show (4:Nat)≤sizeLine;decide,λd3 h_d3=>?_⟩;have s_d3:=ae h_d3 `a6;have e_d3:upd H7 d3 `a6 d3=aA `a6:=aa;generalize upd H7 d3 `a6=H8 at s_d3 e_d3 ⊢;refine ⟨by show (3:Nat)≤sizeLine;decide,λda h_da=>?_⟩;have s_da:=ae h_da `I;have e_da:upd H8 da `I da=aA `I:=aa;generalize upd H8 da `I=H9 at s_da e_da ⊢;have sK9:=sL.trans (s_d1.trans (s_d2.trans (s_d3.trans s_da)));refine ⟨ra.map V.ref,.inl (SqL.of (sK9 _ _ rK)),?_⟩;rw[aa0,ral];rw[show (75:Int)+(rs.length:Int)=((75+rs.length:Nat):Int) by omega];refine cz ((SK.trans sK9).seq hA) hl (by omega) (Ex (u7 _ _) λy HM sM y1 y2=>?_);have sKM:=sK9.trans sM;refine ⟨bf (sKM _ _ rK),ra.map V.ref,.inl (SqL.of (sKM _ _ rK)),?_⟩;rw[aa0,ral];rw[show (3:Int)+(rs.length:Int)=((3+rs.length:Nat):Int) by omega];refine Dc ((SK.trans sKM).seq hA) hl (by omega) ?_;have kM:=(sK.trans sKM) _ _ kF0;refine ag (sKM _ _ eqq) rfl (az (v:=.str kinds[u]) kM (ay (by rw[aa4,aa1 hu];rfl)) (ag (sKM _ _ eqq) rfl (az (v:=.str kinds[v]) kM (ay (by rw[aa4,aa1 hv];rfl)) ?_)));refine ⟨by show (1:Nat)≤sizeLine;decide,λsa h_sa=>?_⟩;have s_sa:=ae h_sa (.tup [V.str kinds[v]]);have e_sa:upd HM sa (.tup [V.str kinds[v]]) sa=aA (.tup [V.str kinds[v]]):=aa;generalize upd HM sa (.tup [V.str kinds[v]])=HN at s_sa e_sa ⊢;refine ⟨by show (5:Nat)≤sizeLine;decide,λt h_t=>?_⟩;have s_t:=ae h_t `K;have e_t:upd HN t `K t=aA `K:=aa;generalize upd HN t `K=HO at s_t e_t ⊢;have sMO:=s_sa.trans s_t;have s9O:=sM.trans sMO;have sKO:=sKM.trans sMO;have n1:q1≠rl:=jq f1 rK (by intro z;cases z);have n2:q2≠rl:=jq f2 rK (by intro z;cases z);exact Bw (r:=(⟨wd ns (3+rs.length),kinds[u],y,[V.str kinds[v]]⟩,[[V.str `W,V.str `u,V.int x],[V.str `i,V.str `k,V.str (aB "h1"),V.str `u],[V.str `M,V.str `k,V.str `k,V.str `u]])) hrl sK rK RK (by omega) sKO ⟨sa,da,e_t,s_t _ _ e_sa,[d1,d2,d3],s9O _ _ e_da,bc.cons ((s_d2.trans (s_d3.trans (s_da.trans s9O))) _ _ e_d1) (bc.cons ((s_d3.trans (s_da.trans s9O)) _ _ e_d2) (bc.one ((s_da.trans s9O) _ _ e_d3)))⟩ λH' s' m' R' kp=>(eP6 _ _ _).mpr ⟨_,_,_,_,_,_,rfl,s',kp _ _ nql (sKO _ _ qK),kp _ _ n1 (sKO _ _ f1),kp _ _ n2 (sKO _ _ f2),m',R',by rw[aa2,aa5];omega,by rw[aa2,aa5];omega,okK.snoc rfl (aaf hu) y1 (Mk.way (aaf hv) hx')⟩
     ·intro σ HK hh;obtain ⟨ra,rs,w7,v9,v10,v11,rfl,sK,qK,f1,f2,rK,RK,lK,pK,okK⟩:=(eP6 _ _ _).mp hh;have lK:rs.length≤13+2*j+2:=lK;exact (eP5 _ _ _).mpr ⟨ra,rs,_,_,_,_,_,rfl,sK,rK,RK,by omega,pK,okK⟩
    ·intro σ HI hh;obtain ⟨ra,rs,w3,w7,v9,v10,v11,rfl,sI,rI,RI,lI,pI,okI⟩:=(eP5 _ _ _).mp hh;have lI:rs.length≤17:=by have:(mw:Int).toNat=mw:=rfl;omega
     push_cast [and_true];have SI:=SF.trans sI;have kI:=sI _ _ kF0;have ral:=RI.1;refine cz (k:=39) (SI.seq hA) hl (by omega) ?_;refine ⟨ra.map V.ref,.inl (SqL.of rI),by rw[aa0];omega,kinds.map V.str,.inl ⟨SqL.of kI,λkt hkt=>?_⟩⟩;obtain ⟨at',hlt,hat⟩:=zx (drw ns 39) (n:=ra.length) (by omega);rw[aa0,hat];have sk:=ae hkt (.tup `h);have c1:ir (ra.map V.ref) (aA (at':Int)) none=(ra.drop at').map V.ref:=by
      have:=ma (ra.map V.ref) at' 0 (by rw[aa0];omega);rw[show ((at':Int)+((0:Nat):Int))=(at':Int) by omega,Nat.add_zero] at this;rw[this,acg]
     have c2:ir (ra.map V.ref) none (aA (at':Int))=(ra.take at').map V.ref:=by rw[sy _ _ (by rw[aa0];omega),adt]
     refine ⟨ra.map V.ref,SqL.of (sk _ _ rI),λp1 hp1=>?_⟩;rw[c1];have sp1:=ae hp1 (.lst ((ra.drop at').map V.ref));refine ⟨ra.map V.ref,SqL.of (sp1 _ _ (sk _ _ rI)),λp2 hp2=>?_⟩;rw[c2];have sp2:=ae hp2 (.lst ((ra.take at').map V.ref));refine Co (sp2 _ _ aa) aa (by rw[aa0,aa0,aav,aau];omega) λp3 hp3=>⟨_,.inl ⟨SqL.of aa,λrt hrt=>⟨by show (2:Nat)≤sizeLine;decide,λbt hbt=>?_⟩⟩⟩;have sp3:=ae hp3 (.lst ((ra.drop at').map V.ref++(ra.take at').map V.ref));have srt:=ae hrt (.tup ((ra.drop at').map V.ref++(ra.take at').map V.ref));have sbt:=ae hbt (.tup [V.ref kt,V.ref rt]);have s8:=sk.trans (sp1.trans (sp2.trans (sp3.trans (srt.trans sbt))));subst hkd;refine q bt _ (rs.drop at'++rs.take at') _ (SI.trans s8) ⟨kt,rt,ra.drop at'++ra.take at',aa,(sp1.trans (sp2.trans (sp3.trans (srt.trans sbt)))) _ _ aa,?_,((RI.drop at').app (RI.take at')).tk (TK.of s8)⟩ (bd_of hmk1 hmk3 okI pI lI at');rw[aaa];exact sbt _ _ aa
noncomputable abbrev qk:Stmt:=top 36
theorem Iz:av ["script","at","limit","words","due","draw","name"] ["script","at","limit"] (af qk):=⟨rfl,rfl,rfl,by decide+kernel,rfl,by decide+kernel,by decide+kernel⟩
theorem Nz (G:Gs w K mg κ) (h_law_draw:Has P w K mg base k "_law_draw" ["script","k"] (lp K)) (h_law_number:Has P w K mg base k "_law_number" ["draw"] zi) (h_law_word:Has P w K mg base k "_law_word" ["script","i"] (yd K)) (D:Def K mg "_law_term" qk ["script","at","limit"]):Has P w K mg base (k+1) "_law_term" ["script","at","limit"] (wz K):=by
 refine D.has Iz (λvs H Q E h=>?_) (λf cdv A outer s H vs Q E hr h=>?_)
 ·obtain ⟨_,_,_,_,rfl,_,_,_,_,_,_⟩:=h;rfl
 have nd:=Iz.nd;have hu:=br hr;have hu0:=aae hu;obtain ⟨a,ns,p,m,rfl,hA,hl,hp,hm1,hm2,q⟩:=h;have m_len:=G.m_len;have m_tuple:=G.m_tuple;refine ⟨_,(A5 (A9 3 nd (AQ (A2 0))) (A5 (A9 4 nd (A3 0)) (A5 (C2 (AI (@jh _) (A0 4) (A3 0) (AF 0)) (A5 (A9 5 nd (AD h_law_draw hr (A1 (A0 0) (A1 (A4 (AM 0) (A0 1) (AJ (AS 0) m_len cm `aP)) (A2 0))))) (A5 (A9 4 nd (A4 (BH 0) (A0 4) (A3 0))) (A7 (AK (BO (BR (AI (@Ie _) (A4 (AM 0) (AJ (AS 0) m_len cm `aP) (A0 4)) (A0 2) (AF 0)) (C1 (AI (AR 0) (A4 (AG 0) (A0 5) (A3 0)) (A3 0) (AF 0))))) (A5 (A9 6 nd (AD h_law_word hr (A1 (A0 0) (A1 (A6 (AO 0) (AQ (AW (BA (BA (BA (BA (AX 0))))))) (A4 (AG 0) (A4 (AT 0) (A0 5) (A3 0)) (A3 0))) (A2 0))))) (A7 (AU (AV aM aS aT (AY 0) (A0 3) (A1 (A6 (AO 0) (AQ (A1 (AD h_law_number hr (A1 (A4 (AT 0) (A0 5) (A3 0)) (A2 0))) (A1 (A4 (AG 0) (A4 (AT 0) (A0 5) (A3 0)) (A3 0)) `a9))) (A4 (AG 0) (A4 (AT 0) (A0 5) (A3 0)) (A3 0))) (A2 0)))))) (A7 (AK (AI (AR 0) (A4 (AG 0) (A0 5) (A3 0)) (A3 0) (AF 0)) (A5 (AU (AV aM aS aT (AY 0) (A0 3) `aD)) (A7 (A9 4 nd (A4 (AM 0) (A0 4) (A3 0))))) (A5 (AU (AV aM aS aT (AY 0) (A0 3) (A1 (A6 (AO 0) (AQ (AW `F)) (A4 (BH 0) (A4 (AG 0) (A0 5) (A3 0)) (A3 0))) (A2 0)))) (A7 (A9 4 nd (A4 (AM 0) (A0 4) (A3 0)))))))))))) (A7 (AE (B0 (BB 0) m_tuple dq `aP)))))),?_⟩;rw[show start ["script","at","limit","words","due","draw","name"] [.ref a,.int (p:Int),.int (m:Int)]=[aA `r,aA `aa,aA (.int (m:Int)),none,none,none,none] from rfl];clear hu hu0 nd hr;push_cast [and_true];have sz:=aQ;refine ⟨aag _,λl hl0=>?_⟩;have hA0:=hA;have hll:=hl0;obtain ⟨P1,eP1⟩:∃P1:L2.St→Hp→Prop,∀σ H',P1 σ H'↔∃(ws:List V) (due:Nat) (v1 v2:Option V),σ=[aA `r,aA `aa,aA (.int (m:Int)),aA `D,aA (.int (due:Int)),v1,v2]∧ah H H'∧H' l=aA (.lst ws)∧(∀v∈ws,twW v∧WdF ns v)∧pend 1 (ws.map arV)=aA due∧ws.length+due≤m+2:=⟨_,λ_ _=>abu⟩;refine m9 P1 (λσ H'=>m+3 - yf H' l) ?_ ?_ ?_
 ·exact (eP1 _ _).mpr ⟨[],1,none,none,rfl,ae hll _,aa,(λ_ h=>nomatch h),rfl,by show 0+1≤m+2;omega⟩
 ·intro σ H' hh;obtain ⟨ws,due,v1,v2,rfl,s1,hl',hw,hpd,hr⟩:=(eP1 _ _).mp hh;push_cast [and_true];refine de (λhdue=>⟨ws,.inl (SqL.of hl'),?_⟩) λhdue=>?_
  ·rw[show ((p:Int)+(ws.length:Int))=((p+ws.length:Nat):Int) by omega];refine cz (s1.seq hA) hl (by omega) ⟨ws,.inl (SqL.of hl'),?_⟩;have c0:=u7 ns (p+ws.length);have c1:=Ca ns (p+ws.length);generalize drw ns (p+ws.length)=c at c0 c1;have app:∀(v:V) (H2:Hp) (dd:Int),twW v→WdF ns v→dd=(due:Int) - 1+(arV v:Int)→ws.length+due+arV v≤m+2→ah H' H2→
     ∀w1 w2,nu `D [v] H2 λ_ H3=>P1 [aA `r,aA `aa,aA (.int (m:Int)),aA `D,aA (.int dd),w1,w2] H3∧m+3 - yf H3 l < m+3 - yf H' l:=by
    intro v H2 dd hv hv2 hdd hroom s2 w1 w2;refine ⟨l,ws,v,rfl,rfl,s2 _ _ hl',by omega,(eP1 _ _).mpr ⟨ws++[v],due - 1+arV v,w1,w2,by rw[show dd=((due - 1+arV v:Nat):Int) by omega],(s1.trans s2).upd hll _,aa,λx hx=>?_,?_,?_⟩,?_⟩
    ·rcases List.mem_append.mp hx with h | h
     ·exact hw x h
     ·rw[List.mem_singleton.mp h];exact ⟨hv,hv2⟩
    ·rw[aaa];exact Ly _ _ _ _ hpd (by omega)
    ·rw[aa2,aa5];omega
    ·rw[jz aa,jz hl',aa2,aa5];omega
   refine iteOr `a rfl ?_ λr1 r0=>⟨by decide,rfl,de (λr1=>⟨bf hl',?_⟩) λr2=>⟨bf hl',by show (3:Nat)≤sizeLine;decide,λp2 hp2=>⟨by decide,?_⟩⟩⟩
   ·refine ⟨by show (4:Nat)≤sizeLine;decide,λp1 hp1=>⟨by decide,by decide,?_⟩⟩;obtain ⟨y,hy,hym⟩:=vj [V.int 21,V.int 22,V.int 0,V.int 4] (c / 15 % 4) (ab9 _ `a) (by show c / 15 % 4 < 4;omega);obtain ⟨i,rfl,hi⟩:∃i:Nat,y=V.int (i:Int)∧i∈[21,22,0,4]:=by
     simp only[aam,aac,or_false] at hym;rcases hym with rfl | rfl | rfl | rfl
     ·exact ⟨21,rfl,by decide⟩
     ·exact ⟨22,rfl,by decide⟩
     ·exact ⟨0,rfl,by decide⟩
     ·exact ⟨4,rfl,by decide⟩
    have hi':i≤1000:=by
     simp only[aam,aac,or_false] at hi;omega
    have s2:=ae hp1 (.lst [V.int 21,V.int 22,V.int 0,V.int 4]);refine az aa hy (Dc ((s1.trans s2).seq hA) hl hi' ⟨bf (s2 _ _ hl'),by decide,by decide,Pz (by omega) (by omega) λx H3 s3 hx=>⟨by decide,by decide,by show (3:Nat)≤sizeLine;decide,λp2 hp2=>⟨by decide,by decide,?_⟩⟩⟩);obtain ⟨f3,hf3,hm3⟩:=vj [V.int x,V.int (c / 15 % 3),V.str (wd ns i)] (c / 5 % 3) (ab9 _ `a) (by show c / 5 % 3 < 3;omega);obtain ⟨t3,a3,w3⟩:twW f3∧arV f3=0∧WdF ns f3:=by
     simp only[aam,aac,or_false] at hm3;rcases hm3 with rfl | rfl | rfl
     ·exact ⟨twW_int _,rfl,.inl ⟨_,rfl,hx⟩⟩
     ·exact ⟨twW_int _,rfl,.inl ⟨_,rfl,aan (show (c / 15 % 3).natAbs < 3 by omega) `a⟩⟩
     ·exact ⟨twW_name (Ek ns i).1,(Ek ns i).1.1,.inr (.inl ⟨i,hi,rfl⟩)⟩
    exact az aa hf3 (app f3 _ ((due:Int) - 1) t3 w3 (by rw[a3];omega) (by rw[a3];omega) (s2.trans (s3.trans (ae hp2 _))) _ _)
   ·have an:arV (.str `A)=1:=Ir;exact app (.str `A) H' _ (twW_op `c) (.inr (.inr (by rw[an];decide))) (by rw[an];omega) (by rw[an];omega) `aM _ _
   ·obtain ⟨y,hy,hym⟩:=vj [V.str `i,V.str `M,V.str `B] (c % 5 - 2) (by omega) (by show c % 5 - 2 < 3;omega);obtain ⟨z,rfl,a2⟩:∃z,y=V.str z∧arS z=2:=by
     simp only[aam,aac,or_false] at hym;rcases hym with rfl | rfl | rfl
     ·exact ⟨_,rfl,by decide+kernel⟩
     ·exact ⟨_,rfl,by decide+kernel⟩
     ·exact ⟨_,rfl,by decide+kernel⟩
    have a2':arV `Q=2:=a2;exact az aa hy (app `Q _ _ (twW_op (by omega)) (.inr (.inr (by rw[a2'];decide))) (by rw[a2'];omega) (by rw[a2'];omega) (ae hp2 _) _ _)
  ·have d0:due=0:=by omega
   subst d0;exact ⟨ws,.inl ⟨SqL.of hl',λt ht=>q t _ ws (s1.trans (ae ht _)) aa ⟨λv hv=>(hw v hv).1,hpd,by omega⟩ (by omega) λv hv=>(hw v hv).2⟩⟩
 ·intro σ H' Q1 Q2 hq h;simp only[Ei,tOp,rI0,n8,tC,qu,iu,tB] at h ⊢;obtain ⟨v,hv,i,j,e1,e2,k,e3,h⟩:=h;exact ⟨v,hv,i,j,e1,e2,k,e3,hq _ _ h⟩
noncomputable abbrev yj:Stmt:=top 37
theorem Ph:av ["words","place","due"] ["words","place"] (af yj):=⟨rfl,rfl,rfl,by decide+kernel,rfl,by decide+kernel,by decide+kernel⟩
theorem Ri (G:Gs w K mg κ) (D:Def K mg "_law_end" yj ["words","place"]):Has P w K mg base (k+1) "_law_end" ["words","place"] Dn:=by
 refine D.has Ph (λvs H Q E h=>?_) (λf cdv A outer s H vs Q E hr h=>?_)
 ·obtain ⟨_,_,_,rfl,_,_,_,_⟩:=h;rfl
 have nd:=Ph.nd;have hu:=br hr;have hu0:=aae hu;obtain ⟨t,ws,p,rfl,hW,tw,hp,q⟩:=h;have m_int:=G.m_int;refine ⟨_,(A5 (A9 2 nd (A3 0)) (A5 (C2 (AI (@jh _) (A0 2) (A3 0) (AF 0)) (A5 (A9 2 nd (A4 (AM 0) (A4 (AM 0) (A4 (BH 0) (A0 2) (A3 0)) (A4 (@jf _) (A3 0) (B0 (@ym _) m_int xm (A1 (@Df _ _ _ _ _ _ _ _ (@jn _) (A6 (AA 0) (A0 0) (A0 1)) (A8 (AW `F)) (by with_unfolding_all rfl)) (A2 0))))) (B0 (@ym _) m_int xm (A1 (C3 (AR 0) (A6 (AA 0) (A0 0) (A0 1)) (AC 0) (AF 0)) (A2 0))))) (A7 (A9 1 nd (A4 (AM 0) (A0 1) (A3 0)))))) (A7 (AE (A0 1))))),?_⟩;rw[show start ["words","place","due"] [.ref t,.int (p:Int)]=[aA `N,aA `aa,none] from rfl];clear hu hu0 nd hr;push_cast [and_true];have sz:=aQ;obtain ⟨n,he⟩:=tw.eat hp;have hn:=qf _ _ _ he;rw[aa0,aav] at hn;refine m9 (λσ H'=>∃(d j:Nat),σ=[aA `N,aA (.int ((p+j:Nat):Int)),aA (.int (d:Int))]∧ah H H'∧j≤n∧eat d ((ws.drop (p+j)).map arV)=aA (n - j))
  (λσ _=>p+n - intAt σ 1) ⟨1,0,rfl,ah.refl _,aag _,he⟩ ?_ ?_
 ·rintro σ H' ⟨d,j,rfl,sH,hj,hd⟩;push_cast [and_true];refine de (λc=>?_) λc=>?_
  ·obtain ⟨d',rfl⟩:∃d',d=d'+1:=⟨d - 1,by omega⟩;have hpos:=xf _ _ _ hd;have hlt:p+j < ws.length:=by omega
   have ed:ws.drop (p+j)=ws[p+j]::ws.drop (p+j+1):=aay hlt;have hat:atI ws ((p:Int)+(j:Int))=aA ws[p+j]:=by rw[show (p:Int)+(j:Int)=((p+j:Nat):Int) by omega];exact ay (aa1 hlt)
   obtain ⟨hxw,hxa,hxv⟩:=tw.w _ (aaf hlt);rw[ed,aaq,fq] at hd;obtain ⟨m,hm,em⟩:=Option.map_eq_some_iff.mp hd;generalize ws[p+j]=x at hat hxw hxa hxv hm;refine ag (sH _ _ hW) hat ?_;push_cast [and_true];refine ⟨by show (3:Nat)≤sizeLine;decide,λp1 hp1=>⟨p1,_,rfl,.inr (SqT.of aa),hxw.flat,rfl,?_⟩⟩;have s1:=sH.trans (ae hp1 (.tup [V.str `i,V.str `M,V.str `B]));refine ⟨.inl ⟨by decide,by decide⟩,ag (s1 _ _ hW) hat ⟨hxw.sc _,⟨d'+arV x,j+1,by omega,ar_sum hxw d',s1,by omega,?_⟩,?_⟩⟩
   ·rw[show n - (j+1)=m by omega];exact hm
   ·show p+n - ((p:Int)+(j:Int)+1).toNat < p+n - ((p:Int)+(j:Int)).toNat
    omega
  ·have d0:d=0:=by omega
   subst d0;rw[i4] at hd;have:n - j=0:=(aa7 hd).symm;have e:p+j=endAt ws p:=by
    unfold endAt;rw[he];show p+j=p+n
    omega
   rw[e];exact q H' sH
 ·intro σ H' Q1 Q2 hq h;simp only[Ei,tOp,rI0,n8,tC,qu,iu,tB] at h ⊢;obtain ⟨v,hv,i,j,e1,e2,k,e3,h⟩:=h;exact ⟨v,hv,i,j,e1,e2,k,e3,hq _ _ h⟩
noncomputable abbrev yk:Stmt:=top 38
theorem Ms:av ["kinds","shape","words","place","holes","numbers","names","word","here"] ["kinds","shape","words","place"] (af yk):=⟨rfl,rfl,rfl,by decide+kernel,rfl,by decide+kernel,by decide+kernel⟩
theorem Uk (G:Gs w K mg κ) (h_law_end:Has P w K mg base k "_law_end" ["words","place"] Dn) (D:Def K mg "_law_fit" yk ["kinds","shape","words","place"]):Has P w K mg base (k+1) "_law_fit" ["kinds","shape","words","place"] ph:=by
 refine D.has Ms (λvs H Q E h=>?_) (λf cdv A outer s H vs Q E hr h=>?_)
 ·obtain ⟨_,_,_,_,_,_,_,rfl,_,_,_,_,_,_,_,_,_,_⟩:=h;rfl
 have nd:=Ms.nd;have hu:=br hr;have hu0:=aae hu;obtain ⟨kt,st,wt,kinds,sh,ws,p,rfl,hK,hS,hW,hk,hs,hTm,hsl,tw,hp,q⟩:=h;have m_int:=G.m_int;have m_isinstance:=G.m_isinstance;have m_tuple:=G.m_tuple;refine ⟨_,(A5 (A9 4 nd (AQ (A2 0))) (A5 (A9 5 nd (AQ (A2 0))) (A5 (A9 6 nd (AQ (A2 0))) (A5 (AZ (B7 (A0 1)) (AN 7 nd (by first | exact ab5 rfl | exact ab3 rfl)) (A5 (A9 8 nd (A6 (AA 0) (A0 2) (A0 3))) (A5 (AK (BV (@jn _) (A0 7) (A0 0)) (A5 (AU (AV aM aS aT (AY 0) (A0 4) (A1 (A0 3) (A2 0)))) (A5 (A9 3 nd (AD h_law_end hr (A1 (A0 2) (A1 (A0 3) (A2 0))))) (A7 (@E5 _ _)))) (AL 0)) (BG (AK (BO (C4 (AI (AR 0) (A0 7) (AC 0) (AF 0)) (@wx _ _ _ _ (BC (AJ (BE 0) m_isinstance bu (A1 (A0 8) (A1 (BF m_int xm) (A2 0)))))))) (A7 (AU (AV aM aS aT (AY 0) (A0 5) (A1 (A0 8) (A2 0))))) (A7 (AK (BO (C4 (AI (AR 0) (A0 7) (AC 0) (AF 0)) (C4 (BW (BC (AJ (BE 0) m_isinstance bu (A1 (A0 8) (A1 (BF m_int xm) (A2 0)))))) (@wx _ _ _ _ (BV (@Cq _) (A0 8) (A8 (AW (AB (AB (AB (AB (AX 0)))))))))))) (A7 (AU (AV aM aS aT (AY 0) (A0 6) (A1 (A0 8) (A2 0))))) (A7 (AK (BO (BR (BV (@jn _) (A0 7) (A8 (A1 (AC 0) (A1 (AC 0) (A2 0))))) (C1 (AI (@Jb _) (A0 8) (A0 7) (AF 0))))) (A7 (AE (@He _ _ _))) (AL 0)))))) (A7 (A9 3 nd (A4 (AM 0) (A0 3) (A3 0)))))))) (A7 (AE (A8 (A1 (B0 (BB 0) m_tuple dq (A1 (A0 4) (A2 0))) (A1 (B0 (BB 0) m_tuple dq (A1 (A0 5) (A2 0))) (A1 (B0 (BB 0) m_tuple dq (A1 (A0 6) (A2 0))) (A2 0))))))))))),?_⟩;rw[show start ["kinds","shape","words","place","holes","numbers","names","word","here"] [.ref kt,.ref st,.ref wt,.int (p:Int)]=[aA (.ref kt),aA (.ref st),aA (.ref wt),aA (.int (p:Int)),none,none,none,none,none] from rfl];clear hu hu0 nd hr;push_cast [and_true];have sz:=aQ;have hw:=λv hv=>(tw.w v hv).1;obtain ⟨n,he⟩:=tw.eat hp;refine ⟨aag _,λl1 h1=>⟨aag _,λl2 h2=>⟨aag _,λl3 h3=>?_⟩⟩⟩;have n21:l2≠l1:=(ao aa h2).symm;have n31:l3≠l1:=(ao (ae h2 _ _ _ aa) h3).symm;have n32:l3≠l2:=(ao aa h3).symm;have S1:=ae h1 `ai;have f2:=S1.free h2;have S2:=S1.trans (ae h2 `ai);have f3:=S2.free h3;have S3:=S2.trans (ae h3 `ai);have U3:oq (upd (upd (upd H l1 `ai) l2 `ai) l3 `ai) l1 l2 l3 ⟨[],[],[]⟩:=⟨by rw[ak n31.symm,ak n21.symm,aa];rfl,by rw[ak n32.symm,aa],by rw[aa]⟩;generalize upd (upd (upd H l1 `ai) l2 `ai) l3 `ai=H4 at S3 U3 ⊢;obtain ⟨P1,eP1⟩:∃P1:Nat→L2.St→Hp→Prop,∀i σ H',P1 i σ H'↔∃(q':Nat) (u:Und) (v6 v7:Option V),σ=[aA (.ref kt),aA (.ref st),aA `aV,aA (.int (q':Int)),aA (.ref l1),aA (.ref l2),aA (.ref l3),v6,v7]∧ah H H'∧oq H' l1 l2 l3 u∧bq kinds ws (sh.drop i) q' u=bq kinds ws sh p ⟨[],[],[]⟩∧(u.hs.length≤i∧u.ns.length≤i∧u.vs.length≤i)∧vy u∧∃d m,pend d ((sh.drop i).map arV)=aA 0∧eat d ((ws.drop q').map arV)=aA m:=⟨_,λ_ _ _=>abu⟩;refine ⟨⟨sh,SqT.of (S3 _ _ hS)⟩,gg (xs:=sh) P1 ((eP1 _ _ _).mpr ⟨p,⟨[],[],[]⟩,none,none,rfl,S3,U3,rfl,⟨aag _,aag _,aag _⟩,⟨(λ_ h=>nomatch h),(λ_ h=>nomatch h)⟩,1,n,hTm,he⟩) (λi σ H' _ h=>by obtain ⟨_,_,_,_,_,s,_⟩:=(eP1 _ _ _).mp h;exact SqT.of (s _ _ hS)) ?_ ?_⟩
 ·intro i v σ H5 hvi hh;refine ob4 ((eP1 _ _ _).mp hh) λq' u v6 v7 hh=>?_;have s5:=hh.2.1;have U5:=hh.2.2.1;have e5:=hh.2.2.2.1;have hul:=hh.2.2.2.2.1;have huw:=hh.2.2.2.2.2.1;have hdm:=hh.2.2.2.2.2.2;obtain rfl:=hh.1;clear hh;obtain ⟨d,m,hp5,he5⟩:=hdm;have fin:∀(q2:Nat) (z:Int) (u2:Und) (w6 w7:Option V) (H':Hp),z=(q2:Int)→ah H H'→oq H' l1 l2 l3 u2→bq kinds ws (sh.drop (i+1)) q2 u2=bq kinds ws sh p ⟨[],[],[]⟩→(u2.hs.length≤i+1∧u2.ns.length≤i+1∧u2.vs.length≤i+1)→vy u2→(∃d m,pend d ((sh.drop (i+1)).map arV)=aA 0∧eat d ((ws.drop q2).map arV)=aA m)→P1 (i+1) [aA (.ref kt),aA (.ref st),aA `aV,aA (.int z),aA (.ref l1),aA (.ref l2),aA (.ref l3),w6,w7] H':=λq2 z u2 w6 w7 H' ez a1 a2 a3 a4 a5 a6=>(eP1 _ _ _).mpr ⟨q2,u2,w6,w7,by rw[ez],a1,a2,a3,a4,a5,a6⟩;have hil:i < sh.length:=(List.getElem?_eq_some_iff.mp hvi).1;have ed:sh.drop i=v::sh.drop (i+1):=by
   rw[aay hil];congr 1
   rw[aa1 hil] at hvi;exact aa7 hvi
  rw[ed] at e5 hp5;obtain ⟨d',rfl⟩:∃d',d=d'+1:=by
   cases d with
   | zero=>cases hp5
   | succ d'=>exact ⟨d',rfl⟩
  have hq:q' < ws.length:=by
   have a1:=xf _ _ _ he5;have a2:=qf _ _ _ he5;rw[aa0,aav] at a2;omega
  have hx:ws[q']?=aA ws[q']:=aa1 hq;obtain ⟨hxw,hxa,hxv⟩:=tw.w _ (aaf hq);have hat:atI ws (q':Int)=aA ws[q']:=ay hx;have hvw:=hs v (aai hvi);have hgd:ws.getD q' .non=ws[q']:=by rw[aaj,hx];rfl
  rw[dr,hgd] at e5;generalize ws[q']=x at hx hxw hxa hxv hat hgd e5;have hul':=u.ue `y q' x hul;have huw':=huw.put hxw `y q';obtain ⟨b1,b2,b3,b4,b5,b6⟩:=lets;have fl:(kinds.map V.str).all jr=true:=List.all_eq_true.mpr λx hx=>by obtain ⟨z,_,rfl⟩:=List.mem_map.mp hx;rfl
  push_cast [and_true];refine ag (s5 _ _ hW) hat ?_;push_cast [rIn];refine ⟨_,.inr (SqT.of (s5 _ _ hK)),hvw.flat,fl,de (λcH=>?_) λcH=>?_⟩
  ·have h:bh kinds v=lH:=by
    rcases df (kinds:=kinds) hvw with ⟨rfl,h⟩ | ⟨rfl,h⟩ | ⟨⟨z,hz,rfl⟩,h⟩ | ⟨h,hno⟩
    ·exact absurd cH (by rw[show inV gz `h=false from hk.out `O];decide)
    ·exact absurd cH (by rw[show inV gf `h=false from hk.out (.inr rfl)];decide)
    ·exact h
    ·exact absurd cH (by rw[hno];decide)
   have hli:lies `y v x=true:=by unfold lies;rw[if_pos h]
   obtain ⟨d2,m2,hp6,he6⟩:=gx hk hvw hx hxw hp5 he5 hli;rw[if_pos hli,if_pos h,h] at e5;rw[if_pos h] at he6;rw[h] at hul' huw';exact b8 U5.1 (by rw[aa0];omega) (mkEndF ((s5.upd h1 _) _ _ hW) tw hq λH6 s6=>fin (endAt ws q') _ _ _ _ _ rfl ((s5.upd h1 _).trans s6) ((U5.put1 n21 n31 q' x).same s6) e5 hul' huw' ⟨d2,m2,hp6,he6⟩)
  ·obtain ⟨M,eM⟩:∃M:L2.St→Hp→Prop,∀σ' H',M σ' H'↔∃u2,σ'=[aA (.ref kt),aA (.ref st),aA `aV,aA (.int (q':Int)),aA (.ref l1),aA (.ref l2),aA (.ref l3),aA v,aA x]∧ah H H'∧oq H' l1 l2 l3 u2∧bq kinds ws (sh.drop (i+1)) (q'+1) u2=bq kinds ws sh p ⟨[],[],[]⟩∧(u2.hs.length≤i+1∧u2.ns.length≤i+1∧u2.vs.length≤i+1)∧vy u2∧(∃d m,pend d ((sh.drop (i+1)).map arV)=aA 0∧eat d ((ws.drop (q'+1)).map arV)=aA m):=⟨_,λ_ _=>abu⟩;refine g6 M ?_ ?_
   ·push_cast [rIn];have nav:¬gz=V.str `be:=by decide+kernel
    have nva:¬gf=V.str (aB "any"):=by decide+kernel
    refine ⟨hvw.sc _,?_⟩;rcases df (kinds:=kinds) hvw with ⟨rfl,h⟩ | ⟨rfl,h⟩ | ⟨⟨z,hz,rfl⟩,h⟩ | ⟨h,hno⟩
    ·rw[if_pos (show gz=V.str (aB "any") from rfl)];obtain ⟨k',rfl⟩:=hxw;cases k' with
     | inl i0=>
      have hli:lies (bh kinds gz) gz (kV (cK i0))=true:=by unfold lies;rw[h,if_neg b1,if_pos rfl];rfl
      obtain ⟨d2,m2,hp6,he6⟩:=gx hk hvw hx ⟨_,rfl⟩ hp5 he5 hli;rw[if_pos hli,h,if_neg b1] at e5;rw[h,if_neg b1] at he6;rw[h] at hul' huw';exact ⟨_,.int i0,true,rfl,Fu (b8 U5.2.1 (by omega) ((eM _ _).mpr ⟨_,rfl,s5.upd f2 _,U5.put2 n21 n32 q' _,e5,hul',huw',d2,m2,hp6,he6⟩))⟩
     | inr y=>
      have hli:¬lies (bh kinds gz) gz (kV (aP y))=true:=by unfold lies;rw[h,if_neg b1,if_pos rfl];exact aap
      rw[if_neg hli] at e5;refine ⟨_,.str y,false,rfl,rg ⟨hvw.sc _,?_⟩⟩;rw[if_neg nav];refine ⟨by show (2:Nat)≤sizeLine;decide,λpl hpl=>⟨_,.inr (SqT.of aa),rfl,rfl,?_⟩⟩;have z:=q _ (s5.trans (ae hpl (.tup [V.str (aB "any"),V.str `be])));rw[←e5] at z;rw[if_pos `c];exact z
    ·rw[if_neg nva];refine ⟨hvw.sc _,?_⟩;rw[if_pos (show gf=V.str `be from rfl)];have hxw':=hxw;obtain ⟨k',rfl⟩:=hxw;cases k' with
     | inl i0=>
      have hli:¬lies (bh kinds gf) gf (kV (cK i0))=true:=by unfold lies;rw[h,if_neg b2,if_neg b4,if_pos rfl];exact aap
      rw[if_neg hli] at e5;refine ⟨_,.int i0,true,rfl,rg ⟨by show (2:Nat)≤sizeLine;decide,λpl hpl=>⟨_,.inr (SqT.of aa),rfl,rfl,?_⟩⟩⟩;have z:=q _ (s5.trans (ae hpl (.tup [V.str (aB "any"),V.str `be])));rw[←e5] at z;rw[if_pos `c];exact z
     | inr y=>
      refine ⟨_,.str y,false,rfl,Fu ⟨by show (4:Nat)≤sizeLine;decide,λpl hpl=>⟨_,.inr (SqT.of aa),rfl,rfl,?_⟩⟩⟩;have four:=Um hxw';have s6:=s5.trans (ae hpl (.tup [V.str `i,V.str `M,V.str `B,V.str `A]));have U6:=U5.same (ae hpl (.tup [V.str `i,V.str `M,V.str `B,V.str `A]));by_cases c:0 < arV (kV (aP y))
      ·have hli:¬lies (bh kinds gf) gf (kV (aP y))=true:=by
        unfold lies;rw[h,if_neg b2,if_neg b4,if_pos rfl,decide_eq_false (by omega),Bool.and_false];decide
       rw[if_neg hli] at e5;rw[if_neg (by rw[show inV (kV (aP y)) [V.str `i,V.str `M,V.str `B,V.str `A]=true from four.mpr c];decide)];refine ⟨by show (2:Nat)≤sizeLine;decide,λpl' hpl'=>⟨_,.inr (SqT.of aa),rfl,rfl,?_⟩⟩;have z:=q _ (s6.trans (ae hpl' (.tup [V.str (aB "any"),V.str `be])));rw[←e5] at z;rw[if_pos `c];exact z
      ·have hli:lies (bh kinds gf) gf (kV (aP y))=true:=by
        unfold lies;rw[h,if_neg b2,if_neg b4,if_pos rfl,decide_eq_true (by omega),Bool.and_true];rfl
       obtain ⟨d2,m2,hp6,he6⟩:=gx hk hvw hx ⟨_,rfl⟩ hp5 he5 hli;rw[if_pos hli,h,if_neg b2] at e5;rw[h,if_neg b2] at he6;rw[h] at hul' huw';have c':inV (kV (aP y)) [V.str `i,V.str `M,V.str `B,V.str `A]=false:=Bool.eq_false_iff.mpr λe=>c (four.mp e);rw[if_pos (by rw[c'];decide)];exact b8 U6.2.2 (by omega) ((eM _ _).mpr ⟨_,rfl,s6.upd f3 _,U6.put3 n31 n32 q' _,e5,hul',huw',d2,m2,hp6,he6⟩)
    ·exact absurd (letH h) cH
    ·obtain ⟨na,nv⟩:=letO h;rw[if_neg (show ¬v=V.str (aB "any") from na)];refine ⟨hvw.sc _,?_⟩;rw[if_neg (show ¬v=V.str `be from nv)];refine ⟨by show (2:Nat)≤sizeLine;decide,λpl hpl=>⟨_,.inr (SqT.of aa),hvw.flat,rfl,?_⟩⟩;have s6:=ae hpl (.tup [V.str (aB "any"),V.str `be]);rw[if_neg (two_out hvw na nv)];refine ⟨hxw.sc2 hvw,?_⟩;by_cases c:v=x
     ·have hli:lies `y v x=true:=by unfold lies;rw[h,if_neg b3,if_neg b5,if_neg b6];exact decide_eq_true c
      obtain ⟨d2,m2,hp6,he6⟩:=gx hk hvw hx hxw hp5 he5 hli;rw[if_pos hli,h,if_neg b3,u.put0] at e5;rw[h,if_neg b3] at he6;rw[h,u.put0] at hul' huw';refine ifN (λn=>absurd c.symm n) λ_=>?_;exact (eM _ _).mpr ⟨_,rfl,s5.trans s6,U5.same s6,e5,hul',huw',d2,m2,hp6,he6⟩
     ·have hli:¬lies `y v x=true:=by unfold lies;rw[h,if_neg b3,if_neg b5,if_neg b6];exact λe=>c (of_decide_eq_true e)
      rw[if_neg hli] at e5;have z:=q _ (s5.trans s6);rw[←e5] at z;exact ifN (λ_=>z) λe=>absurd e.symm c
   ·intro σ' H' hM;obtain ⟨u2,rfl,a1,a2,a3,a4,a5,a6⟩:=(eM _ _).mp hM;push_cast [and_true];exact fin (q'+1) _ _ _ _ _ rfl a1 a2 a3 a4 a5 a6
 ·intro σ H5 hh;refine ob4 ((eP1 _ _ _).mp hh) λq' u v6 v7 hh=>?_;have s5:=hh.2.1;have U5:=hh.2.2.1;have e5:=hh.2.2.2.1;have hul:=hh.2.2.2.2.1;have huw:=hh.2.2.2.2.2.1;have hdm:=hh.2.2.2.2.2.2;obtain rfl:=hh.1;clear hh;rw[ady] at e5;have z:=q H5 s5;rw[←e5] at z;push_cast [and_true];refine ⟨_,.inl ⟨SqL.of U5.1,λt1 ht1=>?_⟩⟩;have U6:=U5.same (ae ht1 (.tup (u.hs.map plV)));refine ⟨_,.inl ⟨SqL.of U6.2.1,λt2 ht2=>?_⟩⟩;have U7:=U6.same (ae ht2 (.tup u.ns));refine ⟨_,.inl ⟨SqL.of U7.2.2,λt3 ht3=>⟨by show (3:Nat)≤sizeLine;decide,λt ht=>?_⟩⟩⟩;exact z t _ ((ae ht1 _).trans ((ae ht2 _).trans ((ae ht3 _).trans (ae ht _)))) ⟨t1,t2,t3,aa,ae ht _ _ _ (ae ht3 _ _ _ (ae ht2 _ _ _ aa)),ae ht _ _ _ (ae ht3 _ _ _ aa),ae ht _ _ _ aa⟩ ⟨⟨huw.1,by omega⟩,⟨huw.2,by omega⟩,by omega⟩
noncomputable abbrev ku:Stmt:=top 39
theorem E7:av ["book","rule"] ["book","rule"] (af ku):=⟨rfl,rfl,rfl,by decide+kernel,rfl,by decide+kernel,by decide+kernel⟩
theorem L6 (G:Gs w K mg κ) (D:Def K mg "_law_kinds" ku ["book","rule"]):Has P w K mg base (k+1) "_law_kinds" ["book","rule"] tm:=by
 refine D.has E7 (λvs H Q E h=>?_) (λf cdv A outer s H vs Q E hr h=>?_)
 ·obtain ⟨_,_,_,_,_,_,rfl,_,_,_,_,_,_⟩:=h;rfl
 have nd:=E7.nd;have hu:=br hr;have hu0:=aae hu;obtain ⟨b,ra,kt,rt,kinds,r,rfl,hb,hkt,hR,hw,hl,q⟩:=h;refine ⟨_,(A7 (AE (BI (B8 ["word"] ["book"] [0] `aA `n) (B7 (A6 (AA 0) (A0 1) (A3 0))) (λ_ _ _=>(B9 0 (show abj (["word","book"]:List Str) by decide+kernel))) (λ_ _ _=>(BS (BV (@qh _ K rfl) (A0 0) (A6 (@xc _ K rfl) (AH 1) (A3 0))))) (λ_ _ _=>(A0 0))))),?_⟩;rw[show start ["book","rule"] [.ref b,.ref ra]=[aA `Z,aA (.ref ra)] from rfl];clear hu hu0 nd hr;push_cast [and_true];have sz:=aQ;obtain ⟨st,dt,ds,hR1,hS,_⟩:=hR;refine ag hR1 rfl ⟨_,rfl,⟨r.shape,SqT.of hS⟩,λD hD=>?_⟩;have fl:(kinds.map V.str).all jr=true:=List.all_eq_true.mpr λx hx=>by obtain ⟨z,_,rfl⟩:=List.mem_map.mp hx;rfl
 refine km (xs:=r.shape) (λi ys=>ys=(r.shape.take i).filter (isH kinds)) (SqT.of hS) (by omega) hD rfl (λi x ys H3 G' K' hx hP hl2 hS' hG hK'=>?_) λys H3 hP hl2 hS' hD2=>?_
 ·have hxw:=hw x (aai hx);have et:r.shape.take (i+1)=r.shape.take i++[x]:=by rw[aar,hx];rfl
  push_cast [rIn];refine ag (hS' _ _ hb) rfl ?_;refine ⟨_,rfl,_,.inr (SqT.of (hS' _ _ hkt)),hxw.flat,fl,de (λe=>?_) λe=>?_⟩
  ·rw[Ds hxw] at e;refine hK' _ _ `aM ?_;rw[et,abv,←hP,ab2,if_pos e];rfl
  ·rw[Ds hxw] at e;refine hG _ `aM ?_;rw[et,abv,←hP,ab2,if_neg e];exact (ab1 _).symm
 ·rw[ac4,←jl] at hP;subst hP;exact q D H3 hS' hD hD2
noncomputable abbrev lr:Stmt:=top 40
theorem Gn:av ["book","words","place","kind","ranks","some","rule","found","spots"] ["book","words","place","kind","ranks"] (af lr):=⟨rfl,rfl,rfl,by decide+kernel,rfl,by decide+kernel,by decide+kernel⟩
theorem Lf (G:Gs w K mg κ) (h_law_fit:Has P w K mg base k "_law_fit" ["kinds","shape","words","place"] ph) (h_law_kinds:Has P w K mg base k "_law_kinds" ["book","rule"] tm) (D:Def K mg "_law_fitted" lr ["book","words","place","kind","ranks"]):Has P w K mg base (k+1) "_law_fitted" ["book","words","place","kind","ranks"] mr:=by
 refine D.has Gn (λvs H Q E h=>?_) (λf cdv A outer s H vs Q E hr h=>?_)
 ·obtain ⟨_,_,_,_,_,_,_,_,_,_,rfl,_,_,_,_,_,_,_⟩:=h;rfl
 have nd:=Gn.nd;have hu:=br hr;have hu0:=aae hu;obtain ⟨b,wt,d,p,kd,kinds,rs,ws,g,n,rfl,hB,hW,bk,tw,hp,hT,q⟩:=h;have m_all:=G.m_all;have m_list:=G.m_list;have m_zip:=G.m_zip;refine ⟨_,(A5 (A9 5 nd (AQ (A2 0))) (A5 (AZ (B7 `E) (AN 6 nd (by first | exact ab5 rfl | exact ab3 rfl)) (A7 (AK (AI (AR 0) (A6 (AA 0) (A0 6) (A3 0)) (A0 3) (AF 0)) (A5 (A9 7 nd (AD h_law_fit hr (A1 (A6 (AA 0) (A0 0) (A3 0)) (A1 (A6 (AA 0) (A0 6) (A3 0)) (A1 (A0 1) (A1 (A0 2) (A2 0))))))) (A7 (AK (BX (@Jj _ _ _ _ _ (A0 7)) (by first | exact gk _ (by decide) (by decide) | rfl)) (A5 (A9 8 nd (@yn _ _ _ _ _ _ _ _ rfl rfl m_list rfl m_zip (A1 (A6 (AA 0) (A0 7) (A3 0)) (A1 (AD h_law_kinds hr (A1 (A0 0) (A1 (A0 6) (A2 0)))) (A2 0))) rfl rfl rfl)) (A7 (AK (BC (AJ (@o7 _ rfl) m_all b_all (A1 (BI (B8 ["spot"] ["ranks"] [4] (aad rfl trivial) (aad (aad rfl (aad rfl rfl)) trivial)) (BP (A0 8)) (λ_ _ _=>(B9 0 (show abj (["spot","ranks"]:List Str) by decide+kernel))) (λ_ _ _=>(@zy _)) (λ_ _ _=>(@pe_cmp _ _ _ _ _ _ (@Iu _ _ _ _ _ hu (A0 0) (AH 1)) (by first | exact gk _ `a `a | rfl)))) (A2 0)))) (A7 (AU (AV aM aS aT (AY 0) (A0 5) (A1 (A8 (A1 (A0 6) (A1 (A0 8) (A2 0)))) (A2 0))))) (AL 0)))) (AL 0)))) (AL 0)))) (A7 (AE (A0 5))))),?_⟩;rw[show start ["book","words","place","kind","ranks","some","rule","found","spots"] [.ref b,.ref wt,.int (p:Int),.str kd,.ref d]=[aA `Z,aA `aV,aA `aa,aA (.str kd),aA `aY,none,none,none,none] from rfl];clear hu hu0 nd hr;push_cast [and_true];have sz:=aQ;have rl:rs.length≤100:=by have:=bk.len;rw[aa0] at this;exact this
 have hB0:=hB;obtain ⟨kt,rt,ra,hb,hkt,hrt,hRA⟩:=hB;refine ⟨aag _,λfl hfl=>?_⟩;have s0:=ae hfl `ai;refine ag (s0 _ _ hb) rfl ⟨rt,rfl,⟨_,SqT.of (s0 _ _ hrt)⟩,?_⟩;obtain ⟨P2,eP2⟩:∃P2:Nat→L2.St→Hp→Prop,∀i σ H',P2 i σ H'↔∃(as:List Addr) (v6 v7 v8:Option V),σ=[aA `Z,aA `aV,aA `aa,aA (.str kd),aA `aY,aA (.ref fl),v6,v7,v8]∧ah H H'∧H' fl=aA `f∧ee H' (λx=>H x≠none∨x=fl) as ((rs.take i).filterMap (fj kinds ws p kd g)):=⟨_,λ_ _ _=>abu⟩;refine gg (xs:=ra.map V.ref) P2 ((eP2 _ _ _).mpr ⟨[],none,none,none,rfl,s0,aa,ee.nil _ _⟩) (λi σ H' _ h=>by obtain ⟨_,_,_,_,_,s,_⟩:=(eP2 _ _ _).mp h;exact SqT.of (s _ _ hrt)) ?_ ?_
 ·intro i y σ H5 hy hh;refine ob4 ((eP2 _ _ _).mp hh) λas v6 v7 v8 hh=>?_;have s5:=hh.2.1;have f5:=hh.2.2.1;have F5:=hh.2.2.2;obtain rfl:=hh.1;clear hh;rw[aa4] at hy;obtain ⟨ai,hai,rfl⟩:=Option.map_eq_some_iff.mp hy;have hil:i < rs.length:=by rw[←hRA.1];exact (List.getElem?_eq_some_iff.mp hai).1
  have hri:rs[i]?=aA rs[i]:=aa1 hil;obtain ⟨a',ha',hRD⟩:=hRA.2 i _ hri;have hRD0:=hRD;obtain ⟨sa,da,g1,g2,g3⟩:=hRD;obtain rfl:a'=ai:=aa7 (ha'.symm.trans hai);generalize rs[i]=r at hri g1 g2 g3 hRD0;have hrm:=aai hri;obtain ⟨w1,w2,w3⟩:=bk.sh r.1 (ac2 hrm);have et':(rs.take (i+1)).filterMap (fj kinds ws p kd g)=(rs.take i).filterMap (fj kinds ws p kd g)++(fj kinds ws p kd g r).toList:=by
   rw[aar,hri,List.filterMap_append];congr 1
  have skip:fj kinds ws p kd g r=none→∀(H6:Hp) (w7 w8:Option V),ah H5 H6→P2 (i+1) [aA `Z,aA `aV,aA `aa,aA (.str kd),aA `aY,aA (.ref fl),aA (.ref a'),w7,w8] H6:=λe H6 w7 w8 s6=>(eP2 _ _ _).mpr ⟨as,_,_,_,rfl,s5.trans s6,s6 _ _ f5,by rw[et',e,show (none:Option Pc.Fd).toList=[] from rfl,ab1];exact F5.same s6⟩;push_cast [and_true];refine ag (s5 _ _ g1) rfl ⟨rfl,de (λek=>?_) λek=>?_⟩
  ·have ek:r.1.kind=kd:=by first | exact ek | exact V.str.inj ek
   refine ag (s5 _ _ hb) rfl (ag (s5 _ _ g1) rfl (M0 (s5 _ _ hkt) (s5 _ _ g2) (s5 _ _ hW) bk.kd w1 w2 w3 tw hp λH6 s6=>?_));have S6:=s5.trans s6;cases hu:bq kinds ws r.1.shape p ⟨[],[],[]⟩ with
   | none=>
    refine Ak ?_;push_cast [Gp];rw[if_neg `b];exact skip (by unfold fj;rw[if_pos ek,hu]) _ _ _ s6
   | some u=>
    intro t H7 s7 hu7 ok7;have S7:=S6.trans s7;obtain ⟨t1,t2,t3,u1,u2,_⟩:=id hu7;push_cast [Gp,tLZ];rw[if_pos `b];have s57:=s6.trans s7;have f7:=s57 _ _ f5;have hn:=(uo bk.kd r.1.shape p _ u w1 hu).1;have hn':u.hs.length=(aq kinds r.1.shape).length:=by simpa using hn
    refine ag u1 rfl (N7 (S7 _ _ hb) (S7 _ _ hkt) (gp.rule (hRD0.tk (TK.of S7))) w1 w3 λl H8 s8 hl8 h8=>?_);refine ⟨t1,rfl,l,rfl,u.hs.map plV,SqT.of (s8 _ _ u2),(aq kinds r.1.shape).map V.str,SqL.of h8,by rw[aa0,aa0];exact hn',λl2 bs H9 s9 hl9 hal hL hA=>?_⟩;have hlen:(u.hs.zip `v).length≤1000:=by
     have:=ok7.h;rw[abr];omega
    have s59:=s57.trans (s8.trans s9);have S9:=s5.trans s59;have hbs:bs.length=(u.hs.zip `v).length:=by
     rw[hal,aa0,abr];omega
    have hks:∀(j:Nat) (k:Ky),(u.hs.zip `v)[j]?=aA k→∃a,bs[j]?=aA a∧H9 a=aA (kyT k):=λj k hj=>by
     obtain ⟨k1,k2⟩:=List.getElem?_zip_eq_some.mp (show (u.hs.zip `v)[j]?=aA (k.1,k.2) from hj);exact hA j _ _ (by rw[aa4,k1];rfl) (by rw[aa4,k2];rfl)
    generalize hz:u.hs.zip `v=hs at hlen hbs hks;push_cast [and_true];refine ⟨⟨_,SqL.of hL⟩,λD hD=>xj (xs:=bs.map V.ref) (λj ys=>ys=(hs.take j).map λk=>V.bl (g k).isSome) (SqL.of hL) (by rw[aa0];omega) hD rfl (λj x ys H10 G' K' hx hP hl2 hS' hG hK'=>?_) λys H10 hP hl2 hS' hD2=>?_⟩
    ·rw[aa4] at hx;obtain ⟨a2,ha2,rfl⟩:=Option.map_eq_some_iff.mp hx;have hj:j < hs.length:=by rw[←hbs];exact (List.getElem?_eq_some_iff.mp ha2).1
     have hk:=aa1 hj;obtain ⟨a3,ha3,e3⟩:=hks j _ hk;obtain rfl:a3=a2:=aa7 (ha3.symm.trans ha2);push_cast [and_true];refine ⟨_,(hT.same (S9.trans hS')).get (hS' _ _ e3),hK' _ _ `aM ?_⟩;rw[hP,aar,hk,aaa,acn];rfl
    ·refine ⟨hs.map λk=>(g k).isSome,SqL.of (by rw[hD2,hP,aa0,hbs,aaw (aa3 _),abd];rfl),?_⟩;rw[all_map];refine de (λca=>?_) λca=>skip (by unfold fj;rw[if_pos ek,hu];show (if _ then _ else _)=_;rw[hz,if_neg ca]) _ _ _ (s59.trans hS');have ef:fj kinds ws p kd g r=aA (r,hs):=by unfold fj;rw[if_pos ek,hu];show (if _ then _ else _)=_;rw[hz,if_pos ca]
     refine ⟨bf ((s59.trans hS') _ _ f5),by show (2:Nat)≤sizeLine;decide,λpr hpr=>?_⟩;have sA:=ae hpr (.tup [V.ref a',V.ref l2]);have eA:upd H10 pr (.tup [V.ref a',V.ref l2]) pr=aA (.tup [V.ref a',V.ref l2]):=aa;generalize upd H10 pr (.tup [V.ref a',V.ref l2])=HA at sA eA ⊢;have s9A:=hS'.trans sA;have s5A:=s59.trans s9A;have fA:=s5A _ _ f5;have fal:as.length≤100:=by
      rw[F5.1];have h2:((rs.take i).filterMap (fj kinds ws p kd g)).length≤(rs.take i).length:=ad1 _ _;rw[aau] at h2;omega
     refine (b8 (K:=K) fA (by rw[aa0];omega) ((eP2 _ _ _).mpr ⟨as++[pr],_,_,_,rfl,(s5.trans s5A).upd hfl _,by rw[aa,aaa];rfl,?_⟩)).2;rw[et',ef];refine ee.kx (ee.snoc (F5.same s5A) ⟨a',l2,?_,eA,hRD0.tk (TK.of (s5.trans s5A)),bs,s9A _ _ hL,hbs,λj k hj=>?_⟩) ((Kx.upd fA).weak λx hx=>.inr hx)
     ·have f9:H7 l2=none:=s8.free hl9;rintro (z | z)
      ·exact z ((s5.trans s57).free f9)
      ·exact (ao f7 f9) z.symm
     ·obtain ⟨a2,b1,b2⟩:=hks j k hj;exact ⟨a2,b1,s9A _ _ b2⟩
  ·have ek:¬r.1.kind=kd:=λe=>ek (by rw[e]);exact skip (by unfold fj;rw[if_neg ek]) _ _ _ `aM
 ·intro σ H5 hh;refine ob4 ((eP2 _ _ _).mp hh) λas v6 v7 v8 hh=>?_;have s5:=hh.2.1;have f5:=hh.2.2.1;have F5:=hh.2.2.2;obtain rfl:=hh.1;clear hh;push_cast [and_true];rw[aa0,aaw (by rw[hRA.1];exact aa3 _)] at F5;exact q fl as H5 s5 hfl f5 (F5.weak λx hx=>.inl hx)
noncomputable abbrev kb:Stmt:=top 41
theorem Ez:av ["book","words","ranks","place","turn","kind"] ["book","words"] (af kb):=⟨rfl,rfl,rfl,by decide+kernel,rfl,by decide+kernel,by decide+kernel⟩
theorem K5 (G:Gs w K mg κ) (h_law_fitted:Has P w K mg base k "_law_fitted" ["book","words","place","kind","ranks"] mr) (D:Def K mg "_law_ranks" kb ["book","words"]):Has P w K mg base (k+1) "_law_ranks" ["book","words"] sx:=by
 refine D.has Ez (λvs H Q E h=>?_) (λf cdv A outer s H vs Q E hr h=>?_)
 ·obtain ⟨_,_,_,_,_,rfl,_,_,_,_,_,_⟩:=h;rfl
 have nd:=Ez.nd;have hu:=br hr;have hu0:=aae hu;obtain ⟨b,wt,kinds,rs,ws,rfl,hB,hW,bk,k3,tw,q⟩:=h;have m_len:=G.m_len;have m_range:=G.m_range;refine ⟨_,(A5 (A9 2 nd (@Pw _ _)) (A5 (AZ (@As _ _ _ _ _ _ _ _ rfl m_range (A1 (A4 (BH 0) (AJ (AS 0) m_len cm (A1 (A0 1) (A2 0))) (A3 0)) (A1 (BZ (@uh _) (A3 0)) (A1 (BZ (@uh _) (A3 0)) (A2 0)))) rfl rfl) (AN 3 nd (by first | exact ab5 rfl | exact ab3 rfl)) (A7 (AZ (C0 m_range (A1 (AJ (AS 0) m_len cm (A1 (A6 (AA 0) (A0 0) (A3 0)) (A2 0))) (A2 0))) (AN 4 nd (by first | exact ab5 rfl | exact ab3 rfl)) (A7 (AZ (B7 (A6 (AA 0) (A0 0) (A3 0))) (AN 5 nd (by first | exact ab5 rfl | exact ab3 rfl)) (A7 (AK (BO (C4 (BX (@Ll _ _ _ _ _ hu (A8 (A1 (A0 3) (A1 (A0 5) (A2 0)))) (A0 2)) (by first | exact gk _ (by decide) (by decide) | rfl)) (@wx _ _ _ _ (AI (@jh _) (AJ (AS 0) m_len cm (A1 (AD h_law_fitted hr (A1 (A0 0) (A1 (A0 1) (A1 (A0 3) (A1 (A0 5) (A1 (A0 2) (A2 0))))))) (A2 0))) (A3 0) (AF 0))))) (A7 (C5 hu (A0 2) (A8 (A1 (A0 3) (A1 (A0 5) (A2 0)))) (AJ (@Lz _) m_len cm (A1 (A0 2) (A2 0))))) (AL 0)))))))) (A7 (AE (A0 2))))),?_⟩;rw[show start ["book","words","ranks","place","turn","kind"] [.ref b,.ref wt]=[aA (.ref b),aA (.ref wt),none,none,none,none] from rfl];clear hu hu0 nd hr;push_cast [and_true];have sz:=aQ;have wl:=tw.len;push_cast [Qu,iDn];intro d hd;have hB0:=hB;obtain ⟨kt,rt,ra,hb,hkt,hrt,hRA⟩:=hB;have S1:=ae hd (.dT []);have d1:TbK (upd H d (.dT [])) d (λ_=>none) []:=TbK.nil;generalize upd H d (.dT [])=H1 at S1 d1 ⊢;refine ⟨ws,.inr (SqT.of (S1 _ _ hW)),ws.length,rfl,by omega,?_⟩;obtain ⟨P0,eP0⟩:∃P0:Option V→Option V→Nat→L2.St→Hp→Prop,∀w3 w4 m σ H',P0 w3 w4 m σ H'↔∃(g:Ky→Option Int) (ks:List Ky) (v5:Option V),σ=[aA `Z,aA `aV,aA `aY,w3,w4,v5]∧ah H H'∧TbK H' d g ks∧Rki kinds rs ws g ks.length∧ks.length≤m:=⟨_,λ_ _ _ _ _=>abu⟩;refine Jm (n:=ws.length) (λi σ H'=>∃w3 w4,P0 w3 w4 (9*(ws.length - i)) σ H') ⟨none,none,(eP0 _ _ _ _ _).mpr ⟨_,[],none,rfl,S1,d1,⟨⟨(λk v h=>nomatch h),(λk v h=>nomatch h)⟩,(λk v h=>nomatch h)⟩,aag _⟩⟩ ?_ ?_
 ·rintro i σ H5 hi ⟨w3,w4,hh⟩;refine ob3 ((eP0 _ _ _ _ _).mp hh) λg ks v5 hh=>?_;have s5:=hh.2.1;have T5:=hh.2.2.1;have R5:=hh.2.2.2.1;have l5:=hh.2.2.2.2;obtain rfl:=hh.1;clear hh;push_cast [and_true];refine ag (s5 _ _ hb) rfl ⟨_,.inr (SqT.of (s5 _ _ hkt)),by rw[aa0];omega,by rw[aa0];omega,?_⟩;rw[aa0,show ((kinds.length:Nat):Int).toNat=kinds.length by omega];refine pf (lo:=0) (λt σ H'=>∃w4,P0 (aA (.int (i:Int))) w4 (9*(ws.length - (i+1))+3*t) σ H') ⟨w4,(eP0 _ _ _ _ _).mpr ⟨g,ks,v5,rfl,s5,T5,R5,by omega⟩⟩ ?_ ?_
  ·rintro t σ H6 ht ⟨w4,hh⟩;refine ob3 ((eP0 _ _ _ _ _).mp hh) λg ks v5 hh=>?_;have s6:=hh.2.1;have T6:=hh.2.2.1;have R6:=hh.2.2.2.1;have l6:=hh.2.2.2.2;obtain rfl:=hh.1;clear hh;push_cast [and_true];refine ag (s6 _ _ hb) rfl ⟨kt,rfl,⟨_,SqT.of (s6 _ _ hkt)⟩,?_⟩;refine gg (xs:=kinds.map V.str) (λj σ H'=>P0 (aA (.int (i:Int))) (aA (.int (0+(t:Int)))) (9*(ws.length - (i+1))+3*t+j) σ H') ((eP0 _ _ _ _ _).mpr ⟨g,ks,v5,rfl,s6,T6,R6,by omega⟩) (λj σ H' _ h=>by obtain ⟨_,_,_,_,s,_⟩:=(eP0 _ _ _ _ _).mp h;exact SqT.of (s _ _ hkt)) ?_ ?_
   ·intro j y σ H7 hy hh;refine ob3 ((eP0 _ _ _ _ _).mp hh) λg ks v5 hh=>?_;have s7:=hh.2.1;have T7:=hh.2.2.1;have R7:=hh.2.2.2.1;have l7:=hh.2.2.2.2;obtain rfl:=hh.1;clear hh;rw[aa4] at hy;obtain ⟨kd,hkd,rfl⟩:=Option.map_eq_some_iff.mp hy;have hj:=(List.getElem?_eq_some_iff.mp hkd).1;push_cast [and_true];refine ⟨by show (2:Nat)≤sizeLine;decide,λp1 hp1=>⟨_,(T7.same (ae hp1 _)).tb.get (k:=(i,kd)) aa,?_⟩⟩;have sA:=ae hp1 (.tup [V.int (i:Int),V.str kd]);generalize upd H7 p1 (.tup [V.int (i:Int),V.str kd])=H8 at sA ⊢;have keep:∀H',ah H7 H'→P0 (aA (.int (i:Int))) (aA (.int (0+(t:Int)))) (9*(ws.length - (i+1))+3*t+(j+1)) [aA `Z,aA `aV,aA `aY,aA (.int (i:Int)),aA (.int (0+(t:Int))),aA (.str kd)] H':=λH' s'=>(eP0 _ _ _ _ _).mpr ⟨g,ks,_,rfl,s7.trans s',T7.same s',R7,by omega⟩;cases e:g (i,kd) with
    | some v=>exact rg (keep _ sA)
    | none=>
     refine Fu (E4 (hB0.tk (TK.of (s7.trans sA))) ((s7.trans sA) _ _ hW) bk tw hi ((T7.same sA).tb) λl as H9 s9 hl9 h9 F9=>⟨_,.inl (SqL.of h9),de (λc=>?_) λc=>keep _ (sA.trans s9)⟩);rw[aa0,F9.1] at c;have s79:=sA.trans s9;obtain ⟨kvs,hkv,ekv⟩:=(T7.same s79).len;refine ⟨kvs,hkv,by show (2:Nat)≤sizeLine;decide,λp2 hp2=>?_⟩;have sB:=ae hp2 (.tup [V.int (i:Int),V.str kd]);obtain ⟨o,D1,D2⟩:=((T7.same s79).same sB).new (k:=(i,kd)) (v:=(kvs.length:Int)) aa (by omega) e;refine ⟨_,D1,(eP0 _ _ _ _ _).mpr ⟨_,_,_,rfl,((s7.trans s79).trans sB).upd hd _,D2,?_,by rw[aa2,aa5];omega⟩⟩;rw[ekv,aa2];exact R7.put e hi (aai hkd) (show 0 < (qa kinds rs ws i kd g).length by omega)
   ·intro σ H7 hh;rw[aa0] at hh;refine ob3 ((eP0 _ _ _ _ _).mp hh) λg ks v5 hh=>?_;have s7:=hh.2.1;have T7:=hh.2.2.1;have R7:=hh.2.2.2.1;have l7:=hh.2.2.2.2;obtain rfl:=hh.1;clear hh;exact ⟨_,(eP0 _ _ _ _ _).mpr ⟨g,ks,_,rfl,s7,T7,R7,by omega⟩⟩
  ·rintro σ H6 ⟨w4,hh⟩;refine ob3 ((eP0 _ _ _ _ _).mp hh) λg ks v5 hh=>?_;have s6:=hh.2.1;have T6:=hh.2.2.1;have R6:=hh.2.2.2.1;have l6:=hh.2.2.2.2;obtain rfl:=hh.1;clear hh;exact ⟨_,_,(eP0 _ _ _ _ _).mpr ⟨g,ks,_,rfl,s6,T6,R6,by omega⟩⟩
 ·rintro σ H5 ⟨w3,w4,hh⟩;refine ob3 ((eP0 _ _ _ _ _).mp hh) λg ks v5 hh=>?_;have s5:=hh.2.1;have T5:=hh.2.2.1;have R5:=hh.2.2.2.1;have l5:=hh.2.2.2.2;obtain rfl:=hh.1;clear hh;push_cast [and_true];exact q d H5 g ks s5 hd T5 R5.1
noncomputable abbrev kf:Stmt:=top 42
theorem Fs:av ["script","at","book","words","ranks","kind","cover","wanted","spot","some","rule","holes"] ["script","at","book","words","ranks","kind"] (af kf):=⟨rfl,rfl,rfl,by decide+kernel,rfl,by decide+kernel,by decide+kernel⟩
theorem La (G:Gs w K mg κ) (h_law_draw:Has P w K mg base k "_law_draw" ["script","k"] (lp K)) (h_law_fitted:Has P w K mg base k "_law_fitted" ["book","words","place","kind","ranks"] mr) (D:Def K mg "_law_cover" kf ["script","at","book","words","ranks","kind"]):Has P w K mg base (k+1) "_law_cover" ["script","at","book","words","ranks","kind"] (si K):=by
 refine D.has Fs (λvs H Q E h=>?_) (λf cdv A outer s H vs Q E hr h=>?_)
 ·obtain ⟨_,_,_,_,_,_,_,_,_,_,_,_,rfl,_,_,_,_,_,_,_,_,_,_,_,_⟩:=h;rfl
 have nd:=Fs.nd;have hu:=br hr;have hu0:=aae hu;obtain ⟨a,b,wt,d,ns,n0,kd,kinds,rs,ws,g,ks,rfl,hA,hl,hn0,hB,hW,bk,k3,tw,hT,hR,hg,q⟩:=h;have m_all:=G.m_all;have m_len:=G.m_len;have m_tuple:=G.m_tuple;refine ⟨_,(A5 (A9 6 nd (AQ (A2 0))) (A5 (A9 7 nd (AQ (A1 (A8 (A1 (A3 0) (A1 (A0 5) (A2 0)))) (A2 0)))) (A5 (C2 (AI (@jh _) (AJ (AS 0) m_len cm (A1 (A0 7) (A2 0))) (A3 0) (AF 0)) (A5 (BT 8 nd (AV aM fM fN (@Pr _) (A0 7) (A1 (A3 0) (A2 0)))) (A5 (A9 9 nd (AD h_law_fitted hr (A1 (A0 2) (A1 (A0 3) (A1 (A6 (AA 0) (AH 8) (A3 0)) (A1 (A6 (AA 0) (AH 8) (A3 0)) (A1 (AH 4) (A2 0)))))))) (BG (AK (AI (@Ie _) (AJ (AS 0) m_len cm `a9) (A3 0) (AF 0)) (A7 (BU 9 nd (B8 ["one"] ["ranks","spot"] [4,8] (aad rfl `aA) (aad (aad rfl (aad rfl rfl)) `n)) (BP (A0 9)) (λ_ _ _=>(B9 0 (show abj (["one","ranks","spot"]:List Str) by decide+kernel))) (λ_ _ _=>(BS (BC (AJ (@zr _ K rfl rfl) m_all b_all (A1 (BI (B8 ["hole"] ["ranks","spot"] [1,2] (aad rfl `aA) (aad (aad rfl (aad rfl rfl)) `n)) (@Qb _ K rfl _ _ _ (A6 (@xc _ K rfl) (A0 0) (A3 0))) (λ_ _ _=>(B9 0 (show abj (["hole","ranks","spot"]:List Str) by decide+kernel))) (λ_ _ _=>(@zy _)) (λ_ _ _=>(C3 (@Dj _) (BD hu (AH 1) (A0 0)) (BD hu (AH 1) (AH 2)) (AF 0)))) (A2 0)))))) (λ_ _ _=>(A0 0)))) (AL 0)) (A5 (BQ (A6 (AO 0) (A0 9) (A4 (AG 0) (AD h_law_draw hr (A1 (A0 0) (A1 (A4 (AM 0) (A0 1) (AJ (AS 0) m_len cm `a9)) (A2 0)))) (AJ (AS 0) m_len cm (A1 (A0 9) (A2 0))))) (BM 2 (B5 (AN 10 nd (by first | exact ab5 rfl | exact ab3 rfl)) (B5 (AN 11 nd (by first | exact ab5 rfl | exact ab3 rfl)) (BN 0))))) (A5 (AU (AV aM aS aT (AY 0) (A0 6) (A1 (A6 (AA 0) (A0 10) (A3 0)) (A2 0)))) (A7 (A9 7 nd (A4 (@G7 _) (A0 11) (A0 7)))))))))) (A7 (AE (B0 (BB 0) m_tuple dq `a9)))))),?_⟩;rw[show start ["script","at","book","words","ranks","kind","cover","wanted","spot","some","rule","holes"] [.ref a,.int (n0:Int),.ref b,.ref wt,.ref d,.str kd]=[aA `r,aA (.int (n0:Int)),aA `Z,aA `aV,aA `aY,aA (.str kd),none,none,none,none,none,none] from rfl];clear hu hu0 nd hr;push_cast [and_true];have sz:=aQ;have wl':=tw.len;have h0:0 < ws.length:=by
  obtain ⟨v,hv⟩:=Option.isSome_iff_exists.mp hg;exact (hR.at' _ v hv).1
 refine ⟨aag _,λcl hcl=>?_⟩;have s1:=ae hcl `ai;have e1:upd H cl `ai cl=aA `ai:=aa;generalize upd H cl `ai=H1 at s1 e1 ⊢;refine ⟨by show (2:Nat)≤sizeLine;decide,λt0 h_t0=>?_⟩;have s_t0:=ae h_t0 (.tup [V.int 0,V.str kd]);have e_t0:upd H1 t0 (.tup [V.int 0,V.str kd]) t0=aA (.tup [V.int 0,V.str kd]):=aa;generalize upd H1 t0 (.tup [V.int 0,V.str kd])=H2 at s_t0 e_t0 ⊢;refine ⟨by show (1:Nat)≤sizeLine;decide,λwl h_wl=>?_⟩;have s_wl:=ae h_wl (.lst [V.ref t0]);have e_wl:upd H2 wl (.lst [V.ref t0]) wl=aA (.lst [V.ref t0]):=aa;generalize upd H2 wl (.lst [V.ref t0])=H3 at s_wl e_wl ⊢;obtain ⟨P1,eP1⟩:∃P1:L2.St→Hp→Prop,∀σ H',P1 σ H'↔∃(cs:List Rd) (st:List Ky) (wl:Addr) (v8 v9 v10 v11:Option V),σ=[aA `r,aA (.int (n0:Int)),aA `Z,aA `aV,aA `aY,aA (.str kd),aA (.ref cl),aA (.ref wl),v8,v9,v10,v11]∧ah H H'∧H wl=none∧wl≠cl∧H' cl=aA (.lst (cs.map λr=>V.str r.1.name))∧Hd H' wl st∧CvI kinds rs ws g kd cs st:=⟨_,λ_ _=>abu⟩;have S2:=s1.trans s_t0;have S3:=S2.trans s_wl;refine m9 P1 (λσ H'=>4*ws.length+81 - yf H' cl) ?_ ?_ ?_
 ·refine (eP1 _ _).mpr ⟨[],[(0,kd)],wl,none,none,none,none,rfl,S3,S2.free h_wl,(ao (s_t0 _ _ e1) h_wl).symm,(s_t0.trans s_wl) _ _ e1,⟨[t0],e_wl,rfl,λj k hj=>?_⟩,⟨λcs' h=>h,λk hk=>?_,?_⟩⟩
  ·cases j with
   | zero=>cases hj;exact ⟨t0,rfl,s_wl _ _ e_t0⟩
   | succ j=>cases hj
  ·rw[List.mem_singleton.mp hk];exact hg
  ·have:=J8 (g:=g) k3 tw (0,kd) h0;rw[iy];have q0:ou kinds ws g []=0:=rfl;show 0+_+4*(20 - 0)≤_
   omega
 ·intro σ H4 hh;refine ob7 ((eP1 _ _).mp hh) λcs st wl2 v8 v9 v10 v11 hh=>?_;have s4:=hh.2.1;have hw4:=hh.2.2.1;have n4:=hh.2.2.2.1;have c4:=hh.2.2.2.2.1;have W4:=hh.2.2.2.2.2.1;have I4:=hh.2.2.2.2.2.2;obtain rfl:=hh.1;clear hh;have few:=I4.few;push_cast [and_true];cases st with
  | nil=>
   obtain ⟨as,g1,g2,g3⟩:=W4;cases as with
   | cons=>cases g2
   | nil=>
    refine ⟨_,.inl (SqL.of g1),?_⟩;rw[if_neg `a];refine ⟨_,.inl ⟨SqL.of c4,λt ht=>?_⟩⟩;exact q t _ cs (s4.trans (ae ht _)) aa (by have:=I4.go [] .nil;rw[ab1] at this;exact this) (by omega)
  | cons k st=>
   obtain ⟨a0,as,w1,w2,w3,w4⟩:=W4.head rfl;obtain ⟨v,hv⟩:=Option.isSome_iff_exists.mp (I4.rk k aa6);obtain ⟨kp,kk⟩:=hR.at' k v hv;refine ⟨_,.inl (SqL.of w1),?_⟩;rw[if_pos (by rw[aa8];omega)];refine ⟨bf w1,Rh w1 ?_⟩;have s5:=s4.upd hw4 `f;have w5:upd H4 wl2 `f wl2=aA `f:=aa;have tk5:TK H4 (upd H4 wl2 `f):=TK.put w1 (by intro _ z;cases z);have c5:upd H4 wl2 `f cl=aA (.lst (cs.map λr=>V.str r.1.name)):=by rw[ak n4.symm];exact c4
   generalize upd H4 wl2 `f=H5 at s5 w5 tk5 c5 ⊢;have a5:=tk5 _ _ w2;refine ag a5 rfl (ag a5 rfl (E4 (hB.tk (TK.of s5)) (s5 _ _ hW) bk tw kp (hT.same s5).tb λfl fas H6 s6 hfl f6 F6=>?_));obtain ⟨M,eM⟩:∃M:L2.St→Hp→Prop,∀σ' H',M σ' H'↔∃(fl:Addr) (fas:List Addr) (fs:List Fd),σ'=[aA `r,aA (.int (n0:Int)),aA `Z,aA `aV,aA `aY,aA (.str kd),aA (.ref cl),aA (.ref wl2),aA (.ref a0),aA (.ref fl),v10,v11]∧ah H5 H'∧H' fl=aA (.lst (fas.map V.ref))∧ee H' (λx=>H5 x≠none) fas fs∧0 < fs.length∧(∀f∈fs,f∈qa kinds rs ws k.1 k.2 g)∧(20≤cs.length→∀f∈fs,Ac g v f=true):=⟨_,λ_ _=>abu⟩;refine g6 M ?_ ?_
   ·push_cast [and_true];refine ⟨_,.inl (SqL.of (s6 _ _ c5)),?_⟩;rw[aa0];obtain ⟨fL,hfL,lowL⟩:=hR.low k v hv;refine de (λc=>?_) λc=>(eM _ _).mpr ⟨fl,fas,_,rfl,s6,f6,F6,ae3 hfL,(λf h=>h),λc'=>absurd c' (by omega)⟩;have S6:=s5.trans s6;have hfd:∀f∈qa kinds rs ws k.1 k.2 g,∀h∈f.2,(g h).isSome=true:=λf hf=>by
     obtain ⟨_,_,u,_,_,z⟩:=ny hf;exact z
    have len1:(qa kinds rs ws k.1 k.2 g).length≤100:=by
     have h2:(qa kinds rs ws k.1 k.2 g).length≤rs.length:=ad1 _ _;have h3:=bk.len;rw[aa0] at h3;omega
    have hol:∀f∈qa kinds rs ws k.1 k.2 g,f.2.length≤10000:=λf hf=>by
     obtain ⟨y1,y2,u,y3,y4,y5⟩:=ny hf;have z1:=Jk (g:=g) bk tw (ac2 y1) kp y3;rw[←y4] at z1;have z2:=xy kinds ws g f.2;have z3:=J8 (g:=g) k3 tw k kp;omega
    generalize hfdE:qa kinds rs ws k.1 k.2 g=fd at F6 hfL hfd len1 hol;refine ⟨⟨_,SqL.of f6⟩,λl hl6=>?_⟩;refine xj (xs:=fas.map V.ref) (λi ys=>∃as',ys=as'.map V.ref∧ee H6 (λx=>H5 x≠none) as' ((fd.take i).filter (Ac g v))) (SqL.of f6) (by rw[aa0,F6.1];omega) hl6 ⟨[],rfl,ee.nil _ _⟩ (λi x ys H8 G' K' hx hP hl2 hS' hG hK'=>?_) λys H8 hP hl2 hS' hD2=>?_
    ·rw[aa4] at hx;obtain ⟨fa,hfa,rfl⟩:=Option.map_eq_some_iff.mp hx;obtain ⟨f,hf,hFA⟩:=F6.get hfa;have hfm:=aai hf;have et:(fd.take (i+1)).filter (Ac g v)=(fd.take i).filter (Ac g v)++if Ac g v f=true then [f] else []:=by
      rw[aar,hf,abv];congr 1
      show [f].filter _=_
      rw[ab2];rfl
     obtain ⟨as',rfl,F'⟩:=hP;obtain ⟨ra,hll,g2,g3,g4,bs,b1,b2,b3⟩:=id hFA;push_cast [and_true];refine ag (hS' _ _ g3) rfl ⟨hll,rfl,⟨_,SqL.of (hS' _ _ b1)⟩,λD' hD'=>?_⟩;refine xj (xs:=bs.map V.ref) (λj ys=>ys=(f.2.take j).map λh=>V.bl (ltB g v h)) (SqL.of (hS' _ _ b1)) (by rw[aa0,b2];have:=hol f hfm;omega) hD' rfl (λj x ys H9 G2 K2 hx hP2 hl3 hS2 hG2 hK2=>?_) λys H9 hP2 hl3 hS2 hD3=>?_
     ·rw[aa4] at hx;obtain ⟨ba,hba,rfl⟩:=Option.map_eq_some_iff.mp hx;have hj:j < f.2.length:=by rw[←b2];exact (List.getElem?_eq_some_iff.mp hba).1
      have hk:=aa1 hj;obtain ⟨ba',hba',e3⟩:=b3 j _ hk;obtain rfl:ba'=ba:=aa7 (hba'.symm.trans hba);obtain ⟨w,hw⟩:=Option.isSome_iff_exists.mp (hfd f hfm _ (aaf hj));push_cast [and_true];have T9:=(hT.same ((S6.trans hS').trans hS2)).tb;refine ⟨_,T9.val ((hS'.trans hS2) _ _ e3) hw,_,T9.val (((s6.trans hS').trans hS2) _ _ a5) hv,?_⟩;refine hK2 _ _ `aM ?_;rw[hP2,aar,hk,aaa];have:ltB g v f.2[j]=decide (w < v):=by unfold ltB;rw[hw]
      show _=_++[V.bl (ltB g v f.2[j])]
      rw[this]
     ·refine ⟨f.2.map (ltB g v),SqL.of (by rw[hD3,hP2,aa0,b2,aaw (aa3 _),abd];rfl),?_⟩;rw[all_map];refine de (λcc=>?_) λcc=>?_
      ·exact hK' _ _ hS2 ⟨as'++[fa],by rw[aaa];rfl,by rw[et,if_pos (show Ac g v f=true from cc)];exact F'.snoc hFA⟩
      ·exact hG _ hS2 ⟨as',rfl,by rw[et,if_neg (show ¬Ac g v f=true from cc),ab1];exact F'⟩
    ·obtain ⟨as',rfl,F'⟩:=hP;rw[aa0,F6.1,aaw (aa3 _)] at F';exact (eM _ _).mpr ⟨l,as',_,rfl,s6.trans hS',hD2,F'.same hS',ae3 (List.mem_filter.mpr ⟨hfL,Ge.mpr lowL⟩),(λf h=>by rw[hfdE];exact (List.mem_filter.mp h).1),λ_ f h=>(List.mem_filter.mp h).2⟩
   ·intro σ' H7 hM;obtain ⟨fl,fas,fs,rfl,s7,f7,F7,fp,fi,flo⟩:=(eM _ _).mp hM;push_cast [and_true];have S7:=s5.trans s7;have c7:=s7 _ _ c5;have al:=F7.1;refine ⟨_,.inl (SqL.of c7),?_⟩;rw[aa0,show (n0:Int)+(cs.length:Int)=((n0+cs.length:Nat):Int) by omega];refine cz (S7.seq hA) hl (by omega) ⟨_,.inl (SqL.of f7),?_⟩;rw[aa0,al];obtain ⟨i1,hi1,ei1⟩:=zx (drw ns (n0+cs.length)) fp;obtain ⟨fa,hfa,ra,hll,g2,g3,g4,bs,b1,b2,b3⟩:=F7.2 i1 _ (aa1 hi1);have hfm:=aaf hi1;generalize fs[i1]=f at g4 b2 b3 hfm;have I8:=I4.step bk k3 tw hv kp (fi f hfm) (λc=>flo c f hfm);have few8:=I8.few;have len8:=xy kinds ws g (f.2++st);rw[aa2] at len8;refine ⟨by omega,az (v:=.ref fa) f7 (by rw[ei1];exact ay (by rw[aa4,hfa];rfl)) (fm g3 rfl ?_)⟩;push_cast [and_true];obtain ⟨sa,da,r1,r2,r3⟩:=g4;refine ⟨bf c7,ag r1 rfl (b8 (K:=K) c7 (by rw[aa0];omega) ?_).2⟩;have nhl:hll≠cl:=λe=>g2 (show H5 hll≠none by rw[e,c5];intro z;cases z);have S8:=S7.upd hcl (.lst ((cs.map λr=>V.str r.1.name)++[V.str f.1.1.name]));have tk8:TK H7 (upd H7 cl (.lst ((cs.map λr=>V.str r.1.name)++[V.str f.1.1.name]))):=TK.put c7 (by intro _ z;cases z);refine Co (xs:=bs.map V.ref) (ys:=as.map V.ref) (by rw[ak nhl];exact b1) (by rw[ak n4];exact s7 _ _ w5) (by rw[aa0,aa0];omega) λp3 hp3=>?_;have sp:=ae hp3 (.lst (bs.map V.ref++as.map V.ref));have c9:=sp _ _ (aa (H:=H7) (a:=cl) (o:=.lst ((cs.map λr=>V.str r.1.name)++[V.str f.1.1.name])));refine ⟨(eP1 _ _).mpr ⟨cs++[f.1],f.2++st,p3,_,_,_,_,rfl,S8.trans sp,S8.free hp3,(ao aa hp3).symm,by rw[c9,aaa];rfl,⟨bs++as,by rw[aa,aaa],by rw[aa2,aa2];omega,Qp b2 (λj x hx=>?_) λj x hx=>?_⟩,I8⟩,?_⟩
    ·obtain ⟨y,y1,y2⟩:=b3 j x hx;exact ⟨y,y1,sp _ _ (tk8 _ _ y2)⟩
    ·obtain ⟨y,y1,y2⟩:=w4 j x hx;exact ⟨y,y1,sp _ _ (tk8 _ _ (s7 _ _ (tk5 _ _ y2)))⟩
    ·rw[jz c9,jz c4,aa2,aa0,aa5];omega
 ·intro σ H' Q1 Q2 hq h;exact Fy hq h
noncomputable abbrev rh:Stmt:=top 43
theorem Ka:av ["book","name"] ["book","name"] (af rh):=⟨rfl,rfl,rfl,by decide+kernel,rfl,by decide+kernel,by decide+kernel⟩
theorem Ra (G:Gs w K mg κ) (D:Def K mg "_law_rule" rh ["book","name"]):Has P w K mg base (k+1) "_law_rule" ["book","name"] nj:=by
 refine D.has Ka (λvs H Q E h=>?_) (λf cdv A outer s H vs Q E hr h=>?_)
 ·obtain ⟨_,_,_,_,_,rfl,_,_,_,_,_⟩:=h;rfl
 have nd:=Ka.nd;have hu:=br hr;have hu0:=aae hu;obtain ⟨b,kinds,rs,i,r,rfl,hB,hnd,hlen,hri,q⟩:=h;refine ⟨_,(A7 (AE (A6 (AO 0) (BI (B8 ["rule"] ["name"] [1] `aA `n) (B7 `E) (λ_ _ _=>(B9 0 (show abj (["rule","name"]:List Str) by decide+kernel))) (λ_ _ _=>(BS (AI (AR 0) (A6 (@xc _ K rfl) (A0 0) (A3 0)) (AH 1) (AF 0)))) (λ_ _ _=>(A0 0))) (A3 0)))),?_⟩;rw[show start ["book","name"] [.ref b,.str r.1.name]=[aA `Z,aA (.str r.1.name)] from rfl];clear hu hu0 nd hr;push_cast [and_true];have sz:=aQ;obtain ⟨kt,rt,ra,hb,hkt,hrt,hRA⟩:=hB;have hral:=hRA.1;obtain ⟨ai,hai,hRi⟩:=hRA.2 i r hri;have hi:=(List.getElem?_eq_some_iff.mp hri).1;refine ag hb rfl ⟨rt,rfl,⟨_,SqT.of hrt⟩,λD hD=>?_⟩;refine km (xs:=ra.map V.ref) (λj ys=>(j≤i∧ys=[])∨(i < j∧ys=[V.ref ai])) (SqT.of hrt) (by rw[aa0];omega) hD (.inl ⟨aag _,rfl⟩) (λj x ys H3 G' K' hx hP hl2 hS' hG hK'=>?_) λys H3 hP hl2 hS' hD2=>?_
 ·rw[aa4] at hx;obtain ⟨aj,haj,rfl⟩:=Option.map_eq_some_iff.mp hx;have hj:j < rs.length:=by rw[←hral];exact (List.getElem?_eq_some_iff.mp haj).1
  have hrj:=aa1 hj;obtain ⟨aj',haj',sa,da,g1,g2,g3⟩:=hRA.2 j _ hrj;obtain rfl:aj'=aj:=aa7 (haj'.symm.trans haj);push_cast [and_true];refine ag (hS' _ _ g1) rfl ⟨rfl,de (λe=>?_) λe=>?_⟩
  ·have e:rs[j].1.name=r.1.name:=by first | exact e | exact V.str.inj e
   have ij:j=i:=by
    have h1:((rs.map (·.1)).map (·.name))[i]?=aA r.1.name:=by rw[aa4,aa4,hri];rfl
    have h2:((rs.map (·.1)).map (·.name))[j]?=aA r.1.name:=by rw[aa4,aa4,hrj,←e];rfl
    obtain ⟨a1,b1⟩:=List.getElem?_eq_some_iff.mp h1;obtain ⟨a2,b2⟩:=List.getElem?_eq_some_iff.mp h2;exact (ad5 hnd).mp (b2.trans b1.symm)
   subst ij;obtain rfl:aj'=ai:=aa7 (haj'.symm.trans hai);rcases hP with ⟨_,rfl⟩ | ⟨z,_⟩
   ·exact hK' _ _ `aM (.inr ⟨by omega,rfl⟩)
   ·omega
  ·refine hG _ `aM ?_;rcases hP with ⟨h1,h2⟩ | ⟨h1,h2⟩
   ·have:j≠i:=λz=>e (by subst z;rw[hri] at hrj;rw[←aa7 hrj]);exact .inl ⟨by omega,h2⟩
   ·exact .inr ⟨by omega,h2⟩
 ·rw[aa0] at hP;rcases hP with ⟨h1,_⟩ | ⟨_,rfl⟩
  ·omega
  ·exact az hD2 rfl (q ai H3 hS' (hRi.tk (TK.of hS')))
noncomputable abbrev pj:Stmt:=top 44
theorem J5:av ["script","limit","book","words","ranks","some","kind"] ["script","limit"] (af pj):=⟨rfl,rfl,rfl,by decide+kernel,rfl,by decide+kernel,by decide+kernel⟩
theorem Oo (G:Gs w K mg κ) (h_law_book:Has P w K mg base k "_law_book" ["script"] (xh K)) (h_law_cover:Has P w K mg base k "_law_cover" ["script","at","book","words","ranks","kind"] (si K)) (h_law_draw:Has P w K mg base k "_law_draw" ["script","k"] (lp K)) (h_law_ranks:Has P w K mg base k "_law_ranks" ["book","words"] sx) (h_law_term:Has P w K mg base k "_law_term" ["script","at","limit"] (wz K)) (D:Def K mg "_law_case" pj ["script","limit"]):Has P w K mg base (k+1) "_law_case" ["script","limit"] (wo K):=by
 refine D.has J5 (λvs H Q E h=>?_) (λf cdv A outer s H vs Q E hr h=>?_)
 ·obtain ⟨_,_,_,rfl,_,_,_,_,_⟩:=h;rfl
 have nd:=J5.nd;have hu:=br hr;have hu0:=aae hu;obtain ⟨a,ns,m,rfl,hA,hl,hm1,hm2,q⟩:=h;have m_len:=G.m_len;refine ⟨_,(A5 (A9 2 nd (AD h_law_book hr (A1 (A0 0) (A2 0)))) (A5 (A9 3 nd (AD h_law_term hr (A1 (A0 0) (A1 (A3 0) (A1 (A4 (AM 0) (A3 0) (A4 (AG 0) `s (A0 1))) (A2 0)))))) (A5 (BT 4 nd (AD h_law_ranks hr (A1 (A0 2) `aP))) (A5 (BU 5 nd (B8 ["kind"] ["ranks"] [4] `aA `n) (B7 (A6 (AA 0) (A0 2) (A3 0))) (λ_ _ _=>(B9 0 (show abj (["kind","ranks"]:List Str) by decide+kernel))) (λ_ _ _=>(BS (BX (@Iu _ _ _ _ _ hu (A8 (A1 (A3 0) (A1 (A0 0) (A2 0)))) (AH 1)) (by first | exact gk _ (by decide) (by decide) | rfl)))) (λ_ _ _=>(A0 0))) (A5 (AK (AI (AR 0) (AJ (AS 0) m_len cm (A1 (A0 5) (A2 0))) (A3 0) (AF 0)) (A7 (AE (A8 (A1 (A0 2) (A1 (A0 3) (A1 (@He _ _ _) (A1 (A8 (A2 0)) (A2 0)))))))) (AL 0)) (A5 (A9 6 nd (A6 (AO 0) (A0 5) (A4 (AG 0) `s (AJ (AS 0) m_len cm (A1 (A0 5) (A2 0)))))) (A7 (AE (A8 (A1 (A0 2) (A1 (A0 3) (A1 (A0 6) (A1 (AD h_law_cover hr (A1 (A0 0) (A1 (A3 0) (A1 (A0 2) (A1 (A0 3) (A1 (AH 4) `a9)))))) (A2 0)))))))))))))),?_⟩;rw[show start ["script","limit","book","words","ranks","some","kind"] [.ref a,.int (m:Int)]=[aA `r,aA (.int (m:Int)),none,none,none,none,none] from rfl];clear hu hu0 nd hr;push_cast [and_true];have sz:=aQ;refine Si hA hl λbt kinds rs H1 s1 hB bd=>cz (k:=90) (s1.seq hA) hl (by omega) ⟨by omega,?_⟩;obtain ⟨m1,hm3,em1⟩:=zx (drw ns 90) (n:=m) (by omega);rw[em1,show (2:Int)+(m1:Int)=((2+m1:Nat):Int) by omega];refine T2 (p:=200) (s1.seq hA) hl (by omega) (by omega) (by omega) λwt H2 ws s2 hW tw wlen hwd=>?_;refine Mz (hB.tk (TK.of s2)) hW bd.bk bd.k3 tw λd H3 g ks s3 hd T3 R3=>?_;have S2:=s1.trans s2;have S3:=S2.trans s3;have B3:=hB.tk (TK.of (s2.trans s3));have W3:=s3 _ _ hW;have k3:=bd.k3;obtain ⟨kt,rt,ra,hb,hkt,hrt,hRA⟩:=id B3;refine ag hb rfl ⟨kt,rfl,⟨_,SqT.of hkt⟩,λl hl3=>?_⟩;refine km (xs:=kinds.map V.str) (λi ys=>∃zs:List Str,ys=zs.map V.str∧∀z∈zs,z∈kinds∧(g (0,z)).isSome=true) (SqT.of hkt) (by rw[aa0];omega) hl3 ⟨[],rfl,λ_ h=>nomatch h⟩ (λi x ys H4 G' K' hx hP hl2 hS' hG hK'=>?_) λys H4 hP hl2 hS' hD2=>?_
 ·rw[aa4] at hx;obtain ⟨z,hz,rfl⟩:=Option.map_eq_some_iff.mp hx;obtain ⟨zs,rfl,hzs⟩:=hP;push_cast [and_true];refine ⟨by show (2:Nat)≤sizeLine;decide,λp1 hp1=>⟨_,(T3.same (hS'.trans (ae hp1 _))).tb.get (k:=(0,z)) aa,?_⟩⟩;rw[acn];refine de (λc=>?_) λc=>hG _ (ae hp1 _) ⟨zs,rfl,hzs⟩;exact hK' _ _ (ae hp1 _) ⟨zs++[z],by rw[aaa];rfl,λy hy=>by
   rcases List.mem_append.mp hy with h | h
   ·exact hzs y h
   ·rw[List.mem_singleton.mp h];exact ⟨aai hz,c⟩⟩
 ·obtain ⟨zs,rfl,hzs⟩:=hP;have S4:=S3.trans hS';have B4:=B3.tk (TK.of hS');have W4:=hS' _ _ W3;refine ⟨_,.inl (SqL.of hD2),rfl,de (λc=>?_) λc=>?_⟩
  ·refine ⟨aag _,λct hct=>⟨by show (4:Nat)≤sizeLine;decide,λt ht=>?_⟩⟩;have sA:=(ae hct (.tup [])).trans (ae ht (.tup [V.ref bt,V.ref wt,V.non,V.ref ct]));exact q t bt wt .non ct kinds rs ws _ (S4.trans sA) ⟨aa,B4.tk (TK.of sA),bd,sA _ _ W4,tw,by omega,hwd,.inl rfl⟩
  ·rw[aa0] at c;refine cz (k:=91) (S4.seq hA) hl (by omega) ⟨_,.inl (SqL.of hD2),?_⟩;rw[aa0];obtain ⟨i1,hi1,ei1⟩:=zx (drw ns 91) (n:=zs.length) (by omega);obtain ⟨hk1,hk2⟩:=hzs _ (aaf hi1);refine ⟨by omega,az (v:=.str zs[i1]) hD2 (by rw[ei1];exact ay (by rw[aa4,aa1 hi1];rfl)) ?_⟩;generalize zs[i1]=kd at hk1 hk2;refine O6 (n0:=300) (S4.seq hA) hl (by omega) B4 W4 bd.bk k3 tw (T3.same hS') R3 hk2 λct H5 cs s5 hc hcv hcl=>⟨by show (4:Nat)≤sizeLine;decide,λt ht=>?_⟩;have sA:=ae ht (.tup [V.ref bt,V.ref wt,V.str kd,V.ref ct]);exact q t bt wt (.str kd) ct kinds rs ws _ ((S4.trans s5).trans sA) ⟨aa,B4.tk (TK.of (s5.trans sA)),bd,(s5.trans sA) _ _ W4,tw,by omega,hwd,.inr ⟨kd,cs,rfl,hk1,hcv,sA _ _ hc,hcl⟩⟩
noncomputable abbrev G5:Stmt:=top 5
theorem scHow:av ["word"] ["word"] (af G5):=⟨rfl,rfl,rfl,by decide+kernel,rfl,by decide+kernel,by decide+kernel⟩
theorem hasHow (G:Gs w K mg κ) (D:Def K mg "how_many_below" G5 ["word"]):Has P w K mg base (k+1) "how_many_below" ["word"] xk:=by
 refine D.has scHow (λvs H Q E h=>?_) (λf cdv A outer s H vs Q E hr h=>?_)
 ·obtain ⟨_,rfl,_,_⟩:=h;rfl
 have nd:=scHow.nd;have hu:=br hr;have hu0:=aae hu;obtain ⟨v,rfl,hw,q⟩:=h;obtain ⟨a_PARTS_BELOW,m_PARTS_BELOW,s_PARTS_BELOW⟩:=G.m_PARTS_BELOW;refine ⟨_,(A7 (AE (@Mu _ _ _ _ _ _ _ _ _ _ (@Ke _ _ _ _ m_PARTS_BELOW rfl `c) s_PARTS_BELOW (A0 0) (A3 0) (@M2.mk _ _ _ _ _ _ _ rfl rfl rfl rfl)))),?_⟩;rw[show start ["word"] [v]=[aA (v)] from rfl];clear hu hu0 nd hr;push_cast [O1];obtain ⟨k,rfl⟩:=hw;refine ⟨k,rfl,?_⟩;show Q ((dk parts k).getD (V.int 0)) H
 rw[Ml];exact q
noncomputable abbrev kj:Stmt:=top 6
theorem Eb:av ["words","place","lacking","at"] ["words","place"] (af kj):=⟨rfl,rfl,rfl,by decide+kernel,rfl,by decide+kernel,by decide+kernel⟩
theorem Mf (G:Gs w K mg κ) (h_how_many_below:Has P w K mg base k "how_many_below" ["word"] xk) (D:Def K mg "place_behind" kj ["words","place"]):Has P w K mg base (k+1) "place_behind" ["words","place"] (y9 K):=by
 refine D.has Eb (λvs H Q E h=>?_) (λf cdv A outer s H vs Q E hr h=>?_)
 ·obtain ⟨_,_,_,_,rfl,_,_,_,_,_⟩:=h;rfl
 have nd:=Eb.nd;have hu:=br hr;have hu0:=aae hu;obtain ⟨t,ws,p,n,rfl,hT,hw,hl,he,q⟩:=h;refine ⟨_,(A5 (A9 2 nd (A3 0)) (A5 (A9 3 nd (A0 1)) (A5 (C2 (AI (@jh _) (A0 2) (A3 0) (AF 0)) (A5 (A9 2 nd (A4 (AM 0) (A4 (BH 0) (A0 2) (A3 0)) (AD h_how_many_below hr (A1 (A6 (AA 0) (A0 0) (A0 3)) (A2 0))))) (A7 (A9 3 nd (A4 (AM 0) (A0 3) (A3 0)))))) (A7 (AE (A0 3)))))),?_⟩;rw[show start ["words","place","lacking","at"] [.ref t,.int (p:Int)]=[aA `N,aA `aa,none,none] from rfl];clear hu hu0 nd hr;push_cast [xk];have hn:=qf _ _ _ he;rw[aa0,aav] at hn;refine m9 (λσ H'=>∃(d j:Nat),σ=[aA `N,aA `aa,aA (.int (d:Int)),aA (.int ((p+j:Nat):Int))]∧H'=H∧j≤n∧eat d ((ws.drop (p+j)).map arV)=aA (n - j))
  (λσ _=>p+n - intAt σ 3) ⟨1,0,rfl,rfl,aag _,he⟩ ?_ ?_
 ·rintro σ H' ⟨d,j,rfl,rfl,hj,hd⟩;push_cast [xk];refine de (λc=>?_) λc=>?_
  ·obtain ⟨d',rfl⟩:∃d',d=d'+1:=⟨d - 1,by omega⟩;have hpos:=xf _ _ _ hd;have hlt:p+j < ws.length:=by omega
   have ed:ws.drop (p+j)=ws[p+j]::ws.drop (p+j+1):=aay hlt;rw[ed,aaq,fq] at hd;obtain ⟨m,hm,em⟩:=Option.map_eq_some_iff.mp hd;refine ⟨t,ws,((p+j:Nat):Int),ws[p+j],rfl,rfl,hT,ay (aa1 hlt),hw _ (aaf hlt),⟨d'+arV ws[p+j],by omega,j+1,by omega,rfl,by omega,?_⟩,?_⟩
   ·rw[show n - (j+1)=m by omega];exact hm
   ·show p+n - (((p+j:Nat):Int)+1).toNat < p+n - (((p+j:Nat):Int)).toNat
    omega
  ·have d0:d=0:=by omega
   subst d0;rw[i4] at hd;have:n - j=0:=(aa7 hd).symm;have e:((p+j:Nat):Int)=(p:Int)+(n:Int):=by omega
   rw[e];exact q H' `aM
 ·intro σ H' Q1 Q2 hq h;simp only[Ei,tOp,rI0,n8,tC,qu,iu,tB] at h ⊢;obtain ⟨v,hv,i,j,e1,e2,k,e3,h⟩:=h;exact ⟨v,hv,i,j,e1,e2,k,e3,hq _ _ h⟩
noncomputable abbrev yq:Stmt:=top 8
theorem Qw:av ["word","kinds"] ["word","kinds"] (af yq):=⟨rfl,rfl,rfl,by decide+kernel,rfl,by decide+kernel,by decide+kernel⟩
theorem Td (G:Gs w K mg κ) (D:Def K mg "leaf_letter" yq ["word","kinds"]):Has P w K mg base (k+1) "leaf_letter" ["word","kinds"] (kz K):=by
 refine D.has Qw (λvs H Q E h=>?_) (λf cdv A outer s H vs Q E hr h=>?_)
 ·obtain ⟨_,_,_,rfl,_,_,_⟩:=h;rfl
 have nd:=Qw.nd;have hu:=br hr;have hu0:=aae hu;obtain ⟨v,kt,kinds,rfl,hv,hK,q⟩:=h;refine ⟨_,(A5 (AK (AI (AR 0) (A0 0) (AC 0) (AF 0)) (A7 (AE (AC 0))) (AL 0)) (A5 (AK (AI (AR 0) (A0 0) (AC 0) (AF 0)) (A7 (AE (AC 0))) (AL 0)) (A7 (AE (CB (BV (@jn _) (A0 0) (A0 1)) (AC 0) (AC 0)))))),?_⟩;rw[show start ["word","kinds"] [v,.ref kt]=[aA (v),aA (.ref kt)] from rfl];clear hu hu0 nd hr;push_cast [rIn];have fl:(kinds.map V.str).all jr=true:=List.all_eq_true.mpr λx hx=>by obtain ⟨z,_,rfl⟩:=List.mem_map.mp hx;rfl
 unfold bh gz gf lN lV lH lO at q;refine ⟨hv.sc _,de (λe=>?_) λn1=>⟨hv.sc _,de (λe=>?_) λn2=>⟨_,.inr hK,hv.flat,fl,de (λe=>?_) λe=>?_⟩⟩⟩
 ·rw[if_pos e] at q;exact q
 ·rw[if_neg n1,if_pos e] at q;exact q
 ·rw[if_neg n1,if_neg n2,if_pos e] at q;exact q
 ·rw[if_neg n1,if_neg n2,if_neg e] at q;exact q
noncomputable abbrev zj:Stmt:=top 11
theorem O9:av ["letter","shape_word","word"] ["letter","shape_word","word"] (af zj):=⟨rfl,rfl,rfl,by decide+kernel,rfl,by decide+kernel,by decide+kernel⟩
theorem R1 (G:Gs w K mg κ) (h_how_many_below:Has P w K mg base k "how_many_below" ["word"] xk) (D:Def K mg "lies_upon" zj ["letter","shape_word","word"]):Has P w K mg base (k+1) "lies_upon" ["letter","shape_word","word"] Cm:=by
 refine D.has O9 (λvs H Q E h=>?_) (λf cdv A outer s H vs Q E hr h=>?_)
 ·obtain ⟨_,_,_,rfl,_,_,_⟩:=h;rfl
 have nd:=O9.nd;have hu:=br hr;have hu0:=aae hu;obtain ⟨l,v,x,rfl,hv,hx,q⟩:=h;have m_isinstance:=G.m_isinstance;have m_str:=G.m_str;refine ⟨_,(A5 (AK (AI (AR 0) (A0 0) (AC 0) (AF 0)) (A7 (AE (BY 0))) (AL 0)) (A5 (AK (AI (AR 0) (A0 0) (AC 0) (AF 0)) (A7 (AE (@Pk _ _ _ _ (AJ (BE 0) m_isinstance bu (A1 (A0 2) (A1 (BF m_str An) (A2 0))))))) (AL 0)) (A5 (AK (AI (AR 0) (A0 0) (AC 0) (AF 0)) (A7 (AE (@Hl _ _ _ _ _ _ _ (AJ (BE 0) m_isinstance bu (A1 (A0 2) (A1 (BF m_str An) (A2 0)))) (@Pm _ _ _ _ _ (C3 (AR 0) (AD h_how_many_below hr (A1 (A0 2) (A2 0))) (A3 0) (AF 0)))))) (AL 0)) (A7 (AE (C3 (AR 0) (A0 1) (A0 2) (AF 0))))))),?_⟩;rw[show start ["letter","shape_word","word"] [.str l,v,x]=[aA (.str l),aA (v),aA (x)] from rfl];clear hu hu0 nd hr;push_cast [xk];unfold lies lH lN lV at q;refine ⟨rfl,de (λe=>?_) λn1=>⟨rfl,de (λe=>?_) λn2=>⟨rfl,de (λe=>?_) λn3=>⟨hv.sc2 hx,?_⟩⟩⟩⟩
 ·rw[if_pos e] at q;exact q
 ·rw[if_neg n1,if_pos e] at q;obtain ⟨k',rfl⟩:=hx;cases k' with
  | inl i=>exact ⟨_,.int i,false,rfl,q⟩
  | inr z=>exact ⟨_,.str z,true,rfl,q⟩
 ·rw[if_neg n1,if_neg n2,if_pos e] at q;have hx':=hx;obtain ⟨k',rfl⟩:=hx;cases k' with
  | inl i=>exact ⟨_,.int i,false,rfl,rg q⟩
  | inr z=>
   refine ⟨_,.str z,true,rfl,Fu ⟨hx',rfl,?_⟩⟩;rw[show decide (((arV (kV (aP z)):Nat):Int)=0)=decide (arV (kV (aP z))=0) from decide_eq_decide.mpr (by omega)];exact q
 ·rw[if_neg n1,if_neg n2,if_neg n3] at q;exact q
noncomputable abbrev ya:Stmt:=top 12
theorem O5:av ["shape","kinds","words","place","under","at","shape_word","letter"] ["shape","kinds","words","place"] (af ya):=⟨rfl,rfl,rfl,by decide+kernel,rfl,by decide+kernel,by decide+kernel⟩
theorem Sm (G:Gs w K mg κ) (h_leaf_letter:Has P w K mg base k "leaf_letter" ["word","kinds"] (kz K)) (h_lies_upon:Has P w K mg base k "lies_upon" ["letter","shape_word","word"] Cm) (h_place_behind:Has P w K mg base k "place_behind" ["words","place"] (y9 K)) (D:Def K mg "laid" ya ["shape","kinds","words","place"]):Has P w K mg base (k+1) "laid" ["shape","kinds","words","place"] (Cp K):=by
 refine D.has O5 (λvs H Q E h=>?_) (λf cdv A outer s H vs Q E hr h=>?_)
 ·obtain ⟨_,_,_,_,_,_,_,_,rfl,_,_,_,_,_,_,_,_,_,_,_⟩:=h;rfl
 have nd:=O5.nd;have hu:=br hr;have hu0:=aae hu;obtain ⟨st,kt,wt,sh,kinds,ws,p,n,rfl,hS,hK,hW,hk,hs,hw,hTm,he,hl1,hl2,q⟩:=h;have m_tuple:=G.m_tuple;refine ⟨_,(A5 (A9 4 nd (@Ko _ _ _ _ _ (C6 (AC 0) (AQ (A2 0)) (C6 (AC 0) (AQ (A2 0)) (C6 (AC 0) (AQ (A2 0)) (@Jz _ _)))) rfl rfl (λe=>nomatch e) `a)) (A5 (A9 5 nd (A0 3)) (A5 (AZ (B7 (A0 0)) (AN 6 nd (by first | exact ab5 rfl | exact ab3 rfl)) (A5 (A9 7 nd (AD h_leaf_letter hr (A1 (A0 6) (A1 (A0 1) (A2 0))))) (A5 (AK (BW (BC (AD h_lies_upon hr (A1 (A0 7) (A1 (A0 6) (A1 (A6 (AA 0) (A0 2) (A0 5)) (A2 0))))))) (A7 (AE (@He _ _ _))) (AL 0)) (BG (AK (AI (@Jb _) (A0 7) (AC 0) (AF 0)) (A7 (AU (AV aM aS aT (AY 0) (BD hu (A0 4) (A0 7)) (A1 (CB (AI (AR 0) (A0 7) (AC 0) (AF 0)) (A0 5) (A6 (AA 0) (A0 2) (A0 5))) (A2 0))))) (AL 0)) (A7 (A9 5 nd (CB (AI (AR 0) (A0 7) (AC 0) (AF 0)) (AD h_place_behind hr (A1 (A0 2) (A1 (A0 5) (A2 0)))) (A4 (AM 0) (A0 5) (A3 0))))))))) (A7 (AE (A8 (A1 (B0 (BB 0) m_tuple dq (A1 (BD hu (A0 4) (AC 0)) (A2 0))) (A1 (B0 (BB 0) m_tuple dq (A1 (BD hu (A0 4) (AC 0)) (A2 0))) (A1 (B0 (BB 0) m_tuple dq (A1 (BD hu (A0 4) (AC 0)) (A2 0))) (A2 0)))))))))),?_⟩;rw[show start ["shape","kinds","words","place","under","at","shape_word","letter"] [.ref st,.ref kt,.ref wt,.int (p:Int)]=[aA (.ref st),aA (.ref kt),aA (.ref wt),aA (.int (p:Int)),none,none,none,none] from rfl];clear hu hu0 nd hr;push_cast [Nx,ze];have sz:=aQ;refine λu0 h0=>⟨aag _,λl1 h1=>⟨aag _,λl2 h2=>⟨aag _,λl3 h3=>⟨ae h3 _ _ _ (ae h2 _ _ _ (ae h1 _ _ _ aa)),[(aP lH,.ref l1),(aP lN,.ref l2),(aP lV,.ref l3)],rfl,by show (3:Nat)≤15;decide,?_⟩⟩⟩⟩;rw[show ji [] [(aP lH,V.ref l1),(aP lN,V.ref l2),(aP lV,V.ref l3)]=[(aP lH,V.ref l1),(aP lN,V.ref l2),(aP lV,V.ref l3)] from rfl];have n10:l1≠u0:=(ao aa h1).symm;have n20:l2≠u0:=(ao (ae h1 _ _ _ aa) h2).symm;have n30:l3≠u0:=(ao (ae h2 _ _ _ (ae h1 _ _ _ aa)) h3).symm;have n21:l2≠l1:=(ao aa h2).symm;have n31:l3≠l1:=(ao (ae h2 _ _ _ aa) h3).symm;have n32:l3≠l2:=(ao aa h3).symm;have S1:=ae h0 (.dK []);have f1:=S1.free h1;have S2:=S1.trans (ae h1 `ai);have f2:=S2.free h2;have S3:=S2.trans (ae h2 `ai);have f3:=S3.free h3;have S4:=(S3.trans (ae h3 `ai)).upd h0 (.dK [(aP lH,V.ref l1),(aP lN,V.ref l2),(aP lV,V.ref l3)]);have U4:UAt (upd (upd (upd (upd (upd H u0 (.dK [])) l1 `ai) l2 `ai) l3 `ai) u0 (.dK [(aP lH,V.ref l1),(aP lN,V.ref l2),(aP lV,V.ref l3)])) u0 l1 l2 l3 ⟨[],[],[]⟩:=
  ⟨aa,by rw[ak n10,ak n31.symm,ak n21.symm,aa];rfl,by rw[ak n20,ak n32.symm,aa],by rw[ak n30,aa]⟩
 generalize upd (upd (upd (upd (upd H u0 (.dK [])) l1 `ai) l2 `ai) l3 `ai) u0 (.dK [(aP lH,V.ref l1),(aP lN,V.ref l2),(aP lV,V.ref l3)])=H4 at S4 U4 ⊢;obtain ⟨P1,eP1⟩:∃P1:Nat→L2.St→Hp→Prop,∀i σ H',P1 i σ H'↔∃(q':Nat) (u:Und) (v6 v7:Option V),σ=[aA (.ref st),aA (.ref kt),aA `aV,aA `aa,aA (.ref u0),aA (.int (q':Int)),v6,v7]∧ah H H'∧UAt H' u0 l1 l2 l3 u∧bq kinds ws (sh.drop i) q' u=bq kinds ws sh p ⟨[],[],[]⟩∧(u.hs.length≤i∧u.ns.length≤i∧u.vs.length≤i)∧vy u∧∃d m,pend d ((sh.drop i).map arV)=aA 0∧eat d ((ws.drop q').map arV)=aA m:=⟨_,λ_ _ _=>abu⟩;refine ⟨⟨sh,S4.tup hS⟩,gg (xs:=sh) P1 ((eP1 _ _ _).mpr ⟨p,⟨[],[],[]⟩,none,none,rfl,S4,U4,rfl,⟨aag _,aag _,aag _⟩,⟨(λ_ h=>nomatch h),(λ_ h=>nomatch h)⟩,1,n,hTm,he⟩) (λi σ H' _ h=>by obtain ⟨_,_,_,_,_,s,_⟩:=(eP1 _ _ _).mp h;exact s.tup hS) ?_ ?_⟩
 ·intro i v σ H5 hvi hh;refine ob4 ((eP1 _ _ _).mp hh) λq' u v6 v7 hh=>?_;have s5:=hh.2.1;have U5:=hh.2.2.1;have e5:=hh.2.2.2.1;have hul:=hh.2.2.2.2.1;have huw:=hh.2.2.2.2.2.1;have hdm:=hh.2.2.2.2.2.2;obtain rfl:=hh.1;clear hh;obtain ⟨d,m,hp5,he5⟩:=hdm;have fin:∀(q2:Nat) (z:Int) (u2:Und) (w6 w7:Option V) (H':Hp),z=(q2:Int)→ah H H'→UAt H' u0 l1 l2 l3 u2→bq kinds ws (sh.drop (i+1)) q2 u2=bq kinds ws sh p ⟨[],[],[]⟩→(u2.hs.length≤i+1∧u2.ns.length≤i+1∧u2.vs.length≤i+1)→vy u2→(∃d m,pend d ((sh.drop (i+1)).map arV)=aA 0∧eat d ((ws.drop q2).map arV)=aA m)→P1 (i+1) [aA (.ref st),aA (.ref kt),aA `aV,aA `aa,aA (.ref u0),aA (.int z),w6,w7] H':=λq2 z u2 w6 w7 H' ez a1 a2 a3 a4 a5 a6=>(eP1 _ _ _).mpr ⟨q2,u2,w6,w7,by rw[ez],a1,a2,a3,a4,a5,a6⟩;have hil:i < sh.length:=(List.getElem?_eq_some_iff.mp hvi).1;have ed:sh.drop i=v::sh.drop (i+1):=by
   rw[aay hil];congr 1
   rw[aa1 hil] at hvi;exact aa7 hvi
  rw[ed] at e5 hp5;obtain ⟨d',rfl⟩:∃d',d=d'+1:=by
   cases d with
   | zero=>cases hp5
   | succ d'=>exact ⟨d',rfl⟩
  have hq:q' < ws.length:=by
   have a1:=xf _ _ _ he5;have a2:=qf _ _ _ he5;rw[aa0,aav] at a2;omega
  have hx:ws[q']?=aA ws[q']:=aa1 hq;have hxw:=hw _ (aaf hq);have hat:atI ws (q':Int)=aA ws[q']:=ay hx;have hvw:=hs v (aai hvi);have hgd:ws.getD q' .non=ws[q']:=by rw[aaj,hx];rfl
  rw[dr,hgd] at e5;generalize ws[q']=x at hx hxw hat hgd e5;push_cast [and_true];refine Sy hvw (s5.tup hK) ?_;push_cast [and_true];refine ⟨wt,ws,(q':Int),x,rfl,rfl,s5.tup hW,hat,mkLies hvw hxw ?_⟩;push_cast [and_true];cases hli:lies `y v x with
  | false=>
   rw[hli,if_neg `a] at e5;rw[if_pos (show (!false)=true from rfl)];have z:=q H5 s5;rw[←e5] at z;exact z
  | true=>
   rw[hli,if_pos rfl] at e5;rw[if_neg (show ¬(!true)=true by decide)];obtain ⟨d2,m2,hp6,he6⟩:=gx hk hvw hx hxw hp5 he5 hli;have hul':=u.ue `y q' x hul;have huw':=huw.put hxw `y q';obtain ⟨b1,b2,b3,b4,b5,b6⟩:=lets;refine g6 (λσ' H6=>σ'=[aA (.ref st),aA (.ref kt),aA `aV,aA `aa,aA (.ref u0),aA (.int (q':Int)),aA v,aA (.str `y)]∧ah H H6∧UAt H6 u0 l1 l2 l3 (u.put `y q' x)) ?_ ?_
   ·push_cast [and_true];refine ⟨rfl,?_⟩;rcases df (kinds:=kinds) hvw with ⟨_,h⟩ | ⟨_,h⟩ | ⟨_,h⟩ | ⟨h,_⟩
    ·rw[h,if_pos `c];refine ⟨_,U5.get2,bf U5.2.2.1,rfl,?_⟩;rw[if_neg (show ¬lN=aB "h" from b1)];exact ⟨wt,ws,_,x,rfl,rfl,s5.tup hW,hat,(b8 (K:=K) U5.2.2.1 (by omega) ⟨s5.upd f2 _,U5.put2 n20 n21 n32 q' x⟩).2⟩
    ·rw[h,if_pos `c];refine ⟨_,U5.get3,bf U5.2.2.2,rfl,?_⟩;rw[if_neg (show ¬lV=aB "h" from b2)];exact ⟨wt,ws,_,x,rfl,rfl,s5.tup hW,hat,(b8 (K:=K) U5.2.2.2 (by omega) ⟨s5.upd f3 _,U5.put3 n30 n31 n32 q' x⟩).2⟩
    ·rw[h,if_pos `c];refine ⟨_,U5.get1,bf U5.2.1,rfl,?_⟩;rw[if_pos (show lH=aB "h" from rfl)];exact (b8 (K:=K) U5.2.1 (by rw[aa0];omega) ⟨s5.upd f1 _,U5.put1 n10 n21 n31 q' x⟩).2
    ·rw[h,if_neg `c,u.put0];exact ⟨s5,U5⟩
   ·rintro _ H6 ⟨rfl,s6,U6⟩;push_cast [and_true];refine ⟨rfl,de (λhH=>?_) λhH=>?_⟩
    ·have hH:bh kinds v=lH:=hH;rw[if_pos hH] at e5 he6;obtain ⟨n1,hn1⟩:=Jq he5;have en:endAt ws q'=q'+n1:=by unfold endAt;rw[hn1];rfl
     rw[en] at e5 he6;exact ⟨wt,ws,q',n1,rfl,s6.tup hW,hw,by omega,hn1,λH7 s7=>fin (q'+n1) _ _ _ _ _ (by omega) (s6.trans s7) (U6.same s7) e5 hul' huw' ⟨d2,m2,hp6,he6⟩⟩
    ·have hH:¬bh kinds v=lH:=hH;rw[if_neg hH] at e5 he6;exact fin (q'+1) _ _ _ _ _ (by omega) s6 U6 e5 hul' huw' ⟨d2,m2,hp6,he6⟩
 ·intro σ H5 hh;refine ob4 ((eP1 _ _ _).mp hh) λq' u v6 v7 hh=>?_;have s5:=hh.2.1;have U5:=hh.2.2.1;have e5:=hh.2.2.2.1;have hul:=hh.2.2.2.2.1;have huw:=hh.2.2.2.2.2.1;have hdm:=hh.2.2.2.2.2.2;obtain rfl:=hh.1;clear hh;obtain ⟨d,m,hp5,he5⟩:=hdm;rw[ady] at e5;have z:=q H5 s5;rw[←e5] at z;push_cast [and_true];refine ⟨_,U5.get1,_,.inl ⟨SqL.of U5.2.1,λt1 ht1=>?_⟩⟩;have U6:=U5.same (ae ht1 (.tup (u.hs.map plV)));refine ⟨_,U6.get2,_,.inl ⟨SqL.of U6.2.2.1,λt2 ht2=>?_⟩⟩;have U7:=U6.same (ae ht2 (.tup u.ns));refine ⟨_,U7.get3,_,.inl ⟨SqL.of U7.2.2.2,λt3 ht3=>⟨by show (3:Nat)≤sizeLine;decide,λt ht=>?_⟩⟩⟩;exact z t _ ((ae ht1 _).trans ((ae ht2 _).trans ((ae ht3 _).trans (ae ht _)))) ⟨t1,t2,t3,aa,ae ht _ _ _ (ae ht3 _ _ _ (ae ht2 _ _ _ aa)),ae ht _ _ _ (ae ht3 _ _ _ aa),ae ht _ _ _ aa⟩ ⟨⟨huw.1,by omega⟩,⟨huw.2,by omega⟩,by omega⟩
noncomputable abbrev la:Stmt:=top 13
theorem Fg:av ["shape","kinds","under","hole_kinds"] ["shape","kinds","under"] (af la):=⟨rfl,rfl,rfl,by decide+kernel,rfl,by decide+kernel,by decide+kernel⟩
theorem Mi (G:Gs w K mg κ) (h_leaf_letter:Has P w K mg base k "leaf_letter" ["word","kinds"] (kz K)) (D:Def K mg "holes_under" la ["shape","kinds","under"]):Has P w K mg base (k+1) "holes_under" ["shape","kinds","under"] (rq K):=by
 refine D.has Fg (λvs H Q E h=>?_) (λf cdv A outer s H vs Q E hr h=>?_)
 ·obtain ⟨_,_,_,_,_,_,rfl,_,_,_,_,_,_,_,_⟩:=h;rfl
 have nd:=Fg.nd;have hu:=br hr;have hu0:=aae hu;obtain ⟨st,kt,ut,sh,kinds,u,rfl,hS,hK,hU,hk,hw,hl,hn,q⟩:=h;have m_list:=G.m_list;have m_zip:=G.m_zip;refine ⟨_,(A5 (BU 3 nd (B8 ["word"] ["kinds"] [1] `aA `n) (B7 (A0 0)) (λ_ _ _=>(B9 0 (show abj (["word","kinds"]:List Str) by decide+kernel))) (λ_ _ _=>(BS (AI (AR 0) (AD h_leaf_letter hr (A1 (A0 0) (A1 (AH 1) (A2 0)))) (AC 0) (AF 0)))) (λ_ _ _=>(A0 0))) (A7 (AE (@yn _ _ _ _ _ _ _ _ rfl rfl m_list rfl m_zip (A1 (A6 (AA 0) (A0 2) (A3 0)) `aP) rfl rfl rfl)))),?_⟩;rw[show start ["shape","kinds","under","hole_kinds"] [.ref st,.ref kt,.ref ut]=[aA (.ref st),aA (.ref kt),aA (.ref ut),none] from rfl];clear hu hu0 nd hr;push_cast [kz];have sz:=aQ;refine ⟨⟨sh,hS⟩,λl hl'=>?_⟩;refine km (xs:=sh) (λi ys=>ys=(sh.take i).filter (isH kinds)) hS (by omega) hl' rfl (λi x ys H3 G' K' hx hP hl2 hS' hG hK'=>?_) λys H3 hP hl2 hS' hD2=>?_
 ·have hxw:=hw x (aai hx);have et:sh.take (i+1)=sh.take i++[x]:=by rw[aar,hx];rfl
  push_cast [kz];refine ⟨hxw,kinds,hS'.tup hK,rfl,de (λe=>?_) λe=>?_⟩
  ·refine hK' _ _ `aM ?_;rw[et,abv,←hP,ab2,if_pos ((rj hk hxw).mp e)];rfl
  ·refine hG _ `aM ?_;rw[et,abv,←hP,ab2,if_neg λz=>e ((rj hk hxw).mpr z)];exact (ab1 _).symm
 ·rw[ac4,←jl] at hP;subst hP;obtain ⟨t1,t2,t3,h1,h2,_⟩:=hU;push_cast [tLZ];refine ag (hS' _ _ h1) rfl ⟨t1,rfl,u.hs.map plV,SqT.of (hS' _ _ h2),(aq kinds sh).map V.str,SqL.of hD2,by rw[aa0,aa0,hn],λl2 as H2 s2 hl2 hal hL hA=>q l2 H2 (hS'.trans s2) (hS'.free hl2) ⟨as,hL,?_,λj k hj=>?_⟩⟩
  ·rw[hal,aa0,abr,hn,aec]
  ·obtain ⟨g1,g2⟩:=List.getElem?_zip_eq_some.mp (show (u.hs.zip (aq kinds sh))[j]?=aA (k.1,k.2) from hj);exact hA j _ _ (by rw[aa4,g1];rfl) (by rw[aa4,g2];rfl)
noncomputable abbrev xx:Stmt:=top 16
theorem Qv:av ["book","step","rule"] ["book","step"] (af xx):=⟨rfl,rfl,rfl,by decide+kernel,rfl,by decide+kernel,by decide+kernel⟩
theorem Rj (G:Gs w K mg κ) (h_holes_under:Has P w K mg base k "holes_under" ["shape","kinds","under"] (rq K)) (D:Def K mg "last_hole_first" xx ["book","step"]):Has P w K mg base (k+1) "last_hole_first" ["book","step"] Cs:=by
 refine D.has Qv (λvs H Q E h=>?_) (λf cdv A outer s H vs Q E hr h=>?_)
 ·obtain ⟨_,_,_,_,_,_,rfl,_,_,_,_,_,_⟩:=h;rfl
 have nd:=Qv.nd;have hu:=br hr;have hu0:=aae hu;obtain ⟨b,t,kinds,rs,r,u,rfl,hB,bk,hr0,hS,hn,q⟩:=h;have m_list:=G.m_list;have m_reversed:=G.m_reversed;refine ⟨_,(A5 (A9 2 nd (A6 (AA 0) (A0 1) (A3 0))) (A7 (AE (@yx _ _ _ _ _ _ _ rfl rfl m_list rfl m_reversed (A1 (AD h_holes_under hr (A1 (A6 (AA 0) (A0 2) (A3 0)) (A1 `E (A1 (A6 (AA 0) (A0 1) (A3 0)) (A2 0))))) (A2 0)) rfl rfl)))),?_⟩;rw[show start ["book","step","rule"] [.ref b,.ref t]=[aA `Z,aA `N,none] from rfl];clear hu hu0 nd hr;push_cast [and_true];have sz:=aQ;obtain ⟨kt,rt,ra,hb,hkt,hrt,hRA⟩:=id hB;obtain ⟨ro,ut,t1,hR,hU⟩:=hS;obtain ⟨sa,da,ds,g1,g2,g3⟩:=id hR;obtain ⟨w1,w2,w3⟩:=bk.sh r hr0;refine ag t1 rfl ?_;push_cast [tLR];refine ag g1 rfl (ag hb rfl (ag t1 rfl (Rc (SqT.of g2) (SqT.of hkt) hU bk.kd w1 (by omega) hn λl H1 s1 hl h1=>?_)));obtain ⟨as,e1,e2,e3⟩:=h1;refine ⟨l,rfl,_,SqL.of e1,λp hp=>?_⟩;have s2:=ae hp (.lst (as.map V.ref).reverse);refine q p _ (s1.trans s2) (s1.free hp) ⟨as.reverse,by rw[aa,aeo],by rw[ab8,ab8,e2],λj k hj=>?_⟩;have hjl:=(List.getElem?_eq_some_iff.mp hj).1;rw[ab8] at hjl;rw[adb hjl] at hj;obtain ⟨a,a1,a2⟩:=e3 _ k hj;refine ⟨a,?_,s2 _ _ a2⟩;rw[adb (by rw[e2];exact hjl),e2];exact a1
noncomputable abbrev qy:Stmt:=top 15
theorem Jx:av ["book","name","words","place","kind","rule","under"] ["book","name","words","place","kind"] (af qy):=⟨rfl,rfl,rfl,by decide+kernel,rfl,by decide+kernel,by decide+kernel⟩
theorem N3 (G:Gs w K mg κ) (h_laid:Has P w K mg base k "laid" ["shape","kinds","words","place"] (Cp K)) (D:Def K mg "laid_rule" qy ["book","name","words","place","kind"]):rb P w K mg base (k+1) "laid_rule" ["book","name","words","place","kind"] (t6 κ):=by
 refine D.hasX Jx (λvs H Q E h=>?_) (λf cdv A outer s H vs Q E hr h=>?_)
 ·obtain ⟨_,_,_,_,_,_,_,_,rfl,_,_,_,_,_,_,_,_,_⟩:=h;rfl
 have nd:=Jx.nd;have hu:=br hr;have hu0:=aae hu;obtain ⟨b,wt,kinds,rd,ws,p,nm,kd,rfl,hBD,hW,bk,tw,hp,hnm,hkd,q,e⟩:=h;have m_BadCover:=G.er.m_badCover;refine ⟨_,(A5 (@Ip _ _ _ _ _ _ _ _ (@Gk _ _ Ij) rfl (B7 `E) (AN 5 nd (by first | exact ab5 rfl | exact ab3 rfl)) (A7 (AK (BO (C4 (AI (AR 0) `t (A0 1) (AF 0)) (@wx _ _ _ _ (AI (AR 0) `t (A0 4) (AF 0))))) (A5 (A9 6 nd (AD h_laid hr (A1 `t (A1 `E (A1 (A0 2) `aP))))) (A7 (AK (BX (@Jj _ _ _ _ _ (A0 6)) (by first | exact gk _ `a `a | rfl)) (A7 (AE (A8 (A1 (A0 5) `a9)))) (AL 0)))) (AL 0))) (by intro _;rfl)) (A7 (CC G.er.x_badCover G.i_BadCover hr m_BadCover (A1 (@Sx _ _ _ _ _ _ _ (@pf_r _ _ _ _ _ _ _ (A0 1) (@pf_c _ _ _ _ _ _ _ (@pf_r _ _ _ _ _ _ _ (A0 4) (@pf_c _ _ _ _ _ _ _ (@pf_i _ _ _ _ _ _ _ (A0 3) (@pf_nil _)) `c)) `c)) `a) (A2 0))))),?_⟩;rw[show start ["book","name","words","place","kind","rule","under"] [.ref b,.str nm,.ref wt,.int (p:Int),.str kd]=[aA `Z,aA (.str nm),aA `aV,aA `aa,aA (.str kd),none,none] from rfl];clear hu hu0 nd hr;push_cast [and_true];have sz:=aQ;obtain ⟨rs,hrs⟩:∃rs,rs=rd.map (·.1):=⟨_,rfl⟩;rw[←hrs] at bk q e;have rl:=bk.len;have twl:=tw.len;obtain ⟨kt,rt,ra,hb,hkt,hrt,hRD⟩:=id hBD;have hRA:nz H ra rs:=by rw[hrs];exact hRD.rules
 refine ag hb rfl ⟨rt,rfl,⟨_,SqT.of hrt⟩,?_⟩;obtain ⟨P1,eP1⟩:∃P1:Nat→L2.St→Hp→Prop,∀j σ H',P1 j σ H'↔∃(v5 v6:Option V),σ=[aA `Z,aA (.str nm),aA `aV,aA `aa,aA (.str kd),v5,v6]∧ah H H'∧∀(i:Nat) (x:Rl),i < j→rs[i]?=aA x→x.name=nm→x.kind=kd→bq kinds ws x.shape p ⟨[],[],[]⟩=none:=⟨_,λ_ _ _=>abu⟩;refine gg (xs:=ra.map V.ref) P1 ((eP1 _ _ _).mpr ⟨none,none,rfl,ah.refl _,λi x h=>absurd h (aer _)⟩) (λj σ H' _ h=>by obtain ⟨_,_,_,s,_⟩:=(eP1 _ _ _).mp h;exact SqT.of (s _ _ hrt)) ?_ ?_
 ·intro j y σ H5 hy hh;obtain ⟨v5,v6,rfl,s5,hno⟩:=(eP1 _ _ _).mp hh;rw[aa4] at hy;obtain ⟨aj,haj,rfl⟩:=Option.map_eq_some_iff.mp hy;have hjl:j < rs.length:=by rw[←hRA.1];exact (List.getElem?_eq_some_iff.mp haj).1
  have hrj:rs[j]?=aA rs[j]:=aa1 hjl;obtain ⟨a',ha',hR⟩:=hRA.2 j _ hrj;obtain rfl:a'=aj:=aa7 (ha'.symm.trans haj);generalize rs[j]=x at hrj hR;have more:(x.name=nm→x.kind=kd→bq kinds ws x.shape p ⟨[],[],[]⟩=none)→∀(i:Nat) (y:Rl),i < j+1→rs[i]?=aA y→y.name=nm→y.kind=kd→bq kinds ws y.shape p ⟨[],[],[]⟩=none:=λhx i y hi hyi=>by
   rcases adk i j with z | z
   ·exact hno i y z hyi
   ·obtain rfl:i=j:=by omega
    obtain rfl:x=y:=aa7 (hrj.symm.trans hyi);exact hx
  obtain ⟨sa,da,ds,g1,g2,g3⟩:=id hR;push_cast [and_true];refine ag (s5 _ _ g1) rfl ⟨rfl,?_⟩;by_cases c:x.name=nm
  ·refine ifY (by rw[c]) (ag (s5 _ _ g1) rfl ⟨rfl,?_⟩);by_cases c2:x.kind=kd
   ·obtain ⟨n,hn⟩:=tw.eat hp;obtain ⟨w1,w2,w3⟩:=bk.sh x (aai hrj);refine ifY (by rw[c2]) (ag (s5 _ _ g1) rfl (ag (s5 _ _ hb) rfl (mkLaid (n:=n) (SqT.of (s5 _ _ g2)) (SqT.of (s5 _ _ hkt)) (SqT.of (s5 _ _ hW)) bk.kd w1 (λv hv=>(tw.w v hv).1) w2 hn (by omega) twl λH6 s6=>?_)));cases hu:bq kinds ws x.shape p ⟨[],[],[]⟩ with
    | none=>
     refine Ak ?_;push_cast [Gp];rw[if_neg `b];exact (eP1 _ _ _).mpr ⟨_,_,rfl,s5.trans s6,more λ_ _=>hu⟩
    | some u=>
     intro t H7 s7 hu7 ok7;push_cast [Gp];rw[if_pos `b];refine ⟨by show (2:Nat)≤sizeLine;decide,λpr hpr=>?_⟩;have S7:=(s5.trans s6).trans s7;have s8:=ae hpr (.tup [V.ref a',V.ref t]);refine q (x,u) ?_ pr _ (S7.trans s8) (Qd hRD hrs hrj ha' aa (TK.of (S7.trans s8)) (hu7.same s8));rw[←c,←c2,En bk hrj,hu];rfl
   ·exact ifN (by simpa using c2) ((eP1 _ _ _).mpr ⟨_,_,rfl,s5,more λ_ z=>absurd z c2⟩)
  ·exact ifN (by simpa using c) ((eP1 _ _ _).mpr ⟨_,_,rfl,s5,more λz=>absurd z c⟩)
 ·intro σ H5 hh;obtain ⟨v5,v6,rfl,s5,hno⟩:=(eP1 _ _ _).mp hh;push_cast [wb,tFmts,tFR,tFI,tF0];refine ⟨hnm.1,hnm.2,hkd.1,hkd.2,?_,λm=>⟨by show (1:Nat)≤100;decide,e (Ln λi x hi=>hno i x ?_ hi) H5 s5⟩⟩
  ·show p.log2 < 1920
   exact ac0 (ad9 p) (by omega)
  ·rw[aa0,hRA.1];exact (List.getElem?_eq_some_iff.mp hi).1
noncomputable abbrev j8:Stmt:=top 17
theorem Ee:av ["book","words","place","kind","cover","steps","waiting","name","hole","step"] ["book","words","place","kind","cover"] (af j8):=⟨rfl,rfl,rfl,by decide+kernel,rfl,by decide+kernel,by decide+kernel⟩
theorem L0 (G:Gs w K mg κ) (h_laid_rule:rb P w K mg base k "laid_rule" ["book","name","words","place","kind"] (t6 κ)) (h_last_hole_first:Has P w K mg base k "last_hole_first" ["book","step"] Cs) (D:Def K mg "laid_cover" j8 ["book","words","place","kind","cover"]):rb P w K mg base (k+1) "laid_cover" ["book","words","place","kind","cover"] (oo κ):=by
 refine D.hasX Ee (λvs H Q E h=>?_) (λf cdv A outer s H vs Q E hr h=>?_)
 ·obtain ⟨_,_,_,_,_,_,_,_,_,rfl,_,_,_,_,_,_,_,_,_,_,_,_⟩:=h;rfl
 have nd:=Ee.nd;have hu:=br hr;have hu0:=aae hu;obtain ⟨b,wt,ct,kinds,rd,ws,p,kd,ns,rfl,hBD,hW,hC,bk,tw,hp,hkd,hkz,hnz,hnl,q,e⟩:=h;have m_BadCover:=G.er.m_badCover;have m_len:=G.m_len;refine ⟨_,(A5 (A9 5 nd (AQ (A2 0))) (A5 (A9 6 nd (AQ (A1 (A8 (A1 (A0 2) `aP)) (A2 0)))) (A5 (@Ip _ _ _ _ _ _ _ _ (@Gk _ _ Ij) rfl (B7 (A0 4)) (AN 7 nd (by first | exact ab5 rfl | exact ab3 rfl)) (A5 (AK (AI (AR 0) (AJ (AS 0) m_len cm `a9) (A3 0) (AF 0)) (A7 (CC G.er.x_badCover G.i_BadCover hr m_BadCover (A1 (@Sq _ _ _ _ _ _ _ _ (A0 7) `c) (A2 0)))) (AL 0)) (A5 (A9 8 nd (C8 aM fM fN (@G4 _) (A0 6))) (A5 (A9 9 nd (@Ju _ _ _ _ _ _ _ _ _ _ _ h_laid_rule hr (A1 (A0 0) (A1 (A0 7) (A1 (A0 1) (A1 (A6 (AA 0) (A0 8) (A3 0)) (A1 (A6 (AA 0) (A0 8) (A3 0)) (A2 0)))))) rfl `c rfl rfl)) (A5 (AU (AV aM aS aT (AY 0) (A0 5) (A1 (A0 9) (A2 0)))) (A7 (AU (AV aM gJ gK (@vi _) (A0 6) (A1 (AD h_last_hole_first hr (A1 (A0 0) (A1 (A0 9) (A2 0)))) (A2 0))))))))) (by intro _;rfl)) (A5 (AK (AI (@jh _) (AJ (AS 0) m_len cm `a9) (A3 0) (AF 0)) (A7 (CC G.er.x_badCover G.i_BadCover hr m_BadCover `aD)) (AL 0)) (A7 (AE (A0 5))))))),?_⟩;rw[show start ["book","words","place","kind","cover","steps","waiting","name","hole","step"] [.ref b,.ref wt,.int (p:Int),.str kd,.ref ct]=[aA `Z,aA `aV,aA `aa,aA (.str kd),aA (.ref ct),none,none,none,none,none] from rfl];clear hu hu0 nd hr;push_cast [and_true];have sz:=aQ;obtain ⟨rs,hrs⟩:∃rs,rs=rd.map (·.1):=⟨_,rfl⟩;have hB:qz H b kinds rs:=by rw[hrs];exact hBD.book
 rw[←hrs] at bk q e;refine ⟨aag _,λsl hsl=>⟨by show (2:Nat)≤sizeLine;decide,λp2 hp2=>⟨by show (1:Nat)≤sizeLine;decide,λwl hwl=>?_⟩⟩⟩;have s3:=ae hsl `ai;have s4:=ae hp2 (.tup [V.int (p:Int),V.str kd]);have s5:=ae hwl (.lst [V.ref p2]);have S5:=s3.trans (s4.trans s5);have fwl:=(s3.trans s4).free hwl;have nsw:sl≠wl:=ao (s4 _ _ (aa (H:=H) (a:=sl) (o:=.lst []))) hwl;have c5:=(s4.trans s5) _ _ (aa (H:=H) (a:=sl) (o:=.lst []));have p5:=s5 _ _ (aa (H:=upd H sl `ai) (a:=p2) (o:=.tup [V.int (p:Int),V.str kd]));have w5:upd (upd (upd H sl `ai) p2 (.tup [V.int (p:Int),V.str kd])) wl (.lst [V.ref p2]) wl=aA (.lst [V.ref p2]):=aa;generalize upd (upd (upd H sl `ai) p2 (.tup [V.int (p:Int),V.str kd])) wl (.lst [V.ref p2])=H5 at s5 S5 c5 p5 w5 ⊢;obtain ⟨P1,eP1⟩:∃P1:Nat→L2.St→Hp→Prop,∀j σ H',P1 j σ H'↔∃(as bs:List Addr) (ds:List (Rl×Und)) (st:List Ky) (v7 v8 v9:Option V),σ=[aA `Z,aA `aV,aA `aa,aA (.str kd),aA (.ref ct),aA (.ref sl),aA (.ref wl),v7,v8,v9]∧ah H H'∧H' sl=aA `f∧dg rd H' as ds∧H' wl=aA `aL∧KsL H' bs st.reverse∧KyOk ws st∧st.length≤1+100*j∧ds.length≤j∧cf kinds rs ws ns [(p,kd)]=(cf kinds rs ws (ns.drop j) st).map (ds++·):=⟨_,λ_ _ _=>abu⟩;refine ⟨⟨_,SqT.of (S5 _ _ hC)⟩,gg (xs:=ns.map V.str) P1 ((eP1 _ _ _).mpr ⟨[],[p2],[],[(p,kd)],none,none,none,rfl,S5,c5,dg.nil rd _,w5,KsL.one p5,λk hk=>by rw[List.mem_singleton.mp hk];exact ⟨hp,hkd⟩,by show (1:Nat)≤_;omega,aa3 _,by rw[acq];simp⟩) (λj σ H' _ h=>by obtain ⟨_,_,_,_,_,_,_,_,s,_⟩:=(eP1 _ _ _).mp h;exact SqT.of (s _ _ hC)) ?_ ?_⟩
 ·intro j y σ H6 hy hh;obtain ⟨as,bs,ds,st,v7,v8,v9,rfl,s6,c6,D6,w6,K6,k6,sl6,dl6,cw⟩:=(eP1 _ _ _).mp hh;rw[aa4] at hy;obtain ⟨nm,hnm,rfl⟩:=Option.map_eq_some_iff.mp hy;have hjl:j < ns.length:=(List.getElem?_eq_some_iff.mp hnm).1;have ed:ns.drop j=nm::ns.drop (j+1):=by
   rw[aay hjl];congr 1
   exact (List.getElem?_eq_some_iff.mp hnm).2
  rw[ed] at cw;have nmt:=hnz nm (aai hnm);push_cast [wb,Q9];have bl:=K6.1;rw[ab8] at bl;refine ⟨_,.inl (SqL.of w6),rfl,?_⟩;rw[aa0,bl];cases st with
  | nil=>
   refine ifY rfl ⟨nmt.1,by have:=nmt.2;omega,λm=>⟨by show (1:Nat)≤100;decide,e ?_ H6 s6⟩⟩;rw[cw];rfl
  | cons k st=>
   obtain ⟨bs',a,rfl,K6',hk⟩:=K6.pop;refine ifN (by rw[aa8];omega) ?_;rw[aaa] at w6;refine G9 (xs:=bs'.map V.ref) (y:=.ref a) w6 ?_;have sA:=s6.upd fwl (.lst (bs'.map V.ref));have tkA:TK H6 (upd H6 wl (.lst (bs'.map V.ref))):=TK.put w6 (λ_ z=>nomatch z);have wA:upd H6 wl (.lst (bs'.map V.ref)) wl=aA (.lst (bs'.map V.ref)):=aa;have cA:upd H6 wl (.lst (bs'.map V.ref)) sl=aA `f:=by rw[ak nsw];exact c6
   have hkA:=tkA _ _ hk;have DA:=D6.tk tkA;have KA:=K6'.tk tkA;generalize upd H6 wl (.lst (bs'.map V.ref))=HA at sA tkA wA cA hkA DA KA ⊢;have kk:=k6 k aa6;refine ag hkA rfl (ag hkA rfl (Oc (hBD.tk (TK.of sA)) (sA _ _ hW) (hrs ▸ bk) tw kk.1 nmt kk.2 (λd hd t HB sB hst=>?_) λhd HB sB=>?_))
   ·rw[←hrs] at hd;obtain ⟨kO,ul,hl⟩:=k6.step bk tw hkz hd;have cB:=sB _ _ cA;have wB:=sB _ _ wA;have al:=D6.1;have sC:=(sA.trans sB).upd hsl `S;have tkC:TK HB (upd HB sl `S):=TK.put cB (λ_ z=>nomatch z);have wC:upd HB sl `S wl=aA (.lst (bs'.map V.ref)):=by rw[ak nsw.symm];exact wB
    have cC:upd HB sl `S sl=aA `S:=aa;have stC:=hst.tk tkC;have DC:=((DA.tk (TK.of sB)).tk tkC).snoc stC;have KC:=(KA.tk (TK.of sB)).tk tkC;refine b8 cB (by rw[aa0];omega) ?_;generalize upd HB sl `S=HC at sC tkC wC cC stC DC KC ⊢;refine ⟨bf wC,mkLast (hB.same sC) bk (oa (r:=d.1) (u:=d.2) hd).1 stC.step hl λl2 HD sD hl2 hKs=>?_⟩;obtain ⟨cs,e1,KL⟩:=hKs.l;have csl:=KL.1;have bl':=KA.1;rw[ab8] at csl bl';have ul':(d.2.hs.zip (aq kinds d.1.shape)).length≤100:=ul;rw[aa8] at sl6;have wD:=sD _ _ wC;refine ⟨wl,l2,bs'.map V.ref,cs.map V.ref,rfl,rfl,wD,e1,by rw[aa0,aa0];omega,(eP1 _ _ _).mpr ⟨as++[t],bs'++cs,ds++[d],Ae kinds d++st,_,_,_,rfl,(sC.trans sD).upd fwl _,?_,(DC.tk (TK.of sD)).tk (TK.put wD (λ_ z=>nomatch z)),by rw[aa,aaa],?_,kO,by rw[aa2];omega,by rw[aa2,aa5];omega,?_⟩⟩
    ·rw[ak nsw,aaa];exact sD _ _ cC
    ·rw[acw];exact ((KC.tk (TK.of sD)).app KL).tk (TK.put wD (λ_ z=>nomatch z))
    ·rw[cw,gs hd,Option.map_map];congr 1
     funext x
     simp
   ·rw[←hrs] at hd;refine e ?_ HB (sA.trans sB);rw[cw,g9 hd];rfl
 ·intro σ H6 hh;obtain ⟨as,bs,ds,st,v7,v8,v9,rfl,s6,c6,D6,w6,K6,k6,sl6,dl6,cw⟩:=(eP1 _ _ _).mp hh;push_cast [wb,Q9];have bl:=K6.1;rw[ab8] at bl;refine ⟨_,.inl (SqL.of w6),?_⟩;rw[aa0,bl];rw[aa0,ady] at cw;cases st with
  | nil=>exact ifN `a (q ds (by rw[cw];simp[cf]) sl as H6 s6 c6 D6)
  | cons k st=>exact ifY (by rw[aa8];omega) ⟨by show (1:Nat)≤100;decide,e (by rw[cw];rfl) H6 s6⟩
noncomputable abbrev ki:Stmt:=top 19
theorem E3:av ["rule"] ["rule"] (af ki):=⟨rfl,rfl,rfl,by decide+kernel,rfl,by decide+kernel,by decide+kernel⟩
theorem Lu (G:Gs w K mg κ) (D:Def K mg "boxes_named" ki ["rule"]):Has P w K mg base (k+1) "boxes_named" ["rule"] my:=by
 refine D.has E3 (λvs H Q E h=>?_) (λf cdv A outer s H vs Q E hr h=>?_)
 ·obtain ⟨_,_,rfl,_,_,_,_⟩:=h;rfl
 have nd:=E3.nd;have hu:=br hr;have hu0:=aae hu;obtain ⟨ra,r,rfl,hR,hw,hn,q⟩:=h;obtain ⟨a_BOXES,m_BOXES,s_BOXES⟩:=G.m_BOXES;have m_any:=G.m_any;refine ⟨_,(A7 (AE (@pe_lcK _ _ _ _ _ _ _ _ _ _ _ _ _ _ _ (@i8.mk _ _ "box" ["rule"] [0] _ rfl rfl (λ_ _=>rfl) (λ_=>rfl) rfl `aA rfl rfl `n) rfl (B7 (@Ke _ _ _ _ m_BOXES rfl `c)) (λ_ _ _=>(@Dq _ _ 0 _ (show abj (["box","rule"]:List Str) by decide+kernel) rfl (ab3 rfl) `O)) (λ_ _ _=>(BS (BC (AJ (@x8 _ K rfl rfl) m_any b_any (A1 (BI (B8 ["deed"] ["box"] [0] `aA `n) (@J2 _ K rfl _ _ _ (A6 (@xc _ K rfl) (AH 1) (A3 0))) (λ_ _ _=>(B9 0 (show abj (["deed","box"]:List Str) by decide+kernel))) (λ_ _ _=>(@zy _)) (λ_ _ _=>(@Df _ _ _ _ _ _ _ _ (@qh _ K rfl) (AH 1) (A0 0) (by with_unfolding_all rfl)))) (A2 0)))))) (λ_ _ _=>(AH 0)) (by intro _;rfl)))),?_⟩;rw[show start ["rule"] [.ref ra]=[aA (.ref ra)] from rfl];clear hu hu0 nd hr;push_cast [and_true];have sz:=aQ;obtain ⟨sa,da,hR1,hS,as,hda,hTL⟩:=hR;have hal:=hTL.1;have sB:∀H',SqT K H' a_BOXES (lu.map V.str):=s_BOXES;refine ⟨⟨_,sB H⟩,λD hD=>?_⟩;refine km (xs:=lu.map V.str) (λi ys=>ys=((lu.take i).filter λb=>sq b r.2).map V.str) (sB H) (by show (4:Nat) < sizeLine;decide) hD rfl (λi x ys H3 G' K' hx hP hl2 hS' hG hK'=>?_) λys H3 hP hl2 hS' hD2=>?_
 ·rw[aa4] at hx;obtain ⟨bx,hbx,rfl⟩:=Option.map_eq_some_iff.mp hx;have et:(lu.take (i+1)).filter (λb=>sq b r.2)=(lu.take i).filter (λb=>sq b r.2)++if sq bx r.2=true then [bx] else []:=by
   rw[aar,hbx,abv];congr 1
   show [bx].filter _=_
   rw[ab2];rfl
  push_cast [and_true];refine ag (hS' _ _ hR1) rfl ⟨da,rfl,⟨_,SqT.of (hS' _ _ hda)⟩,λD2 hD2=>?_⟩;refine km (xs:=as.map V.ref) (λj ys=>ys=(r.2.take j).map λx=>V.bl (inV (.str bx) x)) (SqT.of (hS' _ _ hda)) (by rw[aa0,hal];omega) hD2 rfl (λj x ys H4 G2 K2 hx hP2 hl3 hS2 hG2 hK2=>?_) λys H4 hP2 hl3 hS2 hD3=>?_
  ·rw[aa4] at hx;obtain ⟨aj,haj,rfl⟩:=Option.map_eq_some_iff.mp hx;have hj:j < r.2.length:=by rw[←hal];exact (List.getElem?_eq_some_iff.mp haj).1
   have hk:=aa1 hj;obtain ⟨aj',haj',e3⟩:=hTL.2 j _ hk;obtain rfl:aj'=aj:=aa7 (haj'.symm.trans haj);push_cast [rIn];refine ⟨_,.inr (SqT.of ((hS'.trans hS2) _ _ e3)),rfl,List.all_eq_true.mpr λv hv=>(hw _ (aaf hj) v hv).flat,hK2 _ _ `aM ?_⟩;rw[hP2,aar,hk,aaa];rfl
  ·refine ⟨r.2.map λx=>inV (.str bx) x,SqL.of (by rw[hD3,hP2,aa0,hal,aaw (aa3 _),abd];rfl),?_⟩;rw[any_map];refine de (λcc=>?_) λcc=>?_
   ·exact hK' _ _ hS2 (by rw[et,if_pos (show sq bx r.2=true from cc),aaa,←hP];rfl)
   ·exact hG _ hS2 (by rw[et,if_neg (show ¬sq bx r.2=true from cc),ab1];exact hP)
 ·subst hP;exact q D H3 hS' hD hD2
noncomputable abbrev lj:Stmt:=top 20
theorem Fc:av ["steps","holes","waiting","number","hole"] ["steps"] (af lj):=⟨rfl,rfl,rfl,by decide+kernel,rfl,by decide+kernel,by decide+kernel⟩
theorem Mp (G:Gs w K mg κ) (D:Def K mg "steps_below" lj ["steps"]):Has P w K mg base (k+1) "steps_below" ["steps"] sv:=by
 refine D.has Fc (λvs H Q E h=>?_) (λf cdv A outer s H vs Q E hr h=>?_)
 ·obtain ⟨_,_,_,_,rfl,_,_,_,_,_⟩:=h;rfl
 have nd:=Fc.nd;have hu:=br hr;have hu0:=aae hu;obtain ⟨sl,as,rd,ds,rfl,hL,hSt,hi,hl,q⟩:=h;have m_len:=G.m_len;have m_range:=G.m_range;refine ⟨_,(A5 (BU 1 nd (B8 ["step"] [] [] trivial trivial) (BP (A0 0)) (λ_ _ _=>(B9 0 (show abj (["step"]:List Str) by decide+kernel))) (λ_ _ _=>(@zy _)) (λ_ _ _=>(AQ (A2 0)))) (A5 (A9 2 nd (AQ (A2 0))) (A5 (AZ (@As _ _ _ _ _ _ _ _ rfl m_range (A1 (A4 (BH 0) `aH (A3 0)) (A1 (BZ (@uh _) (A3 0)) (A1 (BZ (@uh _) (A3 0)) (A2 0)))) rfl rfl) (AN 3 nd (by first | exact ab5 rfl | exact ab3 rfl)) (A5 (AZ (B7 (A6 (AA 0) (A6 (AA 0) (A6 (AO 0) (A0 0) (A0 3)) (A3 0)) (A3 0))) (AN 4 nd (by first | exact ab5 rfl | exact ab3 rfl)) (A7 (AU (AV aM aS aT (AY 0) (A6 (AO 0) (A0 1) (A0 3)) (A1 (C8 aM fM fN (@G4 _) (A0 2)) (A2 0)))))) (A7 (AU (AV aM aS aT (AY 0) (A0 2) (A1 (A0 3) (A2 0))))))) (A7 (AE (A0 1)))))),?_⟩;rw[show start ["steps","holes","waiting","number","hole"] [.ref sl]=[aA (.ref sl),none,none,none,none] from rfl];clear hu hu0 nd hr;push_cast [and_true];have sz:=aQ;have hal:=hSt.1;push_cast [iDn];refine ⟨⟨_,SqL.of hL⟩,λD hD=>Qj (xs:=as.map V.ref) (λi ys H'=>∃rs:List Addr,ys=rs.map V.ref∧rs.length=i∧rs.Nodup∧(∀r∈rs,r≠D∧H r=none)∧dm H' rs (λ_=>[])) ?_ (SqL.of hL) (by rw[aa0];omega) hD ⟨[],rfl,rfl,ad3,(λ_ h=>nomatch h),λq hq=>absurd hq (aer _)⟩ (λi x ys H1 G' K' hx hP hl2 hS hDl hG hK=>?_) λys H2 hP hl2 hS hD2=>?_⟩
 ·rintro i ys H1 H2 keep ⟨rs,e1,e2,e3,e4,e5⟩;exact ⟨rs,e1,e2,e3,e4,λq hq=>keep _ _ (e4 _ (getD_mem hq)).1 (e5 q hq)⟩
 ·push_cast [and_true];obtain ⟨rs,rfl,e2,e3,e4,e5⟩:=hP;refine ⟨aag _,λr hr=>hK _ _ (ae hr _) ⟨rs++[r],by rw[aaa];rfl,by rw[aa2,e2];rfl,?_,λx hx=>?_,e5.snoc hr⟩⟩
  ·rw[aeh];refine ⟨e3,by simp,λa ha b hb=>?_⟩;rw[List.mem_singleton.mp hb];rintro rfl;exact e5.out hr ha
  ·rcases List.mem_append.mp hx with h | h
   ·exact e4 x h
   ·rw[List.mem_singleton.mp h];exact ⟨(ao hDl hr).symm,hS.free hr⟩
 ·obtain ⟨rs,rfl,e2,e3,e4,e5⟩:=hP;rw[aa0,hal] at e2;refine ⟨aag _,λpp hpp=>?_⟩;have ppD:pp≠D:=(ao hD2 hpp).symm;have ppr:pp∉rs:=e5.out hpp;have ppn:H pp=none:=hS.free hpp;have s4:ah H (upd H2 pp `ai):=hS.upd ppn _;have d4:=ae hpp `ai _ _ hD2;have p4:upd H2 pp `ai pp=aA `ai:=aa;have l4:=e5.same (ae hpp `ai);generalize upd H2 pp `ai=H4 at s4 d4 p4 l4 ⊢;have har:(ff ds).length=ds.length:=aa0 _;refine ⟨_,.inl (SqL.of (s4 _ _ hL)),ds.length,by rw[aa0,hal],by omega,?_⟩;refine Jm (n:=ds.length) (λi σ H'=>∃(v1 v2:Option V),σ=[aA (.ref sl),aA (.ref D),aA (.ref pp),v1,v2]∧ah H H'∧H' D=aA `a2∧H' pp=aA (.lst ((starts i ((ff ds).drop i)).reverse.map plV))∧dm H' rs (λq=>if i≤q then bb (ff ds) q else [])) ?_ ?_ ?_
  ·refine ⟨none,none,rfl,s4,d4,?_,l4.congr λq hq=>if_neg (by omega)⟩;rw[ac6 (by omega)];exact p4
  ·rintro p σ H5 hpl ⟨v1,v2,rfl,s5,d5,p5,l5⟩;have hx:ds[p]?=aA ds[p]:=aa1 hpl;obtain ⟨ap,hap,hst⟩:=hSt.2 p _ hx;generalize ds[p]=dd at hx hst;obtain ⟨x,ra,ut,_,_,hst3,hst4,t1,t2,t3,u1,u2,u3,u4⟩:=hst;push_cast [and_true];obtain ⟨m',hm'⟩:=Fz hi (p:=p) (by omega);have Sle:=Jr _ _ hm';rw[aav] at Sle;have Sl:=yt _ _ (p+1) hm';have ea:(ff ds).getD p 0=dd.2.hs.length:=by unfold ff;rw[aaj,aa4,hx];rfl
   have hbel:bb (ff ds) p=(starts (p+1) ((ff ds).drop (p+1))).take dd.2.hs.length:=by unfold bb;rw[ea]
   have hst:starts p ((ff ds).drop p)=p::(starts (p+1) ((ff ds).drop (p+1))).drop dd.2.hs.length:=by rw[Lp _ p (by omega),ea]
   rw[ea] at Sl Sle;generalize starts (p+1) ((ff ds).drop (p+1))=S at Sl hbel hst p5;have hpr:p < rs.length:=by omega
   obtain ⟨rD,rn⟩:=e4 _ (getD_mem hpr);have rp:pp≠rs.getD p 0:=λe=>ppr (by rw[e];exact getD_mem hpr);have hat2:atI (rs.map V.ref) (p:Int)=aA (.ref (rs.getD p 0)):=ay (by rw[aa4,aaj,aa1 hpr];rfl);refine az (s5 _ _ hL) (ay (by rw[aa4,hap];rfl)) (ag (s5 _ _ hst3) rfl (ag (s5 _ _ u1) rfl ⟨t1,rfl,⟨_,SqT.of (s5 _ _ u2)⟩,?_⟩));refine gg (xs:=dd.2.hs.map plV) (λk σ H'=>∃v:Option V,σ=[aA (.ref sl),aA (.ref D),aA (.ref pp),aA `aa,v]∧ah H H'∧H' D=aA `a2∧H' pp=aA (.lst ((S.drop k).reverse.map plV))∧dm H' rs (λq=>if q=p then S.take k else if p < q then bb (ff ds) q else [])) ?_ (λk σ H' _ h=>by obtain ⟨_,_,s,_⟩:=h;exact SqT.of (s _ _ u2)) ?_ ?_
   ·refine ⟨v2,rfl,s5,d5,p5,l5.congr λq hq=>?_⟩;by_cases e:q=p
    ·rw[if_pos e,if_neg (by omega)];rfl
    ·rw[if_neg e];by_cases e2:p < q
     ·rw[if_pos e2,if_pos (by omega)]
     ·rw[if_neg e2,if_neg (by omega)]
   ·rintro k y σ H8 hy ⟨v,rfl,s8,d8,p8,l8⟩;have hk:k < dd.2.hs.length:=by have:=(List.getElem?_eq_some_iff.mp hy).1;rw[aa0] at this;exact this
    push_cast [and_true];have l8p:H8 (rs.getD p 0)=aA (.lst ((S.take k).map plV)):=by
     have:H8 (rs.getD p 0)=aA (.lst ((if p=p then S.take k else if p < p then bb (ff ds) p else []).map plV)):=l8 p hpr;rwa [if_pos rfl] at this
    have hkS:k < S.length:=by omega
    have hdk:S.drop k=S[k]::S.drop (k+1):=aay hkS;have p8':H8 pp=aA (.lst ((S.drop (k+1)).reverse.map plV++[plV S[k]])):=by
     rw[p8,hdk,acm,aaa];rfl
    have etk:(S.take k).map plV++[plV S[k]]=(S.take (k+1)).map plV:=by
     rw[aar,aa1 hkS,aaa];rfl
    refine az d8 hat2 ⟨bf l8p,G9 p8' (b8 (K:=K) (by rw[ak rp.symm];exact l8p) (by rw[aa0,aau];omega) ⟨(s8.upd ppn _).upd rn _,by rw[ak rD.symm,ak ppD.symm];exact d8,by rw[ak rp,aa],?_⟩).2⟩;rw[etk];refine ((l8.other ppr).put e3 hpr).congr λq hq=>?_;by_cases e:q=p
    ·rw[if_pos e,if_pos e]
    ·rw[if_neg e,if_neg e,if_neg e]
   ·rintro σ H8 ⟨v,rfl,s8,d8,p8,l8⟩;rw[aa0] at p8 l8;push_cast [and_true];refine b8 p8 (by rw[aa0,ab8,aav];omega) ⟨s8.upd ppn _,by rw[ak ppD.symm];exact d8,?_,(l8.other ppr).congr λq hq=>?_⟩
    ·rw[aa,hst,acm,aaa];rfl
    ·by_cases e:q=p
     ·rw[if_pos e,if_pos (by omega),e,hbel]
     ·rw[if_neg e];by_cases e2:p < q
      ·rw[if_pos e2,if_pos (by omega)]
      ·rw[if_neg e2,if_neg (by omega)]
  ·rintro σ H5 ⟨v1,v2,rfl,s5,d5,p5,l5⟩;push_cast [and_true];exact q D rs H5 s5 d5 e2 (l5.congr λq hq=>(if_pos (by omega)).symm)
noncomputable abbrev lb:Stmt:=top 21
theorem Fl:av ["holes","order","waiting","number"] ["holes"] (af lb):=⟨rfl,rfl,rfl,by decide+kernel,rfl,by decide+kernel,by decide+kernel⟩
theorem Kr (G:Gs w K mg κ) (D:Def K mg "holes_ahead" lb ["holes"]):Has P w K mg base (k+1) "holes_ahead" ["holes"] uf:=by
 refine D.has Fl (λvs H Q E h=>?_) (λf cdv A outer s H vs Q E hr h=>?_)
 ·obtain ⟨_,_,_,rfl,_,_,_,_,_,_⟩:=h;rfl
 have nd:=Fl.nd;have hu:=br hr;have hu0:=aae hu;obtain ⟨hl,rs,ar,rfl,hL,hLs,hrl,hi,hn,q⟩:=h;have m_len:=G.m_len;have m_list:=G.m_list;have m_reversed:=G.m_reversed;refine ⟨_,(A5 (A9 1 nd (AQ (A2 0))) (A5 (A9 2 nd (AQ (A1 (A3 0) (A2 0)))) (A5 (C2 (AI (@jh _) (AJ (AS 0) m_len cm (A1 (A0 2) (A2 0))) (A3 0) (AF 0)) (A5 (A9 3 nd (C8 aM fM fN (@G4 _) (A0 2))) (A5 (AU (AV aM aS aT (AY 0) (A0 1) `aP)) (A7 (AU (AV aM gJ gK (@vi _) (A0 2) (A1 (A6 (AO 0) (A0 0) (A0 3)) (A2 0)))))))) (A7 (AE (@yx _ _ _ _ _ _ _ rfl rfl m_list rfl m_reversed (A1 (A0 1) (A2 0)) rfl rfl)))))),?_⟩;rw[show start ["holes","order","waiting","number"] [.ref hl]=[aA (.ref hl),none,none,none] from rfl];clear hu hu0 nd hr;push_cast [and_true];have sz:=aQ;have e0:eat 1 (ar.drop 0)=aA ar.length:=by rw[acq];exact g8 _ _ hi
 refine ⟨aag _,λol hol=>?_⟩;have s1:=ae hol `ai;have o1:upd H ol `ai ol=aA `ai:=aa;generalize upd H ol `ai=H1 at s1 o1 ⊢;refine ⟨by show (1:Nat)≤sizeLine;decide,λwl h_wl=>?_⟩;have s_wl:=ae h_wl (.lst [V.int 0]);have e_wl:upd H1 wl (.lst [V.int 0]) wl=aA (.lst [V.int 0]):=aa;generalize upd H1 wl (.lst [V.int 0])=H2 at s_wl e_wl ⊢;have nwo:wl≠ol:=(ao o1 h_wl).symm;have fwl:=s1.free h_wl;obtain ⟨P1,eP1⟩:∃P1:L2.St→Hp→Prop,∀σ H',P1 σ H'↔∃(os w:List Nat) (v3:Option V),σ=[aA (.ref hl),aA (.ref ol),aA (.ref wl),v3]∧ah H H'∧H' ol=aA (.lst (os.map plV))∧H' wl=aA (.lst (w.map plV))∧(∀q∈w,∃s,eat 1 (ar.drop q)=aA s)∧os++w.reverse.flatMap (back ar)=back ar 0:=⟨_,λ_ _=>abu⟩;refine m9 P1 (λσ H'=>ar.length+1 - yf H' ol) ?_ ?_ ?_
 ·exact (eP1 _ _).mpr ⟨[],[0],none,rfl,s1.trans s_wl,s_wl _ _ o1,e_wl,λq hq=>by rw[List.mem_singleton.mp hq];exact ⟨_,e0⟩,by simp⟩
 ·intro σ H4 hh;refine ob3 ((eP1 _ _).mp hh) λos w v3 hh=>?_;have s4:=hh.2.1;have o4:=hh.2.2.1;have w4:=hh.2.2.2.1;have k4:=hh.2.2.2.2.1;have b4:=hh.2.2.2.2.2;obtain rfl:=hh.1;clear hh;push_cast [tLR];have len:os.length+(w.reverse.flatMap (back ar)).length=ar.length:=by
   have:=congrArg ac5 b4;rw[aa2] at this;have e:(back ar 0).length=ar.length:=by unfold back;rw[ab8,j5 e0]
   omega
  have wle:w.length≤(w.reverse.flatMap (back ar)).length:=by
   have:=yo (ar:=ar) (w:=w.reverse) λq hq=>k4 q (List.mem_reverse.mp hq);rw[ab8] at this;exact this
  refine ⟨_,.inl (SqL.of w4),?_⟩;rcases List.eq_nil_or_concat w with rfl | ⟨w',p,rfl⟩
  ·rw[if_neg `a];refine ⟨_,SqL.of o4,λt ht=>q t _ (s4.trans (ae ht _)) ?_⟩;rw[aa,←aeo];have b4:os++[]=back ar 0:=b4;rw[ab1] at b4;rw[b4];unfold back;rw[List.reverse_reverse]
  ·rw[List.concat_eq_append] at*;obtain ⟨s,hs⟩:=k4 p (aao _ aa6);have hp:=(fz hs).1;rw[aa2,aa5] at wle;have eb:(w'++[p]).reverse.flatMap (back ar)=p::((w'++bb ar p).reverse.flatMap (back ar)):=by
    rw[acw,acw,abp,abp];show (back ar p++[])++_=_
    rw[ab1,back_eq hs];rfl
   have hbl:(w'++bb ar p).length≤ar.length:=by
    have h1:=yo (ar:=ar) (w:=(w'++bb ar p).reverse) λq hq=>by
     rcases List.mem_append.mp (List.mem_reverse.mp hq) with z | z
     ·exact k4 q (abe _ z)
     ·obtain ⟨t,a,_⟩:=iw hs q z;exact ⟨t,a⟩
    rw[ab8] at h1;rw[eb,aa8] at len;omega
   rw[aa2] at hbl;rw[eb,aa8] at len;rw[if_pos (by rw[aa0,aa2,aa5];omega)];rw[aaa] at w4;refine G9 (xs:=w'.map plV) (y:=plV p) w4 ?_;have s5:=s4.upd fwl (.lst (w'.map plV));have w5:upd H4 wl (.lst (w'.map plV)) wl=aA (.lst (w'.map plV)):=aa;have o5:upd H4 wl (.lst (w'.map plV)) ol=aA (.lst (os.map plV)):=by rw[ak nwo.symm];exact o4
   generalize upd H4 wl (.lst (w'.map plV))=H5 at s5 w5 o5 ⊢;refine b8 (K:=K) o5 (by rw[aa0];omega) ?_;have s6:=s5.upd hol `a5;have w6:upd H5 ol `a5 wl=aA (.lst (w'.map plV)):=by rw[ak nwo];exact w5
   have o6:upd H5 ol `a5 ol=aA `a5:=aa;generalize upd H5 ol `a5=H6 at s6 w6 o6 ⊢;have hpr:p < rs.length:=by omega
   refine ⟨bf w6,az (v:=.ref (rs.getD p 0)) (s6 _ _ hL) (ay (by rw[aa4,aaj,aa1 hpr];rfl)) ?_⟩;refine ⟨wl,_,w'.map plV,(bb ar p).map plV,rfl,rfl,w6,s6 _ _ (hLs p hpr),by rw[aa0,aa0];omega,(eP1 _ _).mpr ⟨os++[p],w'++bb ar p,_,rfl,s6.upd fwl _,by rw[ak nwo.symm,o6,aaa];rfl,by rw[aa,aaa],λq hq=>?_,?_⟩,?_⟩
   ·rcases List.mem_append.mp hq with z | z
    ·exact k4 q (abe _ z)
    ·obtain ⟨t,a,_⟩:=iw hs q z;exact ⟨t,a⟩
   ·rw[←b4,eb,ac1];rfl
   ·rw[jz (show upd H6 wl _ ol=aA `a5 by rw[ak nwo.symm];exact o6),jz o4,aa2,aa0,aa5];omega
 ·intro σ H' Q1 Q2 hq h;exact Fy hq h
noncomputable abbrev i9:Stmt:=top 25
theorem Be:av ["steps","order","boxes","many","number","more"] ["steps","order"] (af i9):=⟨rfl,rfl,rfl,by decide+kernel,rfl,by decide+kernel,by decide+kernel⟩
theorem Ih (G:Gs w K mg κ) (h_boxes_named:Has P w K mg base k "boxes_named" ["rule"] my) (D:Def K mg "counted_boxes" i9 ["steps","order"]):Has P w K mg base (k+1) "counted_boxes" ["steps","order"] n6:=by
 refine D.has Be (λvs H Q E h=>?_) (λf cdv A outer s H vs Q E hr h=>?_)
 ·obtain ⟨_,_,_,_,_,rfl,_,_,_,_,_,_,_,_⟩:=h;rfl
 have nd:=Be.nd;have hu:=br hr;have hu0:=aae hu;obtain ⟨sl,ol,as,es,os,rfl,hL,hSt,hO,nd0,hos,hdy,hol,q⟩:=h;have m_len:=G.m_len;have m_list:=G.m_list;have m_range:=G.m_range;refine ⟨_,(A5 (A9 2 nd (@Fe _ _)) (A5 (A9 3 nd (A3 0)) (A5 (AZ (BP (A0 1)) (AN 4 nd (by first | exact ab5 rfl | exact ab3 rfl)) (A5 (A9 5 nd (A4 (AM 0) (A0 3) (AJ (AS 0) m_len cm (A1 (AD h_boxes_named hr (A1 (A6 (AA 0) (A6 (AO 0) (A0 0) (A0 4)) (A3 0)) (A2 0))) (A2 0))))) (A5 (C5 hu (A0 2) (A0 4) (B0 (@zb _ rfl) m_list Dv (A1 (B0 (@Gd _) m_range Ro (A1 (A0 3) (A1 (A0 5) (A2 0)))) (A2 0)))) (A7 (A9 3 nd (A0 5)))))) (A7 (AE (A0 2)))))),?_⟩;rw[show start ["steps","order","boxes","many","number","more"] [.ref sl,.ref ol]=[aA (.ref sl),aA (.ref ol),none,none,none,none] from rfl];clear hu hu0 nd hr;push_cast [and_true];have sz:=aQ;intro d hd;have s1:=ae hd (.dK []);have b1:ly (upd H d (.dK [])) (λx=>H x≠none∨x=d) d es []:=ly.nil;generalize upd H d (.dK [])=H1 at s1 b1 ⊢;refine ⟨⟨_,SqL.of (s1 _ _ hO)⟩,?_⟩;refine j4 (xs:=os.map plV) (λj σ H'=>∃(v4 v5:Option V),σ=[aA (.ref sl),aA (.ref ol),aA `aY,aA (.int (sumOf (nbE es) (os.take j):Nat)),v4,v5]∧ah H H'∧ly H' (λx=>H x≠none∨x=d) d es (os.take j)) ⟨none,none,rfl,s1,b1⟩ (λj σ H' _ h=>by obtain ⟨_,_,_,s,_⟩:=h;exact SqL.of (s _ _ hO)) ?_ ?_
 ·rintro j y σ H5 hy ⟨v4,v5,rfl,s5,b5⟩;rw[aa4] at hy;obtain ⟨o,ho,rfl⟩:=Option.map_eq_some_iff.mp hy;have hol2:=hos o (aai ho);have hx:=aa1 hol2;obtain ⟨ap,hap,ra,ut,g1,g2,g3⟩:=hSt.2 o _ hx;have hdd:=hdy _ (aaf hol2);have enb:nbE es o=(bo es[o].1.2).length:=by unfold nbE;rw[hx];rfl
  generalize es[o]=e at hx g2 g3 hdd enb;push_cast [and_true];refine az (s5 _ _ hL) (ay (by rw[aa4,hap];rfl)) (ag (s5 _ _ g1) rfl (Fo (g2.tk (TK.of s5)) hdd.1 hdd.2 λl H6 s6 hl6 h6=>⟨_,.inl (SqL.of h6),?_⟩));rw[aa0,←enb];have htl:(os.take j).length≤1000:=by rw[aau];omega
  have sle:=Pj es (os.take j);have nle:=nb_le es o;refine λp1 hp1=>⟨_,_,aa,by omega,by omega,by omega,λl2 hl2=>?_⟩;have ev:((sumOf (nbE es) (os.take j):Int)+(nbE es o:Int) - (sumOf (nbE es) (os.take j):Int)).toNat=nbE es o:=by omega
  rw[ev,Q6];have s7:=ae hp1 (.rng (sumOf (nbE es) (os.take j):Int) ((sumOf (nbE es) (os.take j):Int)+(nbE es o:Int)));have s8:=ae hl2 (.lst ((acd (sumOf (nbE es) (os.take j)) (nbE es o)).map plV));have s58:=s6.trans (s7.trans s8);have fl2:H5 l2=none:=(s6.trans s7).free hl2;obtain ⟨kvs0,hd0,_⟩:=id b5;have hpo:o∉os.take j:=λz=>by
   obtain ⟨i,hi⟩:=abm z;have hij:=(List.getElem?_eq_some_iff.mp hi).1;rw[aau] at hij;rw[acy (by omega)] at hi;obtain ⟨a1,b1⟩:=List.getElem?_eq_some_iff.mp hi;obtain ⟨a2,b2⟩:=List.getElem?_eq_some_iff.mp ho;have:=(ad5 nd0).mp (b1.trans b2.symm);omega
  obtain ⟨kvs,k1,k2,k3⟩:=(b5.same s58).snoc (p:=o) (l:=l2) (.inr rfl) hpo (by
   rintro (z | z)
   ·exact z (s5.free fl2)
   ·exact (ao hd0 fl2) z.symm) aa
  refine ⟨_,zo.k (k:=cK (o:Int)) k1 (by omega),?_⟩;have et:os.take (j+1)=os.take j++[o]:=by rw[aar,ho];rfl
  refine ⟨by rw[et,Fp];rfl,(s5.trans s58).upd hd _,by rw[et];exact k3⟩
 ·rintro σ H5 ⟨v4,v5,rfl,s5,b5⟩;push_cast [and_true];rw[aa0,aaw (aa3 _)] at b5;exact q d H5 s5 hd (b5.weak λx hx=>.inl hx)
noncomputable abbrev qw:Stmt:=top 22
theorem J3:av ["step","results","boxes","meant","letter","found","number","thing"] ["step","results","boxes"] (af qw):=⟨rfl,rfl,rfl,by decide+kernel,rfl,by decide+kernel,by decide+kernel⟩
theorem Pg (G:Gs w K mg κ) (h_boxes_named:Has P w K mg base k "boxes_named" ["rule"] my) (D:Def K mg "meanings" qw ["step","results","boxes"]):Has P w K mg base (k+1) "meanings" ["step","results","boxes"] wc:=by
 refine D.has J3 (λvs H Q E h=>?_) (λf cdv A outer s H vs Q E hr h=>?_)
 ·obtain ⟨_,_,_,_,_,_,rfl,_,_,_,_,_,_,_,_,_⟩:=h;rfl
 have nd:=J3.nd;have hu:=br hr;have hu0:=aae hu;obtain ⟨st,rl,bl,e,is,bs,rfl,hSt,hDy,hR,hB,hbl,hil,hnl,hvl,q⟩:=h;have m_dict:=G.m_dict;have m_enumerate:=G.m_enumerate;have m_zip:=G.m_zip;refine ⟨_,(A5 (A9 3 nd (@Hx _ _ _ _ _ _ _ _ rfl rfl m_dict rfl m_zip (A1 (AD h_boxes_named hr (A1 `E (A2 0))) (A1 (A0 2) (A2 0))) rfl rfl rfl)) (A5 (AZ (@Ts _ _ _ _ _ _ _ rfl m_zip (ab3 (aee _ (aee _ (aee _ rfl)))) (A1 (AC 0) (A1 (A8 (A1 (A0 1) (A1 (A6 (AA 0) `E (A3 0)) (A1 (A6 (AA 0) `E (A3 0)) (A2 0))))) (A2 0))) rfl rfl) (BM 2 (B5 (AN 4 nd (by first | exact ab5 rfl | exact ab3 rfl)) (B5 (AN 5 nd (by first | exact ab5 rfl | exact ab3 rfl)) (BN 0)))) (A7 (AZ (@Qs _ _ _ _ _ _ _ _ _ _ _ rfl m_enumerate (A1 (A0 5) (A2 0)) rfl) (BM 2 (B5 (AN 6 nd (by first | exact ab5 rfl | exact ab3 rfl)) (B5 (AN 7 nd (by first | exact ab5 rfl | exact ab3 rfl)) (BN 0)))) (A7 (C5 hu (A0 3) (@Uv _ _ _ _ _ _ _ (@px_s _ _ _ _ _ _ _ (A0 4) (@px_i _ _ _ _ _ _ _ (A0 6) (@px_nil _))) (by decide)) (A0 7)))))) (A7 (AE (A0 3))))),?_⟩;rw[show start ["step","results","boxes","meant","letter","found","number","thing"] [.ref st,.ref rl,.ref bl]=[aA (.ref st),aA (.ref rl),aA (.ref bl),none,none,none,none,none] from rfl];clear hu hu0 nd hr;push_cast [and_true];have sz:=aQ;obtain ⟨ra,ut,g1,g2,g3⟩:=hSt;obtain ⟨t1,t2,t3,u1,u2,u3,u4⟩:=id g3;have uL:=Cy e.1.2;push_cast [tDZ,iZipS];refine ag g1 rfl (Fo g2 hDy.1 hDy.2 λl H1 s1 hl1 h1=>?_);refine ⟨l,rfl,(bo e.1.2).map (aP:Str→Key),SqL.of (by rw[h1,abd];rfl),bs.map V.int,SqL.of (s1 _ _ hB),by rw[aa0,aa0,hbl],by rw[aa0];omega,λd hd=>?_⟩;have s2:=ae hd `a3;have D2:DM (upd H1 d `a3) d (oy (bo e.1.2) bs) 4:=DM.first uL
 have fd:=s1.free hd;generalize upd H1 d `a3=H2 at s2 D2 ⊢;have S2:=s1.trans s2;refine ag (S2 _ _ g1) rfl (ag (S2 _ _ u1) rfl (ag (S2 _ _ g1) rfl (ag (S2 _ _ u1) rfl ?_)));refine ⟨by show (3:Nat)≤sizeLine;decide,λtp h_tp=>?_⟩;have s_tp:=ae h_tp `H;have e_tp:upd H2 tp `H tp=aA `H:=aa;generalize upd H2 tp `H=H3 at s_tp e_tp ⊢;have S3:=S2.trans s_tp;refine ⟨by decide+kernel,⟨_,SqT.of e_tp⟩,?_⟩;obtain ⟨P1,eP1⟩:∃P1:Nat→L2.St→Hp→Prop,∀i σ H',P1 i σ H'↔∃(v4 v5 v6 v7:Option V),σ=[aA (.ref st),aA (.ref rl),aA (.ref bl),aA `aY,v4,v5,v6,v7]∧ah H H'∧H' tp=aA `H∧DM H' d (mI e is bs i) (4+1000*i):=⟨_,λ_ _ _=>abu⟩;refine Mg (ys:=[V.ref rl,V.ref t2,V.ref t3]) P1 ((eP1 _ _ _).mpr ⟨none,none,none,none,rfl,S3,e_tp,D2.same s_tp⟩) (by show (aB "hnv").cps.size=3;decide+kernel) (λi σ H' _ h=>by obtain ⟨_,_,_,_,_,_,z,_⟩:=(eP1 _ _ _).mp h;exact SqT.of z) ?_ ?_
 ·intro i ch y σ H4 p4 hch hy hh hp4;obtain ⟨v4,v5,v6,v7,rfl,S4,z4,D4⟩:=(eP1 _ _ _).mp hh;refine fm aa rfl ?_;have s5:=ae hp4 (.tup [V.str ⟨#[ch]⟩,y]);have S5:=S4.trans s5;have D5:=D4.same s5;have z5:=s5 _ _ z4;generalize upd H4 p4 (.tup [V.str ⟨#[ch]⟩,y])=H5 at s5 S5 D5 z5 ⊢;have hi:i < 3:=(List.getElem?_eq_some_iff.mp hy).1;have s6:=ah.refl H5;have D6:=D5;push_cast [Nk];rcases (show i=0∨i=1∨i=2 by omega) with rfl | rfl | rfl
  ·cases hy
   obtain rfl:ch=104:=aa7 (hch.symm.trans (show (aB "hnv").cps[0]?=aA 104 by decide+kernel));have hlen:(is.map V.int).length≤1000:=by rw[aa0];exact hil
   refine ⟨rl,rfl,is.map V.int,.inl ⟨SqL.of (S5 _ _ hR),?_⟩⟩;refine G3 (xs:=is.map V.int) (λj σ H'=>∃(v6 v7:Option V),σ=[aA (.ref st),aA (.ref rl),aA (.ref bl),aA `aY,aA (.str `aR),aA (.ref rl),v6,v7]∧ah H H'∧H' tp=aA `H∧DM H' d (putL `aR ((is.map V.int).take j) 0 (mI e is bs 0)) (4+1000*0+j)) ⟨v6,v7,rfl,S5,z5,D5⟩ (λj σ H' _ h=>by obtain ⟨_,_,_,s,_⟩:=h;exact SqL.of (s _ _ hR)) ?_ ?_
   ·rintro j y σ H7 p7 hy ⟨w6,w7,rfl,s7,z7,D7⟩ hp7;refine fm aa rfl ?_;have hjl:j < (is.map V.int).length:=(List.getElem?_eq_some_iff.mp hy).1;have s8:=ae hp7 (.tup [V.int ((j+1:Nat):Int),y]);obtain ⟨H9,P9,D9,o9,rfl⟩:=(D7.same s8).put (by omega) (cb `aR (j+1)) y;push_cast [tFx,tXS,tXI,tX0];have ntp:tp≠d:=by
     obtain ⟨kvs,hk,_⟩:=D7;exact jq z7 hk (by intro z;cases z)
    refine ⟨by decide,?_,_,P9,(s7.trans s8).upd fd _,by rw[ak ntp];exact s8 _ _ z7,?_⟩
    ·show (j+1).log2 < 1920
     exact ac0 (ad9 _) (by omega)
    ·rw[aar,hy,show (aA y).toList=[y] from rfl,jt,abn,aau,aca (by omega)];exact D9
   ·rintro σ H7 ⟨w6,w7,rfl,s7,z7,D7⟩;rw[aaw (aa3 _)] at D7;exact (eP1 _ _ _).mpr ⟨_,_,_,_,rfl,s7,z7,D7.mono (by omega)⟩
  ·cases hy
   obtain rfl:ch=110:=aa7 (hch.symm.trans (show (aB "hnv").cps[1]?=aA 110 by decide+kernel));have hlen:(e.2.ns).length≤1000:=hnl;refine ⟨t2,rfl,e.2.ns,.inr ⟨SqT.of (S5 _ _ u3),?_⟩⟩;refine zf (xs:=e.2.ns) (λj σ H'=>∃(v6 v7:Option V),σ=[aA (.ref st),aA (.ref rl),aA (.ref bl),aA `aY,aA (.str (chS 110)),aA (.ref t2),v6,v7]∧ah H H'∧H' tp=aA `H∧DM H' d (putL (chS 110) ((e.2.ns).take j) 0 (mI e is bs 1)) (4+1000*1+j)) ⟨v6,v7,rfl,S5,z5,D5⟩ (λj σ H' _ h=>by obtain ⟨_,_,_,s,_⟩:=h;exact SqT.of (s _ _ u3)) ?_ ?_
   ·rintro j y σ H7 p7 hy ⟨w6,w7,rfl,s7,z7,D7⟩ hp7;refine fm aa rfl ?_;have hjl:j < (e.2.ns).length:=(List.getElem?_eq_some_iff.mp hy).1;have s8:=ae hp7 (.tup [V.int ((j+1:Nat):Int),y]);obtain ⟨H9,P9,D9,o9,rfl⟩:=(D7.same s8).put (by omega) (cb (chS 110) (j+1)) y;push_cast [tFx,tXS,tXI,tX0];have ntp:tp≠d:=by
     obtain ⟨kvs,hk,_⟩:=D7;exact jq z7 hk (by intro z;cases z)
    refine ⟨by decide,?_,_,P9,(s7.trans s8).upd fd _,by rw[ak ntp];exact s8 _ _ z7,?_⟩
    ·show (j+1).log2 < 1920
     exact ac0 (ad9 _) (by omega)
    ·rw[aar,hy,show (aA y).toList=[y] from rfl,jt,abn,aau,aca (by omega)];exact D9
   ·rintro σ H7 ⟨w6,w7,rfl,s7,z7,D7⟩;rw[aaw (aa3 _)] at D7;exact (eP1 _ _ _).mpr ⟨_,_,_,_,rfl,s7,z7,D7.mono (by omega)⟩
  ·cases hy
   obtain rfl:ch=118:=aa7 (hch.symm.trans (show (aB "hnv").cps[2]?=aA 118 by decide+kernel));have hlen:(e.2.vs).length≤1000:=hvl;refine ⟨t3,rfl,e.2.vs,.inr ⟨SqT.of (S5 _ _ u4),?_⟩⟩;refine zf (xs:=e.2.vs) (λj σ H'=>∃(v6 v7:Option V),σ=[aA (.ref st),aA (.ref rl),aA (.ref bl),aA `aY,aA (.str (chS 118)),aA (.ref t3),v6,v7]∧ah H H'∧H' tp=aA `H∧DM H' d (putL (chS 118) ((e.2.vs).take j) 0 (mI e is bs 2)) (4+1000*2+j)) ⟨v6,v7,rfl,S5,z5,D5⟩ (λj σ H' _ h=>by obtain ⟨_,_,_,s,_⟩:=h;exact SqT.of (s _ _ u4)) ?_ ?_
   ·rintro j y σ H7 p7 hy ⟨w6,w7,rfl,s7,z7,D7⟩ hp7;refine fm aa rfl ?_;have hjl:j < (e.2.vs).length:=(List.getElem?_eq_some_iff.mp hy).1;have s8:=ae hp7 (.tup [V.int ((j+1:Nat):Int),y]);obtain ⟨H9,P9,D9,o9,rfl⟩:=(D7.same s8).put (by omega) (cb (chS 118) (j+1)) y;push_cast [tFx,tXS,tXI,tX0];have ntp:tp≠d:=by
     obtain ⟨kvs,hk,_⟩:=D7;exact jq z7 hk (by intro z;cases z)
    refine ⟨by decide,?_,_,P9,(s7.trans s8).upd fd _,by rw[ak ntp];exact s8 _ _ z7,?_⟩
    ·show (j+1).log2 < 1920
     exact ac0 (ad9 _) (by omega)
    ·rw[aar,hy,show (aA y).toList=[y] from rfl,jt,abn,aau,aca (by omega)];exact D9
   ·rintro σ H7 ⟨w6,w7,rfl,s7,z7,D7⟩;rw[aaw (aa3 _)] at D7;exact (eP1 _ _ _).mpr ⟨_,_,_,_,rfl,s7,z7,D7.mono (by omega)⟩
 ·intro σ H4 hh;obtain ⟨v4,v5,v6,v7,rfl,S4,z4,D4⟩:=(eP1 _ _ _).mp hh;push_cast [and_true];exact q d H4 S4 (D4.mono (by show 4+1000*3≤4000;decide))
noncomputable abbrev qi:Stmt:=top 23
theorem Kh:av ["step","results","boxes","meant"] ["step","results","boxes"] (af qi):=⟨rfl,rfl,rfl,by decide+kernel,rfl,by decide+kernel,by decide+kernel⟩
theorem Pe (G:Gs w K mg κ) (h_meanings:Has P w K mg base k "meanings" ["step","results","boxes"] wc) (D:Def K mg "deed_rows" qi ["step","results","boxes"]):Has P w K mg base (k+1) "deed_rows" ["step","results","boxes"] xa:=by
 refine D.has Kh (λvs H Q E h=>?_) (λf cdv A outer s H vs Q E hr h=>?_)
 ·obtain ⟨_,_,_,_,_,_,rfl,_,_,_,_,_,_,_,_,_,_,_⟩:=h;rfl
 have nd:=Kh.nd;have hu:=br hr;have hu0:=aae hu;obtain ⟨st,rl,bl,e,is,bs,rfl,hSt,hDy,hR,hB,hbl,hil,hnl,hvl,hfl,hne,q⟩:=h;have m_tuple:=G.m_tuple;refine ⟨_,(A5 (BT 3 nd (AD h_meanings hr (A1 (A0 0) (A1 (A0 1) (A1 (A0 2) (A2 0)))))) (A7 (AE (BI (B8 ["deed"] ["meant"] [3] `aA `n) (B7 (A6 (AA 0) `E (A3 0))) (λ_ _ _=>(B9 0 (show abj (["deed","meant"]:List Str) by decide+kernel))) (λ_ _ _=>(@zy _)) (λ_ _ _=>(A4 (B6 0) (BJ (@j6 _) (A0 0) (BK 0) (BL (A3 0))) (B0 (@zd _ K rfl) m_tuple dq (A1 (BI (B8 ["word"] ["meant"] [1] `aA `n) (@J2 _ K rfl _ _ _ (BJ (@j6 _) (A0 0) (BL (A3 0)) (BK 0))) (λ_ _ _=>(B9 0 (show abj (["word","meant"]:List Str) by decide+kernel))) (λ_ _ _=>(@zy _)) (λ_ _ _=>(@pe_bmK _ K rfl _ _ _ _ _ _ _ _ _ _ _ jK dR lJ (@Nj _ hu) (AH 1) (A1 (A0 0) (A1 (A0 0) (A2 0))) rfl rfl rfl rfl rfl))) (A2 0))))))))),?_⟩;rw[show start ["step","results","boxes","meant"] [.ref st,.ref rl,.ref bl]=[aA (.ref st),aA (.ref rl),aA (.ref bl),none] from rfl];clear hu hu0 nd hr;push_cast [and_true];have sz:=aQ;refine Tr hSt hDy hR hB hbl hil hnl hvl λd H1 s1 D1=>?_;obtain ⟨ra,ut,g1,g2,g3⟩:=id hSt;obtain ⟨sa,da,r1,r2,as0,r3,r4⟩:=g2;have al:=r4.1;have dl:=hDy.2;push_cast [and_true];refine ag (s1 _ _ g1) rfl (ag (s1 _ _ r1) rfl ⟨da,rfl,⟨_,SqT.of (s1 _ _ r3)⟩,λD hD=>?_⟩);refine Rp (xs:=as0.map V.ref) (λi ys H'=>∃as:List Addr,ys=as.map V.ref∧(∀a∈as,a≠D)∧bc H' as ((e.1.2.take i).map (rowOf (dh e is bs)))) ?_ (SqT.of (s1 _ _ r3)) (by rw[aa0,al];omega) hD ⟨[],rfl,(λ_ h=>nomatch h),rfl,λj x h=>by simp at h⟩ (λi x ys H3 G' K' hx hP hl2 hS' hDl hG hK'=>?_) λys H3 hP hl2 hS' hD2=>?_
 ·rintro i ys H2 H3 keep ⟨as,e1,e2,e3⟩;exact ⟨as,e1,e2,e3.1,λj x hx=>by obtain ⟨a,a1,a2⟩:=e3.2 j x hx;exact ⟨a,a1,keep _ _ (e2 a (aai a1)) a2⟩⟩
 ·rw[aa4] at hx;obtain ⟨ai,hai,rfl⟩:=Option.map_eq_some_iff.mp hx;have hi:i < e.1.2.length:=by rw[←al];exact (List.getElem?_eq_some_iff.mp hai).1
  have hk:=aa1 hi;obtain ⟨ai',hai',hdeed⟩:=r4.2 i _ hk;obtain rfl:ai'=ai:=aa7 (hai'.symm.trans hai);have hw:=hDy.1 _ (aaf hi);have hx1:=hfl _ (aaf hi);have hx2:=hne _ (aaf hi);generalize e.1.2[i]=x at hk hdeed hw hx1 hx2;obtain ⟨as,rfl,e2,e3⟩:=hP;have S3:=s1.trans hS';push_cast [and_true];refine ko (S3 _ _ hdeed) λp4 H4 s4 e4=>?_;refine ko ((S3.trans s4) _ _ hdeed) λp5 H5 s5 e5=>⟨p5,rfl,⟨_,SqT.of e5⟩,λD2 hD2=>?_⟩;rw[Th x hx2] at e4;rw[show ir x (aA 1) none=x.drop 1 from ma x 1 0 (by omega)] at e5;have D5:=D1.same (hS'.trans (s4.trans s5));refine km (xs:=x.drop 1) (λj ys=>ys=((x.drop 1).take j).map (wOf (dh e is bs))) (SqT.of e5) (by rw[aav];omega) hD2 rfl (λj v ys H6 G2 K2 hv hP2 hl3 hS2 hG2 hK2=>?_) λys H6 hP2 hl3 hS2 hD3=>?_
  ·have hvw:=hw v (adn (aai hv));obtain ⟨o,ho1,ho2⟩:=(D5.same hS2).get hvw;push_cast [Qm];refine ⟨(D5.same hS2).ty,o,ho1,?_⟩;rw[ho2];refine hK2 _ _ `aM ?_;rw[hP2,aar,hv,aaa];rfl
  ·rw[aaw (aa3 _)] at hP2;refine ⟨_,.inl ⟨SqL.of hD3,λt ht=>?_⟩⟩;rw[hP2];have s7:=ae ht (.tup ((x.drop 1).map (wOf (dh e is bs))));refine g7 ((s5.trans (hS2.trans s7)) _ _ e4) aa (by rw[aa0,aau,aav];omega) λp8 H8 s8 e8=>?_;have s38:=s4.trans (s5.trans (hS2.trans (s7.trans s8)));refine hK' _ _ s38 ⟨as++[p8],by rw[aaa];rfl,λa ha=>?_,?_⟩
   ·rcases List.mem_append.mp ha with z | z
    ·exact e2 a z
    ·rw[List.mem_singleton.mp z];exact jq e8 (s38 _ _ hDl) (by intro z;cases z)
   ·rw[aar,hk,aaa];exact (bc.tk e3 (TK.of s38)).snoc1 e8
 ·obtain ⟨as,rfl,e2,e3⟩:=hP;rw[aa0,al,aaw (aa3 _)] at e3;exact q D as H3 (s1.trans hS') (s1.free hD) hD2 e3
noncomputable abbrev qd:Stmt:=top 24
theorem Ji:av ["steps","holes","order","boxes","rows","number","results"] ["steps","holes","order","boxes"] (af qd):=⟨rfl,rfl,rfl,by decide+kernel,rfl,by decide+kernel,by decide+kernel⟩
theorem Pf (G:Gs w K mg κ) (h_deed_rows:Has P w K mg base k "deed_rows" ["step","results","boxes"] xa) (D:Def K mg "rows_in_order" qd ["steps","holes","order","boxes"]):Has P w K mg base (k+1) "rows_in_order" ["steps","holes","order","boxes"] wj:=by
 refine D.has Ji (λvs H Q E h=>?_) (λf cdv A outer s H vs Q E hr h=>?_)
 ·obtain ⟨_,_,_,_,_,_,_,_,_,_,rfl,_,_,_,_,_,_,_,_,_,_,_,_⟩:=h;rfl
 have nd:=Ji.nd;have hu:=br hr;have hu0:=aae hu;obtain ⟨sl,hl,ol,d,as,rs,es,os,ar,no,rfl,hL,hSt,hH,hLs,hrl,hO,hBx,hos,hok,hbel,hol,q⟩:=h;refine ⟨_,(A5 (A9 4 nd (AQ (A2 0))) (A5 (AZ (BP (A0 2)) (AN 5 nd (by first | exact ab5 rfl | exact ab3 rfl)) (A5 (BU 6 nd (B8 ["hole"] ["boxes"] [3] (aad rfl trivial) (aad (aad rfl (aad rfl rfl)) trivial)) (BP (A6 (AO 0) (A0 1) (A0 5))) (λ_ _ _=>(B9 0 (show abj (["hole","boxes"]:List Str) by decide+kernel))) (λ_ _ _=>(@zy _)) (λ_ _ _=>(A6 (@Fb _ K rfl) (BD hu (AH 1) (A0 0)) (A3 0)))) (A7 (AU (AV aM gJ gK (@vi _) (A0 4) (A1 (AD h_deed_rows hr (A1 (A6 (AO 0) (A0 0) (A0 5)) (A1 (A0 6) (A1 (BD hu (AH 3) (A0 5)) (A2 0))))) (A2 0))))))) (A7 (AE (A0 4))))),?_⟩;rw[show start ["steps","holes","order","boxes","rows","number","results"] [.ref sl,.ref hl,.ref ol,.ref d]=[aA (.ref sl),aA (.ref hl),aA (.ref ol),aA `aY,none,none,none] from rfl];clear hu hu0 nd hr;push_cast [and_true];have sz:=aQ;refine ⟨aag _,λl hl0=>?_⟩;have s1:=ae hl0 `ai;have l1:upd H l `ai l=aA `ai:=aa;generalize upd H l `ai=H1 at s1 l1 ⊢;refine ⟨⟨_,SqL.of (s1 _ _ hO)⟩,?_⟩;refine j4 (xs:=os.map plV) (λj σ H'=>∃(bs:List Addr) (v5 v6:Option V),σ=[aA (.ref sl),aA (.ref hl),aA (.ref ol),aA `aY,aA `D,v5,v6]∧ah H H'∧H' l=aA `aL∧bc H' bs ((os.take j).flatMap (mv es os ar))) ⟨[],none,none,rfl,s1,l1,rfl,λj x h=>by simp at h⟩ (λj σ H' _ h=>by obtain ⟨_,_,_,_,s,_⟩:=h;exact SqL.of (s _ _ hO)) ?_ ?_
 ·rintro j y σ H5 hy ⟨bs,v5,v6,rfl,s5,l5,T5⟩;rw[aa4] at hy;obtain ⟨o,ho,rfl⟩:=Option.map_eq_some_iff.mp hy;have hom:=aai ho;have hol2:=hos o hom;have hx:=aa1 hol2;obtain ⟨ap,hap,hst⟩:=hSt.2 o _ hx;have hE:=hok _ (aaf hol2);have enb:nbE es o=(bo es[o].1.2).length:=by unfold nbE;rw[hx];rfl
  have erw:mv es os ar o=jv es[o] (resP es os ar o) (bxP es os o):=by unfold mv;rw[hx]
  generalize es[o]=e at hx hst hE enb erw;obtain ⟨hb1,hb2⟩:=hbel o hom;have hor:o < rs.length:=by omega
  push_cast [and_true];refine az (v:=.ref (rs.getD o 0)) (s5 _ _ hH) (ay (by rw[aa4,aaj,aa1 hor];rfl)) ⟨_,rfl,⟨_,SqL.of (s5 _ _ (hLs o hor))⟩,λl2 hl2=>?_⟩;refine xj (xs:=(bb ar o).map plV) (λi ys=>ys=((bb ar o).take i).map λq=>V.int ((baseOf (nbE es) os 0 q:Nat):Int)) (SqL.of (s5 _ _ (hLs o hor))) (by rw[aa0];omega) hl2 rfl (λi x ys H6 G' K' hx2 hP hlen hS' hG hK'=>?_) λys H6 hP hlen hS' hD2=>?_
  ·rw[aa4] at hx2;obtain ⟨q1,hq1,rfl⟩:=Option.map_eq_some_iff.mp hx2;obtain ⟨hqo,hqn⟩:=hb2 q1 (aai hq1);obtain ⟨kvs,k1,k2,k3⟩:=hBx.same (s5.trans hS');obtain ⟨lq,n1,n2,n3⟩:=k3 q1 hqo;obtain ⟨kk,hkk⟩:∃kk,nbE es q1=kk+1:=⟨nbE es q1 - 1,by omega⟩;rw[hkk,aep] at n3;push_cast [and_true];refine ⟨.ref lq,by rw[←n2];exact gn.k (k:=cK (q1:Int)) k1,az n3 (ay (j:=0) rfl) (hK' _ _ `aM ?_)⟩;rw[hP,aar,hq1,aaa];rfl
  ·rw[aa0,aaw (aa3 _)] at hP;have S6:=s5.trans hS';have l6:=hS' _ _ l5;obtain ⟨kvs,k1,k2,k3⟩:=hBx.same S6;obtain ⟨lo,n1,n2,n3⟩:=k3 o hom;refine ⟨bf l6,az (S6 _ _ hL) (ay (by rw[aa4,hap];rfl)) ⟨.ref lo,by rw[←n2];exact gn.k (k:=cK (o:Int)) k1,?_⟩⟩;refine Uc (is:=resP es os ar o) (bs:=bxP es os o) (hst.tk (TK.of S6)) hE.dy (by rw[hD2,hP];unfold resP;rw[abd];rfl) (by rw[n3];unfold bxP;rw[abd];rfl) (by unfold bxP;rw[aa0,List.length_range',enb]) (by unfold resP;rw[aa0];exact hb1) hE.ns hE.vs hE.fl hE.ne λl3 cs H7 s7 hl7 h7 T7=>?_;have bl:bs.length≤100*1000:=by
    rw[T5.1];have:=Av hok os ar (os.take j);rw[aau] at this;omega
   have cl:cs.length≤100:=by
    rw[T7.1];unfold jv;rw[aa0];exact hE.dy.2
   have l7:=s7 _ _ l6;refine ⟨l,l3,bs.map V.ref,cs.map V.ref,rfl,rfl,l7,h7,by rw[aa0,aa0];omega,(S6.trans s7).upd hl0 _,bs++cs,by rw[aa,aaa],?_⟩;rw[aar,ho,abp,show ((aA o).toList.flatMap (mv es os ar))=mv es os ar o from ab1 _,erw];exact ((T5.tk (TK.of (hS'.trans s7))).app T7).tk (TK.put l7 (by intro _ z;cases z))
 ·rintro σ H5 ⟨bs,v5,v6,rfl,s5,l5,T5⟩;push_cast [and_true];rw[aa0,aaw (aa3 _)] at T5;exact q l bs H5 s5 hl0 l5 T5
noncomputable abbrev kg:Stmt:=top 26
theorem Fi:av ["book","words","kind","cover","steps","holes","order","boxes"] ["book","words","kind","cover"] (af kg):=⟨rfl,rfl,rfl,by decide+kernel,rfl,by decide+kernel,by decide+kernel⟩
theorem Mn (G:Gs w K mg κ) (h_counted_boxes:Has P w K mg base k "counted_boxes" ["steps","order"] n6) (h_holes_ahead:Has P w K mg base k "holes_ahead" ["holes"] uf) (h_laid_cover:rb P w K mg base k "laid_cover" ["book","words","place","kind","cover"] (oo κ)) (h_rows_in_order:Has P w K mg base k "rows_in_order" ["steps","holes","order","boxes"] wj) (h_steps_below:Has P w K mg base k "steps_below" ["steps"] sv) (D:Def K mg "rows_of" kg ["book","words","kind","cover"]):rb P w K mg base (k+1) "rows_of" ["book","words","kind","cover"] (sd κ):=by
 refine D.hasX Fi (λvs H Q E h=>?_) (λf cdv A outer s H vs Q E hr h=>?_)
 ·obtain ⟨_,_,_,_,_,_,_,_,rfl,_,_,_,_,_,_,_,_,_,_,_,_,_⟩:=h;rfl
 have nd:=Fi.nd;have hu:=br hr;have hu0:=aae hu;obtain ⟨b,wt,ct,kinds,rd,ws,kd,ns,rfl,hB,hW,hC,bk,tw,h0,hkd,hkz,hnz,hnl,hrd,q,e⟩:=h;refine ⟨_,(A5 (A9 4 nd (@Ju _ _ _ _ _ _ _ _ _ _ _ h_laid_cover hr (A1 (A0 0) (A1 (A0 1) (A1 (A3 0) (A1 (A0 2) `aP)))) rfl `c rfl rfl)) (A5 (A9 5 nd (AD h_steps_below hr (A1 (A0 4) (A2 0)))) (A5 (A9 6 nd (AD h_holes_ahead hr (A1 (A0 5) (A2 0)))) (A5 (A9 7 nd (AD h_counted_boxes hr (A1 (A0 4) `a9))) (A7 (AE (A8 (A1 (AD h_rows_in_order hr (A1 (A0 4) (A1 (A0 5) (A1 (A0 6) (A1 (A0 7) (A2 0)))))) (A1 (A6 (AO 0) (BD hu (A0 7) (A3 0)) (A3 0)) (A2 0)))))))))),?_⟩;rw[show start ["book","words","kind","cover","steps","holes","order","boxes"] [.ref b,.ref wt,.str kd,.ref ct]=[aA `Z,aA `aV,aA (.str kd),aA (.ref ct),none,none,none,none] from rfl];clear hu hu0 nd hr;push_cast [and_true];have sz:=aQ;refine Lb (p:=0) hB hW hC bk tw h0 hkd hkz hnz (by omega) (λds hds sl as H1 s1 l1 D1=>?_) λhn H1 s1=>e hn H1 s1;obtain ⟨es,ees,erd,E1⟩:=D1.steps;have dl:ds.length≤1000:=by rw[(vm hds).1];exact hnl
 have pe:pend 1 (ff ds)=aA 0:=qg bk hds;have esl:es.length=ds.length:=by rw[←ees,aa0]
 have arl:(ff ds).length=ds.length:=aa0 _;obtain ⟨o1,o2,o3,o4,o5⟩:=Sg pe;have hE:∀x∈es,EsOk x:=λx hx=>by
  have r:=hrd _ (erd x hx);have u:=Bg bk hds (x.1.1,x.2) (by rw[←ees];exact ac2 hx);have u1:x.2.ns.length≤100:=u.1;have u2:x.2.vs.length≤100:=u.2;exact ⟨⟨λd hd=>(r.w d hd).1,r.n⟩,by omega,by omega,λd hd=>(r.w d hd).2.2,λd hd=>(r.w d hd).2.1⟩
 have hN:∀p,p < es.length→1≤nbE es p:=λp hp=>Dk.nb (λx hx=>hrd _ (erd x hx)) hp;refine My l1 D1 pe dl λhl rs H2 s2 h2 rl2 L2=>?_;refine Q4 h2 L2 (by omega) pe (by omega) λol H3 s3 h3=>?_;have s13:=s2.trans s3;refine Lh (s13 _ _ l1) (E1.tk (TK.of s13)) h3 o1 (λo ho=>by have:=o3 o ho;omega) (λx hx=>(hE x hx).dy) (by omega) λd H4 s4 hd4 B4=>?_;have s14:=s13.trans s4;push_cast [and_true];have z0:=o3 0 o5;refine Tj (s14 _ _ l1) (E1.tk (TK.of s14)) ((s3.trans s4) _ _ h2) (L2.same (s3.trans s4)) (by omega) (s4 _ _ h3) B4 (λo ho=>by have:=o3 o ho;omega) hE (λo ho=>⟨by have:=Iq (ar:=ff ds) o;omega,λq hq=>⟨o4 o ho q hq,hN q (by have:=o3 q (o4 o ho q hq);omega)⟩⟩) (by omega) λl bs H5 s5 hl5 h5 T5=>?_;obtain ⟨kvs,k1,k2,k3⟩:=B4.same s5;obtain ⟨lo,n1,n2,n3⟩:=k3 0 o5;have hn0:=hN 0 (by omega);obtain ⟨kk,hkk⟩:∃kk,nbE es 0=kk+1:=⟨nbE es 0 - 1,by omega⟩;rw[hkk,aep] at n3;refine ⟨.ref lo,by rw[←n2];exact gn.k (k:=cK ((0:Nat):Int)) k1,az n3 (ay (j:=0) rfl) ⟨by show (2:Nat)≤sizeLine;decide,λt ht=>?_⟩⟩;have s6:=ae ht (.tup [V.ref l,plV (baseOf (nbE es) (post (ff ds) 0) 0 0)]);have S5:=s1.trans (s14.trans s5);exact q ds hds es t l bs _ ees erd (S5.trans s6) (S5.free ht) aa ((s1.trans s14).free hl5) (s6 _ _ h5) (T5.tk (TK.of s6))
noncomputable abbrev qm:Stmt:=top 46
theorem J7:av ["rule","used","word"] ["rule"] (af qm):=⟨rfl,rfl,rfl,by decide+kernel,rfl,by decide+kernel,by decide+kernel⟩
theorem Ow (G:Gs w K mg κ) (D:Def K mg "_law_used" qm ["rule"]):Has P w K mg base (k+1) "_law_used" ["rule"] oj:=by
 refine D.has J7 (λvs H Q E h=>?_) (λf cdv A outer s H vs Q E hr h=>?_)
 ·obtain ⟨_,_,rfl,_,_,_⟩:=h;rfl
 have nd:=J7.nd;have hu:=br hr;have hu0:=aae hu;obtain ⟨ra,r,rfl,hR,hok,q⟩:=h;have m_len:=G.m_len;refine ⟨_,(A5 (A9 1 nd (AQ `aD)) (A5 (AZ (BP (AQ (AW `F))) (AN 2 nd (by first | exact ab5 rfl | exact ab3 rfl)) (A7 (AK (AI (@jh _) (AJ (AS 0) m_len cm (A1 (BI (B8 ["deed"] ["word"] [2] (aad rfl trivial) (aad (aad rfl (aad rfl rfl)) trivial)) (B7 (A6 (AA 0) (A0 0) (A3 0))) (λ_ _ _=>(B9 0 (show abj (["deed","word"]:List Str) by decide+kernel))) (λ_ _ _=>(BS (BV (@qh _ K rfl) (AH 1) (BJ (@j6 _) (A0 0) (BL (A3 0)) (BK 0))))) (λ_ _ _=>(A0 0))) (A2 0))) (A3 0) (AF 0)) (A7 (AU (AV aM aS aT (AY 0) (A0 1) (A1 (AH 2) (A2 0))))) (AL 0)))) (A7 (AE (A0 1))))),?_⟩;rw[show start ["rule","used","word"] [.ref ra]=[aA (.ref ra),none,none] from rfl];clear hu hu0 nd hr;push_cast [and_true];have sz:=aQ;obtain ⟨sa,da,r1,r2,as0,r3,r4⟩:=id hR;have al:=r4.1;have dl:=hok.n;refine ⟨by show (1:Nat)≤sizeLine;decide,λul hul=>?_⟩;have s1:=ae hul (.lst [V.str `k]);have e1:upd H ul (.lst [V.str `k]) ul=aA (.lst [V.str `k]):=aa;generalize upd H ul (.lst [V.str `k])=H1 at s1 e1 ⊢;refine ⟨by show (3:Nat)≤sizeLine;decide,λwl hwl=>?_⟩;have s2:=ae hwl (.lst (tS.map V.str));have e2:upd H1 wl (.lst (tS.map V.str)) wl=aA (.lst (tS.map V.str)):=aa;have nuw:wl≠ul:=(ao e1 hwl).symm;refine ⟨⟨_,SqL.of e2⟩,?_⟩;refine j4 (xs:=tS.map V.str) (λj σ H'=>∃v2:Option V,σ=[aA (.ref ra),aA (.ref ul),v2]∧ah H H'∧H' wl=aA (.lst (tS.map V.str))∧H' ul=aA (.lst ((aB "out"::(tS.take j).filter λb=>x6 b r.2).map V.str))) ⟨none,rfl,s1.trans s2,e2,s2 _ _ e1⟩ (λj σ H' _ h=>by obtain ⟨_,_,_,z,_⟩:=h;exact SqL.of z) ?_ ?_
 ·rintro j y σ H5 hy ⟨v2,rfl,s5,w5,u5⟩;rw[aa4] at hy;obtain ⟨b,hb,rfl⟩:=Option.map_eq_some_iff.mp hy;have hj:j < 3:=(List.getElem?_eq_some_iff.mp hb).1;have et:(tS.take (j+1)).filter (λb=>x6 b r.2)=(tS.take j).filter (λb=>x6 b r.2)++if x6 b r.2=true then [b] else []:=by
   rw[aar,hb,abv];congr 1
   show [b].filter _=_
   rw[ab2];rfl
  have fle:((tS.take j).filter λb=>x6 b r.2).length≤3:=ab6 (ade _ _) (by rw[aau];omega);push_cast [and_true];refine ag (s5 _ _ r1) rfl ⟨da,rfl,⟨_,SqT.of (s5 _ _ r3)⟩,λD hD=>?_⟩;refine km (xs:=as0.map V.ref) (λi ys=>ys.length=((r.2.take i).filter λx=>inV (.str b) (x.drop 1)).length) (SqT.of (s5 _ _ r3)) (by rw[aa0];omega) hD rfl (λi x ys H6 G' K' hx hP hl2 hS' hG hK'=>?_) λys H6 hP hl2 hS' hD2=>?_
  ·rw[aa4] at hx;obtain ⟨ai,hai,rfl⟩:=Option.map_eq_some_iff.mp hx;have hi:i < r.2.length:=by rw[←al];exact (List.getElem?_eq_some_iff.mp hai).1
   have hk:=aa1 hi;obtain ⟨ai',hai',hdeed⟩:=r4.2 i _ hk;obtain rfl:ai'=ai:=aa7 (hai'.symm.trans hai);obtain ⟨hw,hx1,hx2⟩:=hok.w _ (aaf hi);generalize r.2[i]=x at hk hdeed hw hx1 hx2;have ef:(r.2.take (i+1)).filter (λx=>inV (.str b) (x.drop 1))=(r.2.take i).filter (λx=>inV (.str b) (x.drop 1))++if inV (.str b) (x.drop 1)=true then [x] else []:=by
    rw[aar,hk,abv];congr 1
    show [x].filter _=_
    rw[ab2];rfl
   push_cast [and_true];refine ko ((s5.trans hS') _ _ hdeed) λp7 H7 s7 e7=>?_;rw[show ir x (aA 1) none=x.drop 1 from ma x 1 0 (by omega)] at e7;push_cast [rIn];refine ⟨_,.inr (SqT.of e7),rfl,List.all_eq_true.mpr λv hv=>(hw v (adn hv)).flat,de (λc=>?_) λc=>?_⟩
   ·refine hK' _ _ s7 ?_;rw[ef,if_pos c,aa2,aa2,hP];rfl
   ·refine hG _ s7 ?_;rw[ef,if_neg c,ab1];exact hP
  ·rw[aa0,al,aaw (aa3 _)] at hP;have u6:=hS' _ _ u5;refine ⟨_,.inl (SqL.of hD2),?_⟩;rw[hP];refine de (λc=>?_) λc=>?_
   ·have c':x6 b r.2=true:=any_filter.mp (by omega);refine b8 u6 (by rw[aa0,aa8];omega) ⟨(s5.trans hS').upd hul _,by rw[ak nuw];exact hS' _ _ w5,?_⟩;rw[aa,et,if_pos c',aaa];rfl
   ·have c':¬x6 b r.2=true:=λz=>c (by have:=any_filter.mpr z;omega);refine ⟨s5.trans hS',hS' _ _ w5,?_⟩;rw[et,if_neg c',ab1];exact u6
 ·rintro σ H5 ⟨v2,rfl,s5,w5,u5⟩;push_cast [and_true];exact q ul H5 s5 hul u5
noncomputable abbrev pz:Stmt:=top 45
theorem J4:av ["word","boxes","found"] ["word","boxes","found"] (af pz):=⟨rfl,rfl,rfl,by decide+kernel,rfl,by decide+kernel,by decide+kernel⟩
theorem Ol (G:Gs w K mg κ) (D:Def K mg "_law_thing" pz ["word","boxes","found"]):Has P w K mg base (k+1) "_law_thing" ["word","boxes","found"] oh:=by
 refine D.has J4 (λvs H Q E h=>?_) (λf cdv A outer s H vs Q E hr h=>?_)
 ·obtain ⟨_,_,_,_,_,_,_,rfl,_,_,_,_⟩:=h;rfl
 have nd:=J4.nd;have hu:=br hr;have hu0:=aae hu;obtain ⟨d,t,m,n,u,w,v,rfl,hD,hU,hT,q⟩:=h;have m_int:=G.m_int;have m_isinstance:=G.m_isinstance;refine ⟨_,(A5 (AK (BC (AJ (BE 0) m_isinstance bu (A1 (A0 0) (A1 (BF m_int xm) (A2 0))))) (A7 (AE (A0 0))) (AL 0)) (A5 (AK (BX (@Iu _ _ _ _ _ hu (A0 0) (A0 1)) (by first | exact gk _ (by decide) (by decide) | rfl)) (A7 (AE (BD hu (A0 1) (A0 0)))) (AL 0)) (A7 (AE (A6 (AA 0) (A6 (AA 0) (A0 2) (BD hu (@Ko _ _ _ _ _ (C6 (AC 0) (A3 0) (C6 (AC 0) (A3 0) (@Jz _ _))) rfl rfl (λe=>nomatch e) `a) (A6 (@G1 _) (A0 0) (A3 0)))) (A4 (BH 0) (B0 (@Cv _) m_int xm (A1 (BJ (@sl_str _) (A0 0) (BL (A3 0)) (BK 0)) (A2 0))) (A3 0))))))),?_⟩;rw[show start ["word","boxes","found"] [w,.ref d,.ref t]=[aA (w),aA `aY,aA `N] from rfl];clear hu hu0 nd hr;push_cast [and_true];have sz:=aQ;obtain ⟨t1,t2,t3,u1,u2,u3,u4⟩:=hU;have gt:∀z,gn H d `Q (m z):=λz=>by
  obtain ⟨kvs,h1,h2,h3,h4⟩:=hD;rw[←h3 z];exact gn.k (k:=aP z) h1
 push_cast [Nx,ze];cases hT with
 | int i=>exact ⟨_,.int i,true,rfl,Fu (q H `aM)⟩
 | box h=>
  rename_i z
  exact ⟨_,.str z,false,rfl,rg ⟨aA v,by rw[←h];exact gt z,Fu ⟨v,by rw[←h];exact gt z,q H `aM⟩⟩⟩
 | num hj hm h=>
  rename_i j
  refine ⟨_,.str _,false,rfl,rg ⟨none,by rw[←hm];exact gt _,rg ?_⟩⟩;obtain ⟨f1,f2,f3,f4⟩:=Bi 110 `O j hj;intro p hp;refine ⟨aa,[(aP (aB "n"),V.int 1),(aP (aB "v"),V.int 2)],rfl,by show (2:Nat)≤15;decide,?_⟩;have S:ah H (upd (upd H p (.dK [])) p (.dK `aC)):=(ae hp _).upd hp _;refine ⟨_,0,110,rfl,rfl,by omega,f1,.int 1,?_,ag (S _ _ u1) rfl ⟨_,rfl,by omega,_,f2,f4,ag (S _ _ u3) (by rw[show ((j+1:Nat):Int) - 1=(j:Int) by omega];exact ay h) (q _ S)⟩⟩;rw[show aA (V.int 1)=dk `aC (aP (⟨#[110]⟩:Str)) by decide+kernel];exact gn.k (k:=aP (⟨#[110]⟩:Str)) aa
 | name hj hm h=>
  rename_i j
  refine ⟨_,.str _,false,rfl,rg ⟨none,by rw[←hm];exact gt _,rg ?_⟩⟩;obtain ⟨f1,f2,f3,f4⟩:=Bi 118 (.inr rfl) j hj;intro p hp;refine ⟨aa,[(aP (aB "n"),V.int 1),(aP (aB "v"),V.int 2)],rfl,by show (2:Nat)≤15;decide,?_⟩;have S:ah H (upd (upd H p (.dK [])) p (.dK `aC)):=(ae hp _).upd hp _;refine ⟨_,0,118,rfl,rfl,by omega,f1,.int 2,?_,ag (S _ _ u1) rfl ⟨_,rfl,by omega,_,f2,f4,ag (S _ _ u4) (by rw[show ((j+1:Nat):Int) - 1=(j:Int) by omega];exact ay h) (q _ S)⟩⟩;rw[show aA (V.int 2)=dk `aC (aP (⟨#[118]⟩:Str)) by decide+kernel];exact gn.k (k:=aP (⟨#[118]⟩:Str)) aa
noncomputable abbrev qe:Stmt:=top 48
theorem Jf:av ["found","rows","box","k","row","item"] ["found","rows","box"] (af qe):=⟨rfl,rfl,rfl,by decide+kernel,rfl,by decide+kernel,by decide+kernel⟩
theorem Qf (G:Gs w K mg κ) (D:Def K mg "_law_same" qe ["found","rows","box"]):Has P w K mg base (k+1) "_law_same" ["found","rows","box"] wg:=by
 refine D.has Jf (λvs H Q E h=>?_) (λf cdv A outer s H vs Q E hr h=>?_)
 ·obtain ⟨_,_,_,_,_,_,_,rfl,_,_,_,_,_,_,_,_,_⟩:=h;rfl
 have nd:=Jf.nd;have hu:=br hr;have hu0:=aae hu;obtain ⟨f1,l,rl,bs,cs,R,x,rfl,hF,hL,hB,hRl,hC,hw,hx,hn,q⟩:=h;have m_bool:=G.m_bool;have m_enumerate:=G.m_enumerate;have m_int:=G.m_int;have m_isinstance:=G.m_isinstance;have m_len:=G.m_len;have m_list:=G.m_list;have m_tuple:=G.m_tuple;refine ⟨_,(A5 (AK (BO (BR (BW (BC (AJ (BE 0) m_isinstance bu (A1 (A0 0) (A1 (BF m_tuple dq) (A2 0)))))) (BR (AI (@Jb _) `aH (A3 0) (AF 0)) (BR (BW (BC (AJ (BE 0) m_isinstance bu (A1 `E (A1 (BF m_list Dv) (A2 0)))))) (C1 (AI (@Jb _) (AJ (AS 0) m_len cm (A1 `E (A2 0))) (AJ (AS 0) m_len cm (A1 (A0 1) (A2 0))) (AF 0))))))) (A7 (AE (BY 0))) (AL 0)) (A5 (AZ (C9 m_enumerate (A1 (A0 1) (A2 0))) (BM 2 (B5 (AN 3 nd (by first | exact ab5 rfl | exact ab3 rfl)) (B5 (AN 4 nd (by first | exact ab5 rfl | exact ab3 rfl)) (BN 0)))) (A5 (AK (BO (BR (BW (BC (AJ (BE 0) m_isinstance bu (A1 (A6 (AO 0) (A6 (AA 0) (A0 0) (A3 0)) (A0 3)) (A1 (BF m_tuple dq) (A2 0)))))) (C1 (AI (@op_neK _ hu0) (A6 (AO 0) (A6 (AA 0) (A0 0) (A3 0)) (A0 3)) (A0 4) (AF 0))))) (A7 (AE (BY 0))) (AL 0)) (A7 (AZ (B7 (A6 (AO 0) (A6 (AA 0) (A0 0) (A3 0)) (A0 3))) (AN 5 nd (by first | exact ab5 rfl | exact ab3 rfl)) (A7 (AK (BC (AJ (BE 0) m_isinstance bu (A1 (A0 5) (A1 (BF m_bool Mr) (A2 0))))) (A7 (AE (BY 0))) (AL 0))))))) (A7 (AE (@Hl _ _ _ _ _ _ _ (AJ (BE 0) m_isinstance bu (A1 (A6 (AA 0) (A0 0) (A3 0)) (A1 (BF m_int xm) (A2 0)))) (@Hl _ _ _ _ _ _ _ (@Pk _ _ _ _ (AJ (BE 0) m_isinstance bu (A1 (A6 (AA 0) (A0 0) (A3 0)) (A1 (BF m_bool Mr) (A2 0))))) (@Pm _ _ _ _ _ (C3 (AR 0) (A6 (AA 0) (A0 0) (A3 0)) (A0 2) (AF 0))))))))),?_⟩;rw[show start ["found","rows","box","k","row","item"] [.ref f1,.ref rl,.int x]=[aA (.ref f1),aA (.ref rl),aA (.int x),none,none,none] from rfl];clear hu hu0 nd hr;push_cast [and_true];have sz:=aQ;have bl:=hB.1;have cl:=hC.1;refine ⟨_,.tup hF,true,rfl,rg ⟨_,.inr (SqT.of hF),rfl,ifN (λn=>absurd (show (([V.ref l,V.int x]:List V).length:Int)=2 from rfl) n) λ_=>?_⟩⟩;refine ag hF rfl ⟨_,.lst hL,true,rfl,rg (ag hF rfl ⟨_,.inl (SqL.of hL),_,.inl (SqL.of hRl),rfl,ifN (λn=>absurd (by rw[aa0,aa0,bl,cl]) n) λ_=>?_⟩)⟩;push_cast [iEnum];refine ⟨⟨_,SqL.of hRl⟩,?_⟩;refine uy (xs:=cs.map V.ref) (λk σ H'=>∃(v3 v4 v5:Option V),σ=[aA (.ref f1),aA (.ref rl),aA (.int x),v3,v4,v5]∧ah H H') ⟨none,none,none,rfl,ah.refl _⟩ (λi σ H' _ h=>by obtain ⟨_,_,_,_,s⟩:=h;exact SqL.of (s _ _ hRl)) ?_ ?_
 ·rintro j y σ H5 p5 hy ⟨v3,v4,v5,rfl,s5⟩ hp5;rw[aa4] at hy;obtain ⟨cj,hcj,rfl⟩:=Option.map_eq_some_iff.mp hy;have hj:j < R.length:=by rw[←cl];exact (List.getElem?_eq_some_iff.mp hcj).1
  have hk:=aa1 hj;obtain ⟨cj',hcj',ec⟩:=hC.2 j _ hk;obtain rfl:cj'=cj:=aa7 (hcj'.symm.trans hcj);obtain ⟨bj,hbj,eb⟩:=hB.2 j _ hk;have hwj:=hw _ (aaf hj);have hxj:=hx _ (aaf hj);generalize R[j]=r at hk ec eb hwj hxj;refine fm aa rfl ?_;have s6:=s5.trans (ae hp5 (.tup [V.int (j:Int),V.ref cj']));generalize upd H5 p5 (.tup [V.int (j:Int),V.ref cj'])=H6 at s6 ⊢;have atb:atI (bs.map V.ref) (j:Int)=aA (.ref bj):=ay (by rw[aa4,hbj];rfl);push_cast [and_true];refine ag (s6 _ _ hF) rfl (az (s6 _ _ hL) atb ⟨_,.tup (s6 _ _ eb),true,rfl,rg (ag (s6 _ _ hF) rfl (az (s6 _ _ hL) atb ?_))⟩);obtain ⟨ks,rfl⟩:=J0 hwj;refine ⟨_,_,ks,ks,rfl,rfl,.inl ⟨SqT.of (s6 _ _ eb),SqT.of (s6 _ _ ec)⟩,?_⟩;push_cast [and_true];rw[if_neg `b];refine ag (s6 _ _ hF) rfl (az (s6 _ _ hL) atb ⟨_,rfl,⟨_,SqT.of (s6 _ _ eb)⟩,?_⟩);refine gg (xs:=ks.map kV) (λi σ H'=>∃v5:Option V,σ=[aA (.ref f1),aA (.ref rl),aA (.int x),aA (.int (j:Int)),aA (.ref cj'),v5]∧ah H H') ⟨_,rfl,s6⟩ (λi σ H' _ h=>by obtain ⟨_,_,s⟩:=h;exact SqT.of (s _ _ eb)) ?_ ?_
  ·rintro i y σ H7 hy ⟨w5,rfl,s7⟩;rw[aa4] at hy;obtain ⟨kk,hkk,rfl⟩:=Option.map_eq_some_iff.mp hy;push_cast [and_true];cases kk with
   | inl i0=>exact ⟨_,.int i0,false,rfl,rg s7⟩
   | inr z=>exact ⟨_,.str z,false,rfl,rg s7⟩
  ·rintro σ H7 ⟨w5,rfl,s7⟩;exact ⟨⟨_,_,_,rfl⟩,s7⟩
 ·rintro σ H5 ⟨v3,v4,v5,rfl,s5⟩;push_cast [and_true];refine ag (s5 _ _ hF) rfl ⟨_,.int x,true,rfl,Fu (ag (s5 _ _ hF) rfl ⟨_,.int x,false,rfl,Fu (ag (s5 _ _ hF) rfl ⟨rfl,?_⟩)⟩)⟩;rw[decide_eq_true rfl];exact q H5 s5
noncomputable abbrev Du:Stmt:=top 47
theorem wy:av ["book","words","place","cover","at","rows","count","rule","found","boxes","k","hole","told_box","word","deed"] ["book","words","place","cover","at","rows","count"] (af Du):=⟨rfl,rfl,rfl,by decide+kernel,rfl,by decide+kernel,by decide+kernel⟩
theorem Om (G:Gs w K mg κ) (h_law_fit:Has P w K mg base k "_law_fit" ["kinds","shape","words","place"] ph) (h_law_rows:Has P w K mg base k "_law_rows" ["book","words","place","cover","at","rows","count"] (jd n)) (h_law_rule:Has P w K mg base k "_law_rule" ["book","name"] nj) (h_law_thing:Has P w K mg base k "_law_thing" ["word","boxes","found"] oh) (h_law_used:Has P w K mg base k "_law_used" ["rule"] oj) (D:Def K mg "_law_rows" Du ["book","words","place","cover","at","rows","count"]):Has P w K mg base (k+1) "_law_rows" ["book","words","place","cover","at","rows","count"] (jd (n+1)):=by
 refine D.has wy (λvs H Q E h=>?_) (λf cdv A outer s H vs Q E hr h=>?_)
 ·obtain ⟨_,_,_,_,_,_,_,_,_,_,_,_,_,_,_,rfl,_,_,_,_,_,_,_,_,_,_,_,_,_⟩:=h;rfl
 have nd:=wy.nd;have hu:=br hr;have hu0:=aae hu;obtain ⟨b,wt,ct,rl,cl,kinds,rd,ws,es,pq,fb,p,s1,c,as,rfl,hB,hW,bk,tw,hC,hT,hRl,hCl,hs,hsn,hal,hf,q⟩:=h;have m_enumerate:=G.m_enumerate;have m_str:=G.m_str;have m_tuple:=G.m_tuple;refine ⟨_,(A5 (A9 7 nd (AD h_law_rule hr (A1 (A0 0) (A1 (A6 (AA 0) (A0 3) (A0 4)) (A2 0))))) (A5 (BT 8 nd (AD h_law_fit hr (A1 `E (A1 `aT (A1 (A0 1) (A1 (A0 2) (A2 0))))))) (A5 (BT 9 nd (@Fe _ _)) (A5 (A9 4 nd (A4 (AM 0) (A0 4) (A3 0))) (A5 (AZ (@Lk _ _ _ _ _ _ _ _ rfl m_enumerate (A1 (A6 (AA 0) (AH 8) (A3 0)) (A2 0)) rfl) (BM 2 (B5 (AN 10 nd (by first | exact ab5 rfl | exact ab3 rfl)) (B5 (AN 11 nd (by first | exact ab5 rfl | exact ab3 rfl)) (BN 0)))) (A5 (BQ (AD h_law_rows hr (A1 (A0 0) (A1 (A0 1) (A1 (A0 11) (A1 (A0 3) (A1 (A0 4) (A1 (A0 5) (A1 (A0 6) (A2 0))))))))) (BM 2 (B5 (AN 12 nd (by first | exact ab5 rfl | exact ab3 rfl)) (B5 (AN 4 nd (by first | exact ab5 rfl | exact ab3 rfl)) (BN 0))))) (A7 (C5 hu (AH 9) (A4 (@gu _) (AC 0) (B0 (@iq _) m_str An (A1 (A4 (AM 0) (A0 10) (A3 0)) (A2 0)))) (A0 12))))) (A5 (AZ (BP (AD h_law_used hr (A1 (A0 7) (A2 0)))) (AN 13 nd (by first | exact ab5 rfl | exact ab3 rfl)) (A5 (C5 hu (AH 9) (A0 13) (A6 (AO 0) (A0 6) (A3 0))) (A7 (BQ (A4 (AM 0) (A6 (AO 0) (A0 6) (A3 0)) (A3 0)) (C7 (A0 6) (A3 0) (@set_list _)))))) (A5 (AZ (B7 (A6 (AA 0) (A0 7) (A3 0))) (AN 14 nd (by first | exact ab5 rfl | exact ab3 rfl)) (A7 (AU (AV aM aS aT (AY 0) (A0 5) (A1 (A4 (B6 0) (A8 (A1 (A6 (AA 0) (A0 14) (A3 0)) (A2 0))) (B0 (BB 0) m_tuple dq (A1 (BI (B8 ["word"] ["boxes","found"] [9,8] (aad rfl (aad rfl trivial)) (aad (aad rfl (aad rfl rfl)) (aad (aad rfl (aad rfl rfl)) trivial))) (B7 (BJ (@j6 _) (A0 14) (BL (A3 0)) (BK 0))) (λ_ _ _=>(B9 0 (show abj (["word","boxes","found"]:List Str) by decide+kernel))) (λ_ _ _=>(@zy _)) (λ_ _ _=>(AD h_law_thing hr (A1 (A0 0) (A1 (AH 1) (A1 (AH 2) (A2 0))))))) (A2 0)))) (A2 0)))))) (A7 (AE (A8 (A1 (BD hu (AH 9) (AC 0)) (A1 (A0 4) (A2 0))))))))))))),?_⟩;rw[show start ["book","words","place","cover","at","rows","count","rule","found","boxes","k","hole","told_box","word","deed"] [.ref b,.ref wt,.int (pq p:Nat),.ref ct,.int (p:Nat),.ref rl,.ref cl]=[aA `Z,aA `aV,aA (.int (pq p:Nat)),aA (.ref ct),aA (.int (p:Nat)),aA (.ref rl),aA (.ref cl),none,none,none,none,none,none,none,none] from rfl];clear hu hu0 nd hr;push_cast [and_true];have sz:=aQ;obtain ⟨hp,hbel,m0,hm0,es1⟩:=fz hs;have arl:(arE es).length=es.length:=aa0 _;obtain ⟨e,he⟩:∃e,es[p]?=aA e:=⟨_,aa1 (by omega)⟩;have hem:=aai he;have ea:(arE es).getD p 0=e.2.hs.length:=by unfold arE;rw[aaj,aa4,he];rfl
 rw[ea] at hbel hm0;obtain ⟨i0,hi0⟩:=abm (hT.rd e hem);obtain ⟨hl1,hl2⟩:=hT.laid p e he;obtain ⟨th1,th2,th3,th4,th5⟩:=hT.thing bk.kd he;have rok:=Mk.rd (hT.md e hem);have nd:=Hy hs;have hpe:=post_eq hs;have hrd:e.1.1∈rd.map (·.1):=ac2 (hT.rd e hem);obtain ⟨sh1,sh2,sh3⟩:=bk.sh _ hrd;have nrc:rl≠cl:=jq hRl hCl (by intro z;cases as <;> simp at z);obtain ⟨kt,rt,ra0,b1,b2,b3,b4⟩:=id hB;refine ag hC (ay (by rw[aa4,he];rfl)) ?_;refine Rw hB bk.nd (by have:=bk.len;rw[aa0] at this;exact this) hi0 λra H1 sA hR=>?_;obtain ⟨sa,da,r1,r2,as0,r3,r4⟩:=id hR;refine ag (sA _ _ b1) rfl (ag r1 rfl ?_);refine M0 (sA _ _ b2) r2 (sA _ _ hW) bk.kd sh1 sh2 sh3 tw (hT.pw p (by omega)) λH2 sB=>?_;rw[hl1];intro ut H3 sC hU hUok d hd;have s3:=sA.trans (sB.trans sC);have s13:=sB.trans sC;obtain ⟨u1,u2,u3,ua,ub,uc,ud⟩:=id hU;have hB3:=hB.same s3;have hR3:=hR.tk (TK.of s13);have ndr:d≠rl:=(ao (s3 _ _ hRl) hd).symm;have ndc:d≠cl:=(ao (s3 _ _ hCl) hd).symm;have s4:=ae hd (.dK []);have D4:DM (upd H3 d (.dK [])) d (λ_=>none) 0:=⟨[],aa,aa3 _,λ_=>rfl,λ_=>rfl⟩;have tk3:∀{H'},b7 rl cl H3 H'→TK H3 H':=λs=>s.tk (s3 _ _ hRl) (s3 _ _ hCl);have c4:b7 rl cl H3 (upd H3 d (.dK [])):=b7.of s4;generalize upd H3 d (.dK [])=H4 at s4 D4 c4 ⊢;push_cast [Jv];refine ag (s4 _ _ ua) rfl ⟨_,rfl,⟨_,SqT.of (s4 _ _ ub)⟩,?_⟩;obtain ⟨kids,hkids⟩:∃kids,kids=bb `x p:=⟨_,rfl⟩;rw[←hkids] at hbel hl2 hpe;have kl:kids.length=e.2.hs.length:=by rw[←hl2,aa0]
 obtain ⟨Pv,ePv⟩:∃Pv:Nat→L2.St→Hp→Prop,∀i σ H',Pv i σ H'↔∃(pos m:Nat) (bs:List Addr) (v10 v11 v12:Option V),σ=[aA `Z,aA `aV,aA (.int (pq p:Nat)),aA (.ref ct),aA (.int (pos:Nat)),aA (.ref rl),aA (.ref cl),aA (.ref ra),aA (.ref ut),aA `aY,v10,v11,v12,none,none]∧b7 rl cl H3 H'∧m7 `x (e.2.hs.length - i) pos=kids.drop i∧eat (e.2.hs.length - i) ((arE es).drop pos)=aA m∧pos+m=p+s1∧pos=p+1+((kids.take i).flatMap (post `x)).length∧H' rl=aA `bd∧H' cl=aA (.lst [.int (c+sumOf (nbE es) ((kids.take i).flatMap (post `x)):Nat)])∧bc H' bs (((kids.take i).flatMap (post `x)).flatMap (gd es `x fb))∧DM H' d (putL `aR ((kids.take i).map λq=>V.int (fb q:Nat)) 0 λ_=>none) i:=⟨_,λ_ _ _=>abu⟩;refine Eg (xs:=e.2.hs.map plV) Pv ?_ (λi σ H' _ h=>?_) ?_ ?_
 ·exact (ePv _ _ _).mpr ⟨p+1,m0,[],none,none,none,rfl,c4,hbel.symm,hm0,by omega,rfl,by rw[ab1];exact s4 _ _ (s3 _ _ hRl),s4 _ _ (s3 _ _ hCl),bc.nil _,D4⟩
 ·obtain ⟨_,_,_,_,_,_,_,s,_⟩:=(ePv _ _ _).mp h;exact SqT.of (tk3 s _ _ ub)
 ·intro i x σ H5 t5 hx hh ht5;refine ob6 ((ePv _ _ _).mp hh) λpos m bs v10 v11 v12 hh=>?_;have s5:=hh.2.1;have k5:=hh.2.2.1;have e5:=hh.2.2.2.1;have l5:=hh.2.2.2.2.1;have n5:=hh.2.2.2.2.2.1;have r5:=hh.2.2.2.2.2.2.1;have c5:=hh.2.2.2.2.2.2.2.1;have T5:=hh.2.2.2.2.2.2.2.2.1;have D5:=hh.2.2.2.2.2.2.2.2.2;obtain rfl:=hh.1;clear hh;rw[aa4] at hx;obtain ⟨hx0,hx1,rfl⟩:=Option.map_eq_some_iff.mp hx;have hi:i < e.2.hs.length:=(List.getElem?_eq_some_iff.mp hx1).1;obtain ⟨k',ek⟩:∃k',e.2.hs.length - i=k'+1:=⟨e.2.hs.length - i - 1,by omega⟩;rw[ek] at k5 e5;obtain ⟨m1,g1,g2,g3,g4⟩:=nc e5;rw[jk g1] at k5;have hkd:kids.drop i=kids[i]::kids.drop (i+1):=aay (by omega);rw[hkd] at k5;obtain ⟨kp,kt5⟩:=abh k5;have hki:kids[i]?=aA pos:=by rw[kp];exact aa1 (by omega)
  have hx2:pq pos=hx0:=by
   have:(kids.map pq)[i]?=aA (pq pos):=by rw[aa4,hki];rfl
   rw[hl2,hx1] at this;exact (aa7 this).symm
  refine fm aa rfl ?_;have s6:=ae ht5 (.tup [V.int (i:Nat),plV hx0]);have f6:H3 t5=none:=s5.free6 ht5 r5 c5;generalize upd H5 t5 (.tup [V.int (i:Nat),plV hx0])=H6 at s6 ⊢;push_cast [and_true];subst hx2;have tkid:=Qe hki;have hsplit:post `x p=(kids.take i).flatMap (post `x)++(post `x pos++((kids.drop (i+1)).flatMap (post `x)++[p])):=by
   rw[hpe];conv=>lhs;rw[←ada i kids,hkd,←kp]
   rw[abp,aby,ac1,ac1]
  have fpos:∀x∈post `x pos,fb x=baseOf (nbE es) (post `x pos) (c+sumOf (nbE es) ((kids.take i).flatMap (post `x))) x:=λx hx=>by
   have hx':x∈post `x p:=by rw[hsplit];exact aao _ (abe _ hx)
   rw[hf x hx',hsplit];exact Px (by rw[←hsplit];exact nd) hx
  generalize hA:(kids.take i).flatMap (post `x)=A at n5 c5 T5 hsplit fpos;have bl:bs.length≤100*A.length:=by
   rw[T5.1];exact nq (λe he=>(Mk.ok (hT.md e he)).2.1) _ _ _
  refine Iy (pl:=pq) (f:=fb) (p:=pos) (s:=m1) (hB3.tk (tk3 (s5.trans (b7.of s6)))) (tk3 (s5.trans (b7.of s6)) _ _ (s3 _ _ hW)) bk tw (tk3 (s5.trans (b7.of s6)) _ _ (s3 _ _ hC)) hT (s6 _ _ r5) (s6 _ _ c5) g1 (by omega) (by rw[aa2];omega) fpos λt7 bs2 H7 s7 h7 r7 c7 T7=>?_;refine fm h7 rfl ?_;have S7:=s5.trans ((b7.of s6).trans s7);have D7:=(D5.same s6).sameC s7 ndr ndc;have T57:bc H7 bs (A.flatMap (gd es `x fb)):=T5.tk ((TK.of s6).trans (s7.tk (s6 _ _ r5) (s6 _ _ c5)));push_cast [and_true];obtain ⟨tx1,tx2⟩:=ka (n:=i+1) (by omega);have h1l:(aB "h").length=1:=by decide+kernel
  obtain ⟨H8,p8,D8,o8,e8⟩:=D7.put (by omega) (lab "h" (i+1)) (V.int (fb pos:Nat));refine ⟨tx2,by have:(Az (V.int ((i:Int)+1))).length≤2:=tx1;omega,H8,p8,(ePv _ _ _).mpr ⟨pos+m1,m - m1,bs++bs2,_,_,_,rfl,?_,?_,?_,by omega,?_,?_,?_,?_,?_⟩⟩
  ·rw[e8];exact S7.new hd _
  ·rw[show e.2.hs.length - (i+1)=k' by omega];exact kt5
  ·rw[show e.2.hs.length - (i+1)=k' by omega];exact g4
  ·rw[tkid,abp,hA,aa2,show [pos].flatMap (post `x)=post `x pos from ab1 _,j5 g1];omega
  ·rw[e8,ak ndr.symm,r7,ac1]
  ·rw[e8,ak ndc.symm,c7,tkid,abp,hA,Sa,show [pos].flatMap (post `x)=post `x pos from ab1 _,Nat.add_assoc]
  ·rw[tkid,abp,hA,Ar,show [pos].flatMap (post `x)=post `x pos from ab1 _,e8];obtain ⟨kvs7,d7,_⟩:=D7;exact (T57.app T7).tk (TK.put d7 (by intro _ z;cases z))
  ·rw[tkid,aaa];show DM H8 d (putL _ (_++[V.int (fb pos:Nat)]) 0 _) (i+1)
   rw[jt,aa0,aau,aca (by omega),abn,←lab_h];exact D8
 ·intro σ H5 hh;refine ob6 ((ePv _ _ _).mp hh) λpos m bs v10 v11 v12 hh=>?_;have s5:=hh.2.1;have k5:=hh.2.2.1;have e5:=hh.2.2.2.1;have l5:=hh.2.2.2.2.1;have n5:=hh.2.2.2.2.2.1;have r5:=hh.2.2.2.2.2.2.1;have c5:=hh.2.2.2.2.2.2.2.1;have T5:=hh.2.2.2.2.2.2.2.2.1;have D5:=hh.2.2.2.2.2.2.2.2.2;obtain rfl:=hh.1;clear hh;rw[aa0] at k5 e5 n5 c5 T5 D5;rw[ad0,i4] at e5;obtain rfl:0=m:=aa7 e5;rw[←kl,ac4] at n5 c5 T5 D5;clear k5 e5 hh ePv Pv;have hfp:fb p=c+sumOf (nbE es) (kids.flatMap (post `x)):=by
   rw[hf p (T1 hs),hpe];rw[hpe] at nd;exact Am λz=>(List.nodup_append.mp nd).2.2 p z p aa6 rfl
  generalize hA:kids.flatMap (post `x)=A at n5 c5 T5 hpe hfp;rw[←hfp] at c5;have bl:bs.length≤100*A.length:=by
   rw[T5.1];exact nq (λe he=>(Mk.ok (hT.md e he)).2.1) _ _ _
  push_cast [and_true];refine Vf (hR3.tk (tk3 s5)) rok λul H6 s6 hul h6=>?_;have nul:ul≠d∧ul≠rl∧ul≠cl:=by
   obtain ⟨kvs,d5,_⟩:=D5;exact ⟨(ao d5 hul).symm,(ao r5 hul).symm,(ao c5 hul).symm⟩
  refine ⟨_,rfl,⟨_,SqL.of h6⟩,?_⟩;obtain ⟨us,hus⟩:∃us,us=i7 e.1.2:=⟨_,rfl⟩;rw[←hus] at h6;obtain ⟨m0',hm0'⟩:∃m0':Str→Option V,m0'=putL `aR (kids.map λq=>V.int (fb q:Nat)) 0 (λ_=>none):=⟨_,rfl⟩;rw[←hm0'] at D5;obtain ⟨Pu,ePu⟩:∃Pu:Nat→L2.St→Hp→Prop,∀i σ H',Pu i σ H'↔∃(v13:Option V),σ=[aA `Z,aA `aV,aA (.int (pq p:Nat)),aA (.ref ct),aA (.int (pos:Nat)),aA (.ref rl),aA (.ref cl),aA (.ref ra),aA (.ref ut),aA `aY,v10,v11,v12,v13,none]∧b7 rl cl H3 H'∧H' ul=aA (.lst (us.map V.str))∧H' rl=aA `bd∧H' cl=aA (.lst [.int (fb p+i:Nat)])∧bc H' bs (A.flatMap (gd es `x fb))∧DM H' d (jm (us.take i) (fb p) m0') (kids.length+i):=⟨_,λ_ _ _=>abu⟩;have usl:us.length≤4:=by rw[hus,←th1];exact Cy _
  refine j4 (xs:=us.map V.str) Pu ((ePu _ _ _).mpr ⟨none,rfl,s5.trans (b7.of s6),h6,s6 _ _ r5,s6 _ _ c5,T5.tk (TK.of s6),D5.same s6⟩) (λi σ H' _ h=>?_) ?_ ?_
  ·obtain ⟨_,_,_,z,_⟩:=(ePu _ _ _).mp h;exact SqL.of z
  ·intro i x σ H7 hx hh;refine Exists.elim ((ePu _ _ _).mp hh) λv13 hh=>?_;have s7:=hh.2.1;have h7:=hh.2.2.1;have r7:=hh.2.2.2.1;have c7:=hh.2.2.2.2.1;have T7:=hh.2.2.2.2.2.1;have D7:=hh.2.2.2.2.2.2;obtain rfl:=hh.1;clear hh;rw[aa4] at hx;obtain ⟨z,hz,rfl⟩:=Option.map_eq_some_iff.mp hx;have hi:i < us.length:=(List.getElem?_eq_some_iff.mp hz).1;push_cast [and_true];refine az c7 (ay (j:=0) rfl) ?_;obtain ⟨H8,p8,D8,o8,e8⟩:=D7.put (by omega) z (V.int (fb p+i:Nat));refine ⟨H8,p8,?_⟩;have S8:b7 rl cl H3 H8:=by rw[e8];exact s7.new hd _
   have h8:H8 ul=aA (.lst (us.map V.str)):=by rw[e8,ak nul.1];exact h7
   have r8:H8 rl=aA `bd:=by rw[e8,ak ndr.symm];exact r7
   have c8:H8 cl=aA (.lst [.int (fb p+i:Nat)]):=by rw[e8,ak ndc.symm];exact c7
   have T8:bc H8 bs (A.flatMap (gd es `x fb)):=by
    rw[e8];obtain ⟨kvs7,d7,_⟩:=D7;exact T7.tk (TK.put d7 (by intro _ z;cases z))
   clear e8 p8;push_cast [gSub,J1];refine az c8 (ay (j:=0) rfl) ⟨_,c8,0,rfl,(ePu _ _ _).mpr ⟨_,rfl,S8.trans (b7.put2 _),by rw[ak nul.2.2];exact h8,by rw[ak nrc];exact r8,?_,T8.tk (TK.put c8 (by intro _ z;cases z)),?_⟩⟩
   ·rw[aa];rfl
   ·rw[aar,hz];show DM _ d (jm (us.take i++[z]) _ _) _
    rw[By,aau,aca (by omega)];exact D8.other ndc _
  ·intro σ H7 hh;refine Exists.elim ((ePu _ _ _).mp hh) λv13 hh=>?_;have s7:=hh.2.1;have h7:=hh.2.2.1;have r7:=hh.2.2.2.1;have c7:=hh.2.2.2.2.1;have T7:=hh.2.2.2.2.2.1;have D7:=hh.2.2.2.2.2.2;obtain rfl:=hh.1;clear hh;rw[aa0] at c7 D7;rw[ac4] at D7;clear hh ePu Pu;push_cast [and_true];have r13:=s13 _ _ r1;have r33:=s13 _ _ r3;have r43:=r4.tk (TK.of s13);have al:=r43.1;have dl:=rok.n;refine ag (tk3 s7 _ _ r13) rfl ⟨_,rfl,⟨_,SqT.of (tk3 s7 _ _ r33)⟩,?_⟩;obtain ⟨iz,hiz⟩:∃iz:List Int,iz=kids.map λq=>((fb q:Nat):Int):=⟨_,rfl⟩;have eM:jm us (fb p) m0'=Dm (i7 e.1.2) (fb p) iz:=by
    rw[hm0',hus,hiz];unfold Dm;rw[abd];rfl
   rw[eM] at D7;obtain ⟨Pd,ePd⟩:∃Pd:Nat→L2.St→Hp→Prop,∀j σ H',Pd j σ H'↔∃(v14:Option V) (cs:List Addr),σ=[aA `Z,aA `aV,aA (.int (pq p:Nat)),aA (.ref ct),aA (.int (pos:Nat)),aA (.ref rl),aA (.ref cl),aA (.ref ra),aA (.ref ut),aA `aY,v10,v11,v12,v13,v14]∧b7 rl cl H3 H'∧H' rl=aA (.lst ((as++(bs++cs)).map V.ref))∧H' cl=aA (.lst [.int (fb p+us.length:Nat)])∧bc H' bs (A.flatMap (gd es `x fb))∧DM H' d (Dm (i7 e.1.2) (fb p) iz) (kids.length+us.length)∧bc H' cs ((e.1.2.take j).map (rowOf `aE)):=⟨_,λ_ _ _=>abu⟩;refine gg (xs:=as0.map V.ref) Pd ((ePd _ _ _).mpr ⟨none,[],rfl,s7,by rw[ab1];exact r7,c7,T7,D7,bc.nil _⟩) (λi σ H' _ h=>?_) ?_ ?_
   ·obtain ⟨_,_,_,z,_⟩:=(ePd _ _ _).mp h;exact SqT.of (tk3 z _ _ r33)
   ·intro j x σ H8 hx hh;refine ob2 ((ePd _ _ _).mp hh) λv14 cs hh=>?_;have s8:=hh.2.1;have r8:=hh.2.2.1;have c8:=hh.2.2.2.1;have T8:=hh.2.2.2.2.1;have D8:=hh.2.2.2.2.2.1;have E8:=hh.2.2.2.2.2.2;obtain rfl:=hh.1;clear hh;rw[aa4] at hx;obtain ⟨aj,haj,rfl⟩:=Option.map_eq_some_iff.mp hx;have hj:j < e.1.2.length:=by rw[←al];exact (List.getElem?_eq_some_iff.mp haj).1
    have hk:=aa1 hj;obtain ⟨aj',haj',hdeed⟩:=r43.2 j _ hk;obtain rfl:aj'=aj:=aa7 (haj'.symm.trans haj);obtain ⟨hw,hx1,hx2⟩:=rok.w _ (aaf hj);have hmem:=aaf hj;generalize e.1.2[j]=x at hk hdeed hw hx1 hx2 hmem;push_cast [and_true];obtain ⟨x0,xt,rfl⟩:∃x0 xt,x=x0::xt:=by
     cases x with
     | nil=>cases hx1
     | cons a t=>exact ⟨a,t,rfl⟩
    rw[aa8] at hx2;have d8:=tk3 s8 _ _ hdeed;refine ⟨bf r8,ag d8 (ay (j:=0) rfl) ⟨by show (1:Nat)≤sizeLine;decide,λp9 hp9=>?_⟩⟩;have s9:=ae hp9 (.tup [x0]);have e9:upd H8 p9 (.tup [x0]) p9=aA (.tup [x0]):=aa;generalize upd H8 p9 (.tup [x0])=H9 at s9 e9 ⊢;refine ko (s9 _ _ d8) λpA HA sA9 eA=>?_;rw[show ir (x0::xt) (aA 1) none=xt from ma (x0::xt) 1 0 (by rw[aa8];omega)] at eA;have s8A:=s9.trans sA9;refine ⟨_,rfl,⟨_,SqT.of eA⟩,λD hD=>?_⟩;refine km (xs:=xt) (λi ys=>ys=(xt.take i).map (wOf `aE)) (SqT.of eA) (by omega) hD rfl (λi y ys HB G' K' hy hP hl2 hS' hG hK'=>?_) λys HB hP hl2 hS' hDl=>?_
    ·push_cast [and_true];refine Ry (D8.same (s8A.trans hS')) (hU.tk' ((tk3 s8).trans (TK.of (s8A.trans hS')))) (Ha (r:=e.1) (u:=e.2) th1 th2 (by rw[hiz,aa0,kl]) (by omega) th4 th5 hmem (show y∈xt from aai hy)) λHC sC9=>hK' _ _ sC9 ?_;rw[hP,aar,hy,aaa];rfl
    ·rw[ac4] at hP;have s8B:=s8A.trans hS';refine ⟨ys,.inl ⟨SqL.of hDl,λl hl=>?_⟩⟩;have sl:=ae hl (.tup ys);refine g7 ((sA9.trans (hS'.trans sl)) _ _ e9) aa (by show 1+ys.length≤sizeLine;omega) λpr HC sC9 eC=>?_;have s8C:=s8B.trans (sl.trans sC9);have rC:=s8C _ _ r8;have cl8:=E8.1;rw[aa0,aau] at cl8;refine (b8 (K:=K) rC (by rw[aa0,aa2,aa2];omega) ((ePd _ _ _).mpr ⟨_,cs++[pr],rfl,(s8.trans (b7.of s8C)).trans (b7.put1 _),?_,?_,?_,?_,?_⟩)).2
     ·simp only[aa,aaa,ac1,aaq,abc]
     ·rw[ak nrc.symm];exact s8C _ _ c8
     ·exact (T8.tk (TK.of s8C)).tk (TK.put rC (by intro _ z;cases z))
     ·exact (D8.same s8C).other ndr _
     ·have eR:(e.1.2.take (j+1)).map (rowOf `aE)=(e.1.2.take j).map (rowOf `aE)++[rowOf `aE (x0::xt)]:=by
       rw[aar,hk,aaa];rfl
      rw[eR];refine ((E8.tk (TK.of s8C)).snoc1 (x:=rowOf _ (x0::xt)) ?_).tk (TK.put rC (by intro _ z;cases z));rw[eC,hP];rfl
   ·intro σ H8 hh;refine ob2 ((ePd _ _ _).mp hh) λv14 cs hh=>?_;have s8:=hh.2.1;have r8:=hh.2.2.1;have c8:=hh.2.2.2.1;have T8:=hh.2.2.2.2.1;have D8:=hh.2.2.2.2.2.1;have E8:=hh.2.2.2.2.2.2;obtain rfl:=hh.1;clear hh;rw[aa0,al,ac4] at E8;clear hh ePd Pd;push_cast [and_true];refine ⟨V.int (fb p:Nat),?_,by show (2:Nat)≤sizeLine;decide,λt ht=>?_⟩
    ·obtain ⟨kvs,k1,k2,k3,k4⟩:=D8;rw[←N4 (dd:=e.1.2) (c:=fb p) (is:=iz),←k3];exact gn.k (k:=aP `k) k1
    ·have st:=ae ht (.tup [V.int (fb p:Nat),V.int (pos:Nat)]);have epos:pos=p+s1:=by omega
     refine q t (bs++cs) _ ((b7.of s3).trans (s8.trans (b7.of st))) (by rw[aa,epos]) (st _ _ r8) ?_ ?_
     ·rw[st _ _ c8,hpe,Fp,Pl he,th1,←hus,hfp,Nat.add_assoc]
     ·rw[hpe,Ar];refine (T8.app ?_).tk (TK.of st);rw[show [p].flatMap (gd es `x fb)=gd es `x fb p from ab1 _,Pn he,←hkids,Pl he,←hiz];exact E8
noncomputable abbrev qc:Stmt:=Du
theorem scRowsF:av ["book","words","place","cover","at","rows","count","rule","found","boxes","k","hole","told_box","word","deed"] ["book","words","place","cover","at","rows","count"] (af qc):=wy
theorem Bj (n:Nat) (G:Gs w K mg κ) (h_law_fit:Has P w K mg base k "_law_fit" ["kinds","shape","words","place"] ph) (h_law_rule:Has P w K mg base k "_law_rule" ["book","name"] nj) (h_law_thing:Has P w K mg base k "_law_thing" ["word","boxes","found"] oh) (h_law_used:Has P w K mg base k "_law_used" ["rule"] oj) (D:Def K mg "_law_rows" Du ["book","words","place","cover","at","rows","count"]):Has P w K mg base (k+n+1) "_law_rows" ["book","words","place","cover","at","rows","count"] (jd n):=match n with
 | 0=>D.has wy (λvs H Q E h=>(sg h).elim) (λf cdv A outer s H vs Q E hr h=>(sg h).elim)
 | n+1=>Om (k:=k+n+1) G (h_law_fit.up (by omega)) (Bj n G h_law_fit h_law_rule h_law_thing h_law_used D) (h_law_rule.up (by omega)) (h_law_thing.up (by omega)) (h_law_used.up (by omega)) D
theorem Nd (G:Gs w K mg κ) (h_law_fit:Has P w K mg base k "_law_fit" ["kinds","shape","words","place"] ph) (h_law_rule:Has P w K mg base k "_law_rule" ["book","name"] nj) (h_law_thing:Has P w K mg base k "_law_thing" ["word","boxes","found"] oh) (h_law_used:Has P w K mg base k "_law_used" ["rule"] oj) (D:Def K mg "_law_rows" qc ["book","words","place","cover","at","rows","count"]):Has P w K mg base (k+201) "_law_rows" ["book","words","place","cover","at","rows","count"] (jd 200):=Bj 200 G h_law_fit h_law_rule h_law_thing h_law_used D
noncomputable abbrev Dh:Stmt:=top 49
theorem scLaw:av ["script","book","words","kind","cover","rows","box","at","found"] ["script"] (af Dh):=⟨rfl,rfl,rfl,by decide+kernel,rfl,by decide+kernel,by decide+kernel⟩
theorem hasLaw {f:Addr} {fd:cP} (G:Gs w K mg κ) (h_law_case:Has P w K mg base k "_law_case" ["script","limit"] (wo K)) (h_law_rows:Has P w K mg base k "_law_rows" ["book","words","place","cover","at","rows","count"] (jd 200)) (h_law_same:Has P w K mg base k "_law_same" ["found","rows","box"] wg) (h_rows_of:rb P w K mg base k "rows_of" ["book","words","kind","cover"] (sd κ)) (F:Fun K "law" "law" Dh f fd):ox P w K mg base CX0 (k+1) f fd ["script"] (Kl K):=by
 refine F.ok scLaw (λvs H Q E h=>?_) (λcdv A outer s H vs Q E hr h=>?_)
 ·obtain ⟨_,_,rfl,_,_,_⟩:=h;rfl
 have nd:=scLaw.nd;have hu:=br hr;have hu0:=aae hu;obtain ⟨a,ns,rfl,hA,hl,q⟩:=h;refine ⟨_,(A5 (BQ (AD h_law_case hr (A1 (A0 0) (A1 (A3 0) (A2 0)))) (BM 4 (B5 (AN 1 nd (by first | exact ab5 rfl | exact ab3 rfl)) (B5 (AN 2 nd (by first | exact ab5 rfl | exact ab3 rfl)) (B5 (AN 3 nd (by first | exact ab5 rfl | exact ab3 rfl)) (B5 (AN 4 nd (by first | exact ab5 rfl | exact ab3 rfl)) (BN 0))))))) (A5 (AK (BX (@pc_isN _ _ _ _ _ (A0 3)) (by first | exact gk _ (by decide) (by decide) | rfl)) (A7 (AE (BY 0))) (AL 0)) (A5 (A9 5 nd (AQ (A2 0))) (A5 (BQ (AD h_law_rows hr (A1 (A0 1) (A1 (A0 2) (A1 (A3 0) (A1 (A0 4) (A1 (A3 0) (A1 (A0 5) (A1 (AQ (A1 (A3 0) (A2 0))) (A2 0))))))))) (BM 2 (B5 (AN 6 nd (by first | exact ab5 rfl | exact ab3 rfl)) (B5 (AN 7 nd (by first | exact ab5 rfl | exact ab3 rfl)) (BN 0))))) (A5 (A9 8 nd (@Jl _ _ _ _ _ _ _ _ _ _ h_rows_of hr (A1 (A0 1) (A1 (A0 2) (A1 (A0 3) (A1 (A0 4) (A2 0))))) rfl (by decide+kernel) rfl rfl)) (A5 (AK (BW (BC (AD h_law_same hr (A1 (A0 8) (A1 (A0 5) (A1 (A0 6) (A2 0))))))) (A7 (AE (BY 0))) (AL 0)) (A5 (AU (C8 aM PySem.F.slot_list_clear PySem.F.type_list_clear (@Oe _) (A6 (AA 0) (A0 8) (A3 0)))) (A7 (AE (AD h_law_same hr (A1 (@Jl _ _ _ _ _ _ _ _ _ _ h_rows_of hr (A1 (A0 1) (A1 (A0 2) (A1 (A0 3) (A1 (A0 4) (A2 0))))) rfl (by decide+kernel) rfl rfl) (A1 (A0 5) (A1 (A0 6) (A2 0)))))))))))))),?_⟩;rw[show start ["script","book","words","kind","cover","rows","box","at","found"] [.ref a]=[aA (.ref a),none,none,none,none,none,none,none,none] from rfl];clear hu hu0 nd hr;push_cast [and_true];have sz:=aQ;refine Rq (m:=24) hA hl (by decide) (by decide) λt bt wt x ct kinds rs ws H1 s1 C=>?_;refine O8 C.h rfl ?_;push_cast [tIsN];rcases C.c with rfl | ⟨kd,cs,rfl,hkd,hcv,hct,hcl⟩
 ·exact de (λ_=>q _) λc=>absurd rfl c
 ·refine de (λc=>nomatch c) λ_=>?_;have wl:=C.wl;have w0:0 < ws.length:=by
   have:=C.tw.one;cases ws with
   | nil=>cases this
   | cons=>exact Nat.zero_lt_succ _
  obtain ⟨es,pq,CA⟩:=hcv.all C.bd.bk C.bd.md C.tw w0;have e0:eat 1 ((arE es).drop 0)=aA (arE es).length:=by rw[acq];exact g8 _ _ CA.pe
  have arl:(arE es).length=es.length:=aa0 _;have esl:=CA.len;obtain ⟨fb,hfb⟩:∃fb,fb=baseOf (nbE es) (post `x 0) 0:=⟨_,rfl⟩;have eR:uq es `x=(post `x 0).flatMap (gd es `x fb):=by rw[hfb];rfl
  have eO:Hq es `x=fb 0:=by rw[hfb];rfl
  have ea:ff (es.map λe=>(e.1.1,e.2))=arE es:=by
   unfold ff arE;rw[abd];rfl
  have hRw:∀r∈uq es `x,(∀v∈r,isW v)∧r.length≤1000:=by rw[eR];exact Sf CA.t
  have hRl:(uq es `x).length≤200000:=by
   have:=nq (λe he=>(Mk.ok (CA.t.md e he)).2.1) `x fb (post `x 0);rw[j5 e0] at this;rw[eR];omega
  have hct':∀{H':Hp},TK H1 H'→H' ct=aA (.tup ((cs.map λr=>r.1.name).map V.str)):=λs=>by rw[abd];exact s _ _ hct
  refine ⟨by show (0:Nat)≤sizeLine;decide,λrl hrl=>?_⟩;have s2:=ae hrl `ai;have e2:upd H1 rl `ai rl=aA `ai:=aa;generalize upd H1 rl `ai=H2 at s2 e2 ⊢;refine ⟨by show (1:Nat)≤sizeLine;decide,λcl hcl2=>?_⟩;have s3:=ae hcl2 (.lst [V.int 0]);have e3:upd H2 cl (.lst [V.int 0]) cl=aA (.lst [V.int 0]):=aa;have r3:upd H2 cl (.lst [V.int 0]) rl=aA `ai:=s3 _ _ e2;generalize upd H2 cl (.lst [V.int 0])=H3 at s3 e3 r3 ⊢;have s13:=s2.trans s3;rw[show ([V.ref bt,V.ref wt,V.int 0,V.ref ct,V.int 0,V.ref rl,V.ref cl]:List V)=[V.ref bt,V.ref wt,V.int (pq 0:Nat),V.ref ct,V.int ((0:Nat):Int),V.ref rl,V.ref cl] by rw[CA.pl0];rfl];refine Iy (pl:=pq) (f:=fb) (p:=0) (c:=0) (as:=[]) (C.b.same s13) (s13 _ _ C.w) C.bd.bk C.tw (by rw[CA.nm];exact s13 _ _ hct) CA.t r3 e3 e0 (by omega) (by show 0+_≤_;omega) (λx _=>by rw[hfb]) λt4 bs H4 s4 h4 r4 c4 T4=>?_;refine fm h4 rfl ?_;have tk4:TK H1 H4:=(TK.of s13).trans (s4.tk r3 e3);rw[adl] at r4;rw[←eR] at T4;push_cast [and_true];have nmt:∀z∈cs.map (λr=>r.1.name),jj z:=λz hz=>by
   obtain ⟨r,hr,rfl⟩:=List.mem_map.mp hz;obtain ⟨i,_,e⟩:=C.bd.rw r (hcv.mem r hr);rw[e];exact (Ek ns _).2.1
  have kdt:∀z∈kinds,jj z:=λz hz=>by
   obtain ⟨i,_,e⟩:=C.bd.kw z hz;rw[e];exact (Ek ns _).2.1
  have rok:∀x∈rs,Dk x:=λx hx=>Mk.rd (C.bd.md x hx);have hno:∀{P:Prop},cf kinds (rs.map (·.1)) ws (cs.map λr=>r.1.name) [(0,kd)]=none→P:=λz=>by rw[CA.cov] at z;cases z
  refine Fx (C.b.tk tk4) (tk4 _ _ C.w) (hct' tk4) C.bd.bk C.tw w0 (kdt _ hkd) kdt nmt (by rw[aa0];omega) rok (λds hds es' t5 l5 bs5 H5 hes hrd s5 ht5 h5 hl5 l5' T5=>?_) λhn=>hno hn;obtain rfl:ds=es.map λe=>(e.1.1,e.2):=aa7 (hds.symm.trans CA.cov);rw[Dw C.bd.bk.nd hrd CA.t.rd hes,ea] at h5 T5;push_cast [and_true];rw[eO] at h5;have r5:=s5 _ _ r4;have nlr:rl≠l5:=ao r4 hl5;refine Jo h5 l5' T5 r5 (T4.tk (TK.of s5)) (λr hr=>(hRw r hr).1) (λr hr=>(hRw r hr).2) hRl λH6 s6=>rg ?_;have l6:=s6 _ _ l5';refine ag (s6 _ _ h5) rfl ⟨bf l6,l5,_,rfl,rfl,l6,?_⟩;have tk7:TK H6 (upd H6 l5 `ai):=TK.put l6 (by intro _ z;cases z);have r7:upd H6 l5 `ai rl=aA `aL:=by rw[ak nlr];exact s6 _ _ r5
  generalize upd H6 l5 `ai=H7 at tk7 r7 ⊢;have tk47:TK H4 H7:=(TK.of (s5.trans s6)).trans tk7;have tk17:=tk4.trans tk47;refine Fx (C.b.tk tk17) (tk17 _ _ C.w) (hct' tk17) C.bd.bk C.tw w0 (kdt _ hkd) kdt nmt (by rw[aa0];omega) rok (λds hds es' t8 l8 bs8 H8 hes hrd s8 ht8 h8 hl8 l8' T8=>?_) λhn=>hno hn;obtain rfl:ds=es.map λe=>(e.1.1,e.2):=aa7 (hds.symm.trans CA.cov);rw[Dw C.bd.bk.nd hrd CA.t.rd hes,ea] at h8 T8;rw[eO] at h8;exact Jo h8 l8' T8 (s8 _ _ r7) (T4.tk (tk47.trans (TK.of s8))) (λr hr=>(hRw r hr).1) (λr hr=>(hRw r hr).2) hRl λH9 s9=>q H9
end
end K61
namespace K61
open PySem PySem.Spec L2 PyProof.Rows Pc
theorem all_mk {l:jT} {w:bA} {K:aF} {h:Heap} {mg:Str→Option Value} {fa:Addr} (X:K.In h) (G:h.Ns aK mg) (hfa:mg "law"=aA (.ref fa))
  {f0 f1 f2 f3 f4 f5 f6 f7 f8 f9 f10 f11 f12 f13 f14 f15 f16 f17 f18 f19 f20 f21 f22 f23 f24 f25 f26 f27 f28 f29 f30 f31 f32 f33 f34 f35 f36 f37 f38 g0 g1:Addr} {od0 an0 od1 an1 od2 an2 od3 an3 od4 an4 od5 an5 od6 an6 od7 an7 od8 an8 od9 an9 od10 an10 od11 an11 od12 an12 od13 an13 od14 an14 od15 an15 od16 an16 od17 an17 od18 an18 od19 an19 od20 an20 od21 an21 od22 an22 od23 an23 od24 an24 od25 an25 od26 an26 od27 an27 od28 an28 od29 an29 od30 an30 od31 an31 od32 an32 od33 an33 od34 an34 od35 an35 od36 an36 od37 an37 od38 an38 gd1:Option Addr} {sl0 sl1 sl2 sl3 sl4 sl5 sl6 sl7 sl8 sl9 sl10 sl11 sl12 sl13 sl14 sl15 sl16 sl17 sl18 sl19 sl20 sl21 sl22 sl23 sl24 sl25 sl26 sl27 sl28 sl29 sl30 sl31 sl32 sl33 sl34 sl35 sl36 sl37 sl38 gs1:Array (Option Value)} {oc0 kV0 dc0 pm0 cd0 ct0 oc1 kV1 dc1 pm1 cd1 ct1 oc2 kV2 dc2 pm2 cd2 ct2 oc3 kV3 dc3 pm3 cd3 ct3 oc4 kV4 dc4 pm4 cd4 ct4 oc5 kV5 dc5 pm5 cd5 ct5 oc6 kV6 dc6 pm6 cd6 ct6 oc7 kV7 dc7 pm7 cd7 ct7 oc8 kV8 dc8 pm8 cd8 ct8 oc9 kV9 dc9 pm9 cd9 ct9 oc10 kV10 dc10 pm10 cd10 ct10 oc11 kV11 dc11 pm11 cd11 ct11 oc12 kV12 dc12 pm12 cd12 ct12 oc13 kV13 dc13 pm13 cd13 ct13 oc14 kV14 dc14 pm14 cd14 ct14 oc15 kV15 dc15 pm15 cd15 ct15 oc16 kV16 dc16 pm16 cd16 ct16 oc17 kV17 dc17 pm17 cd17 ct17 oc18 kV18 dc18 pm18 cd18 ct18 oc19 kV19 dc19 pm19 cd19 ct19 oc20 kV20 dc20 pm20 cd20 ct20 oc21 kV21 dc21 pm21 cd21 ct21 oc22 kV22 dc22 pm22 cd22 ct22 oc23 kV23 dc23 pm23 cd23 ct23 oc24 kV24 dc24 pm24 cd24 ct24 oc25 kV25 dc25 pm25 cd25 ct25 oc26 kV26 dc26 pm26 cd26 ct26 oc27 kV27 dc27 pm27 cd27 ct27 oc28 kV28 dc28 pm28 cd28 ct28 oc29 kV29 dc29 pm29 cd29 ct29 oc30 kV30 dc30 pm30 cd30 ct30 oc31 kV31 dc31 pm31 cd31 ct31 oc32 kV32 dc32 pm32 cd32 ct32 oc33 kV33 dc33 pm33 cd33 ct33 oc34 kV34 dc34 pm34 cd34 ct34 oc35 kV35 dc35 pm35 cd35 ct35 oc36 kV36 dc36 pm36 cd36 ct36 oc37 kV37 dc37 pm37 cd37 ct37 oc38 kV38 dc38 pm38 cd38 ct38:Value} {dt0x0 dt0x1 dt0x2 dt0x3 du0x0 du0x1 du0x2 du0x3 dp0 gt1x0 gt1x1 gt1x2 gt1x3 gn1:Nat} {dh0x0 dh0x1 dh0x2 dh0x3:Int} {e0 e3 eN0 eN3:Addr} {enm0 enm3 eqn0 eqn3:Str} {ebs0 ebs3 esu0 esu3:List Value} {esn0 esn3:List Str} {eab0 eab3:Bool} {eco0 eco3:Option Bool} {edd0 edd3:Option Addr} {eka0 eka3 ekb0 ekb3 ekc0 ekc3 ekd0 ekd3 eke0 eke3:Option Value}
  (a0:aN K aK "_law_draw"=aA (aA (.ref f0)))
  (l0:K.lookup f0=aA ⟨oc0,od0,.func (aW "_law_draw" "_law_draw" (ax zc) (au zc) (af zc) .none kV0 dc0 pm0 an0 cd0 ct0),sl0⟩)
  (c0:aR K cd0 "_law_draw"=true)
  (k0:aO K (.ref f0)=true)
  (a1:aN K aK "_law_word"=aA (aA (.ref f1)))
  (l1:K.lookup f1=aA ⟨oc1,od1,.func (aW "_law_word" "_law_word" (ax zh) (au zh) (af zh) .none kV1 dc1 pm1 an1 cd1 ct1),sl1⟩)
  (c1:aR K cd1 "_law_word"=true)
  (k1:aO K (.ref f1)=true)
  (a2:aN K aK "_law_number"=aA (aA (.ref f2)))
  (l2:K.lookup f2=aA ⟨oc2,od2,.func (aW "_law_number" "_law_number" (ax yb) (au yb) (af yb) .none kV2 dc2 pm2 an2 cd2 ct2),sl2⟩)
  (c2:aR K cd2 "_law_number"=true)
  (k2:aO K (.ref f2)=true)
  (a3:aN K aK "_law_price"=aA (aA (.ref f3)))
  (l3:K.lookup f3=aA ⟨oc3,od3,.func (aW "_law_price" "_law_price" (ax ky) (au ky) (af ky) .none kV3 dc3 pm3 an3 cd3 ct3),sl3⟩)
  (c3:aR K cd3 "_law_price"=true)
  (k3:aO K (.ref f3)=true)
  (a4:aN K aK "_law_leaf"=aA (aA (.ref f4)))
  (l4:K.lookup f4=aA ⟨oc4,od4,.func (aW "_law_leaf" "_law_leaf" (ax qo) (au qo) (af qo) .none kV4 dc4 pm4 an4 cd4 ct4),sl4⟩)
  (c4:aR K cd4 "_law_leaf"=true)
  (k4:aO K (.ref f4)=true)
  (a5:aN K aK "_law_shape"=aA (aA (.ref f5)))
  (l5:K.lookup f5=aA ⟨oc5,od5,.func (aW "_law_shape" "_law_shape" (ax lg) (au lg) (af lg) .none kV5 dc5 pm5 an5 cd5 ct5),sl5⟩)
  (c5:aR K cd5 "_law_shape"=true)
  (k5:aO K (.ref f5)=true)
  (a6:aN K aK "_law_more"=aA (aA (.ref f6)))
  (l6:K.lookup f6=aA ⟨oc6,od6,.func (aW "_law_more" "_law_more" (ax qp) (au qp) (af qp) .none kV6 dc6 pm6 an6 cd6 ct6),sl6⟩)
  (c6:aR K cd6 "_law_more"=true)
  (k6:aO K (.ref f6)=true)
  (a7:aN K aK "_law_book"=aA (aA (.ref f7)))
  (l7:K.lookup f7=aA ⟨oc7,od7,.func (aW "_law_book" "_law_book" (ax qb) (au qb) (af qb) .none kV7 dc7 pm7 an7 cd7 ct7),sl7⟩)
  (c7:aR K cd7 "_law_book"=true)
  (k7:aO K (.ref f7)=true)
  (a8:aN K aK "_law_term"=aA (aA (.ref f8)))
  (l8:K.lookup f8=aA ⟨oc8,od8,.func (aW "_law_term" "_law_term" (ax qk) (au qk) (af qk) .none kV8 dc8 pm8 an8 cd8 ct8),sl8⟩)
  (c8:aR K cd8 "_law_term"=true)
  (k8:aO K (.ref f8)=true)
  (a9:aN K aK "_law_end"=aA (aA (.ref f9)))
  (l9:K.lookup f9=aA ⟨oc9,od9,.func (aW "_law_end" "_law_end" (ax yj) (au yj) (af yj) .none kV9 dc9 pm9 an9 cd9 ct9),sl9⟩)
  (c9:aR K cd9 "_law_end"=true)
  (k9:aO K (.ref f9)=true)
  (a10:aN K aK "_law_fit"=aA (aA (.ref f10)))
  (l10:K.lookup f10=aA ⟨oc10,od10,.func (aW "_law_fit" "_law_fit" (ax yk) (au yk) (af yk) .none kV10 dc10 pm10 an10 cd10 ct10),sl10⟩)
  (c10:aR K cd10 "_law_fit"=true)
  (k10:aO K (.ref f10)=true)
  (a11:aN K aK "_law_kinds"=aA (aA (.ref f11)))
  (l11:K.lookup f11=aA ⟨oc11,od11,.func (aW "_law_kinds" "_law_kinds" (ax ku) (au ku) (af ku) .none kV11 dc11 pm11 an11 cd11 ct11),sl11⟩)
  (c11:aR K cd11 "_law_kinds"=true)
  (k11:aO K (.ref f11)=true)
  (a12:aN K aK "_law_fitted"=aA (aA (.ref f12)))
  (l12:K.lookup f12=aA ⟨oc12,od12,.func (aW "_law_fitted" "_law_fitted" (ax lr) (au lr) (af lr) .none kV12 dc12 pm12 an12 cd12 ct12),sl12⟩)
  (c12:aR K cd12 "_law_fitted"=true)
  (k12:aO K (.ref f12)=true)
  (a13:aN K aK "_law_ranks"=aA (aA (.ref f13)))
  (l13:K.lookup f13=aA ⟨oc13,od13,.func (aW "_law_ranks" "_law_ranks" (ax kb) (au kb) (af kb) .none kV13 dc13 pm13 an13 cd13 ct13),sl13⟩)
  (c13:aR K cd13 "_law_ranks"=true)
  (k13:aO K (.ref f13)=true)
  (a14:aN K aK "_law_cover"=aA (aA (.ref f14)))
  (l14:K.lookup f14=aA ⟨oc14,od14,.func (aW "_law_cover" "_law_cover" (ax kf) (au kf) (af kf) .none kV14 dc14 pm14 an14 cd14 ct14),sl14⟩)
  (c14:aR K cd14 "_law_cover"=true)
  (k14:aO K (.ref f14)=true)
  (a15:aN K aK "_law_rule"=aA (aA (.ref f15)))
  (l15:K.lookup f15=aA ⟨oc15,od15,.func (aW "_law_rule" "_law_rule" (ax rh) (au rh) (af rh) .none kV15 dc15 pm15 an15 cd15 ct15),sl15⟩)
  (c15:aR K cd15 "_law_rule"=true)
  (k15:aO K (.ref f15)=true)
  (a16:aN K aK "_law_case"=aA (aA (.ref f16)))
  (l16:K.lookup f16=aA ⟨oc16,od16,.func (aW "_law_case" "_law_case" (ax pj) (au pj) (af pj) .none kV16 dc16 pm16 an16 cd16 ct16),sl16⟩)
  (c16:aR K cd16 "_law_case"=true)
  (k16:aO K (.ref f16)=true)
  (a17:aN K aK "how_many_below"=aA (aA (.ref f17)))
  (l17:K.lookup f17=aA ⟨oc17,od17,.func (aW "how_many_below" "how_many_below" (ax G5) (au G5) (af G5) .none kV17 dc17 pm17 an17 cd17 ct17),sl17⟩)
  (c17:aR K cd17 "how_many_below"=true)
  (k17:aO K (.ref f17)=true)
  (a18:aN K aK "place_behind"=aA (aA (.ref f18)))
  (l18:K.lookup f18=aA ⟨oc18,od18,.func (aW "place_behind" "place_behind" (ax kj) (au kj) (af kj) .none kV18 dc18 pm18 an18 cd18 ct18),sl18⟩)
  (c18:aR K cd18 "place_behind"=true)
  (k18:aO K (.ref f18)=true)
  (a19:aN K aK "leaf_letter"=aA (aA (.ref f19)))
  (l19:K.lookup f19=aA ⟨oc19,od19,.func (aW "leaf_letter" "leaf_letter" (ax yq) (au yq) (af yq) .none kV19 dc19 pm19 an19 cd19 ct19),sl19⟩)
  (c19:aR K cd19 "leaf_letter"=true)
  (k19:aO K (.ref f19)=true)
  (a20:aN K aK "lies_upon"=aA (aA (.ref f20)))
  (l20:K.lookup f20=aA ⟨oc20,od20,.func (aW "lies_upon" "lies_upon" (ax zj) (au zj) (af zj) .none kV20 dc20 pm20 an20 cd20 ct20),sl20⟩)
  (c20:aR K cd20 "lies_upon"=true)
  (k20:aO K (.ref f20)=true)
  (a21:aN K aK "laid"=aA (aA (.ref f21)))
  (l21:K.lookup f21=aA ⟨oc21,od21,.func (aW "laid" "laid" (ax ya) (au ya) (af ya) .none kV21 dc21 pm21 an21 cd21 ct21),sl21⟩)
  (c21:aR K cd21 "laid"=true)
  (k21:aO K (.ref f21)=true)
  (a22:aN K aK "holes_under"=aA (aA (.ref f22)))
  (l22:K.lookup f22=aA ⟨oc22,od22,.func (aW "holes_under" "holes_under" (ax la) (au la) (af la) .none kV22 dc22 pm22 an22 cd22 ct22),sl22⟩)
  (c22:aR K cd22 "holes_under"=true)
  (k22:aO K (.ref f22)=true)
  (a23:aN K aK "last_hole_first"=aA (aA (.ref f23)))
  (l23:K.lookup f23=aA ⟨oc23,od23,.func (aW "last_hole_first" "last_hole_first" (ax xx) (au xx) (af xx) .none kV23 dc23 pm23 an23 cd23 ct23),sl23⟩)
  (c23:aR K cd23 "last_hole_first"=true)
  (k23:aO K (.ref f23)=true)
  (a24:aN K aK "laid_rule"=aA (aA (.ref f24)))
  (l24:K.lookup f24=aA ⟨oc24,od24,.func (aW "laid_rule" "laid_rule" (ax qy) (au qy) (af qy) .none kV24 dc24 pm24 an24 cd24 ct24),sl24⟩)
  (c24:aR K cd24 "laid_rule"=true)
  (k24:aO K (.ref f24)=true)
  (a25:aN K aK "laid_cover"=aA (aA (.ref f25)))
  (l25:K.lookup f25=aA ⟨oc25,od25,.func (aW "laid_cover" "laid_cover" (ax j8) (au j8) (af j8) .none kV25 dc25 pm25 an25 cd25 ct25),sl25⟩)
  (c25:aR K cd25 "laid_cover"=true)
  (k25:aO K (.ref f25)=true)
  (a26:aN K aK "boxes_named"=aA (aA (.ref f26)))
  (l26:K.lookup f26=aA ⟨oc26,od26,.func (aW "boxes_named" "boxes_named" (ax ki) (au ki) (af ki) .none kV26 dc26 pm26 an26 cd26 ct26),sl26⟩)
  (c26:aR K cd26 "boxes_named"=true)
  (k26:aO K (.ref f26)=true)
  (a27:aN K aK "steps_below"=aA (aA (.ref f27)))
  (l27:K.lookup f27=aA ⟨oc27,od27,.func (aW "steps_below" "steps_below" (ax lj) (au lj) (af lj) .none kV27 dc27 pm27 an27 cd27 ct27),sl27⟩)
  (c27:aR K cd27 "steps_below"=true)
  (k27:aO K (.ref f27)=true)
  (a28:aN K aK "holes_ahead"=aA (aA (.ref f28)))
  (l28:K.lookup f28=aA ⟨oc28,od28,.func (aW "holes_ahead" "holes_ahead" (ax lb) (au lb) (af lb) .none kV28 dc28 pm28 an28 cd28 ct28),sl28⟩)
  (c28:aR K cd28 "holes_ahead"=true)
  (k28:aO K (.ref f28)=true)
  (a29:aN K aK "counted_boxes"=aA (aA (.ref f29)))
  (l29:K.lookup f29=aA ⟨oc29,od29,.func (aW "counted_boxes" "counted_boxes" (ax i9) (au i9) (af i9) .none kV29 dc29 pm29 an29 cd29 ct29),sl29⟩)
  (c29:aR K cd29 "counted_boxes"=true)
  (k29:aO K (.ref f29)=true)
  (a30:aN K aK "meanings"=aA (aA (.ref f30)))
  (l30:K.lookup f30=aA ⟨oc30,od30,.func (aW "meanings" "meanings" (ax qw) (au qw) (af qw) .none kV30 dc30 pm30 an30 cd30 ct30),sl30⟩)
  (c30:aR K cd30 "meanings"=true)
  (k30:aO K (.ref f30)=true)
  (a31:aN K aK "deed_rows"=aA (aA (.ref f31)))
  (l31:K.lookup f31=aA ⟨oc31,od31,.func (aW "deed_rows" "deed_rows" (ax qi) (au qi) (af qi) .none kV31 dc31 pm31 an31 cd31 ct31),sl31⟩)
  (c31:aR K cd31 "deed_rows"=true)
  (k31:aO K (.ref f31)=true)
  (a32:aN K aK "rows_in_order"=aA (aA (.ref f32)))
  (l32:K.lookup f32=aA ⟨oc32,od32,.func (aW "rows_in_order" "rows_in_order" (ax qd) (au qd) (af qd) .none kV32 dc32 pm32 an32 cd32 ct32),sl32⟩)
  (c32:aR K cd32 "rows_in_order"=true)
  (k32:aO K (.ref f32)=true)
  (a33:aN K aK "rows_of"=aA (aA (.ref f33)))
  (l33:K.lookup f33=aA ⟨oc33,od33,.func (aW "rows_of" "rows_of" (ax kg) (au kg) (af kg) .none kV33 dc33 pm33 an33 cd33 ct33),sl33⟩)
  (c33:aR K cd33 "rows_of"=true)
  (k33:aO K (.ref f33)=true)
  (a34:aN K aK "_law_used"=aA (aA (.ref f34)))
  (l34:K.lookup f34=aA ⟨oc34,od34,.func (aW "_law_used" "_law_used" (ax qm) (au qm) (af qm) .none kV34 dc34 pm34 an34 cd34 ct34),sl34⟩)
  (c34:aR K cd34 "_law_used"=true)
  (k34:aO K (.ref f34)=true)
  (a35:aN K aK "_law_thing"=aA (aA (.ref f35)))
  (l35:K.lookup f35=aA ⟨oc35,od35,.func (aW "_law_thing" "_law_thing" (ax pz) (au pz) (af pz) .none kV35 dc35 pm35 an35 cd35 ct35),sl35⟩)
  (c35:aR K cd35 "_law_thing"=true)
  (k35:aO K (.ref f35)=true)
  (a36:aN K aK "_law_same"=aA (aA (.ref f36)))
  (l36:K.lookup f36=aA ⟨oc36,od36,.func (aW "_law_same" "_law_same" (ax qe) (au qe) (af qe) .none kV36 dc36 pm36 an36 cd36 ct36),sl36⟩)
  (c36:aR K cd36 "_law_same"=true)
  (k36:aO K (.ref f36)=true)
  (a37:aN K aK "_law_rows"=aA (aA (.ref f37)))
  (l37:K.lookup f37=aA ⟨oc37,od37,.func (aW "_law_rows" "_law_rows" (ax qc) (au qc) (af qc) .none kV37 dc37 pm37 an37 cd37 ct37),sl37⟩)
  (c37:aR K cd37 "_law_rows"=true)
  (k37:aO K (.ref f37)=true)
  (a38:aN K aK "law"=aA (aA (.ref f38)))
  (l38:K.lookup f38=aA ⟨oc38,od38,.func (aW "law" "law" (ax Dh) (au Dh) (af Dh) .none kV38 dc38 pm38 an38 cd38 ct38),sl38⟩)
  (c38:aR K cd38 "law"=true)
  (k38:aO K (.ref f38)=true)
  (z0:aN K aK "all"=aA none)
  (z1:aN K aK "any"=aA none)
  (z2:aN K aK "bool"=aA none)
  (z3:aN K aK "dict"=aA none)
  (z4:aN K aK "enumerate"=aA none)
  (z5:aN K aK "int"=aA none)
  (z6:aN K aK "isinstance"=aA none)
  (z7:aN K aK "len"=aA none)
  (z8:aN K aK "list"=aA none)
  (z9:aN K aK "max"=aA none)
  (z10:aN K aK "range"=aA none)
  (z11:aN K aK "reversed"=aA none)
  (z12:aN K aK "str"=aA none)
  (z13:aN K aK "tuple"=aA none)
  (z14:aN K aK "zip"=aA none)
  (y0:aN K aK "PARTS_BELOW"=aA (aA (.ref g0)))
  (x0:K.lookup g0=aA ⟨.type "dict",none,.dict #[⟨dh0x0,.str "add" dt0x0,.int 2 du0x0⟩,⟨dh0x1,.str "sub" dt0x1,.int 2 du0x1⟩,⟨dh0x2,.str "mul" dt0x2,.int 2 du0x2⟩,⟨dh0x3,.str "neg" dt0x3,.int 1 du0x3⟩] dp0,#[]⟩)
  (hh0x0:dh0x0=kT w "add")
  (hh0x1:dh0x1=kT w "sub")
  (hh0x2:dh0x2=kT w "mul")
  (hh0x3:dh0x3=kT w "neg")
  (ha0:(g0==cQ)=false)
  (y1:aN K aK "BOXES"=aA (aA (.ref g1)))
  (x1:K.lookup g1=aA ⟨.type "tuple",gd1,.seq #[.str "out" gt1x0,.str "t1" gt1x1,.str "t2" gt1x2,.str "t3" gt1x3] gn1,gs1⟩)
  (cn0:aN K aK "CoverError"=aA (aA (.ref e0)))
  (cl0:K.lookup e0=aA (kS enm0 eqn0 e0 eN0 ebs0 vbm true esn0 esu0 eab0 eco0 edd0 eka0 ekb0 ekc0 ekd0 eke0 "ValueError.__new__"))
  (ck0:aO K (.ref e0)=true)
  (cs0:bP K (.ref e0) "__setattr__"=aA `aS)
  (cg0:bP K (.ref e0) "__getattribute__"=aA `aO)
  (ch0:bP K (.ref e0) "__getattr__"=aA (none))
  (cc0:bP K (.ref e0) "__class__"=aA (aA `ay))
  (cn3:aN K aK "BadCover"=aA (aA (.ref e3)))
  (cl3:K.lookup e3=aA (kS enm3 eqn3 e3 eN3 ebs3 (.ref e0::vbm) true esn3 esu3 eab3 eco3 edd3 eka3 ekb3 ekc3 ekd3 eke3 "ValueError.__new__"))
  (ck3:aO K (.ref e3)=true)
  (cs3:bP K (.ref e3) "__setattr__"=aA `aS)
  (cg3:bP K (.ref e3) "__getattribute__"=aA `aO)
  (ch3:bP K (.ref e3) "__getattr__"=aA (none))
  (cc3:bP K (.ref e3) "__class__"=aA (aA `ay))
  (ip3:bP K (.ref e3) "__init__"=aA (aA (.builtin "ValueError.__init__"))):
  ∃fd:cP,(∀(s:aE) (v:Value),lB s fd ⟨[v],[]⟩ [("script",v)])∧∀base:Heap,K.In base→base.Ns aK mg→ox l.prog w K mg base CX0 204 fa fd ["script"] (Kl K):=by
 have e:=hfa.symm.trans (aV X G a38);cases e
 have G0:Gs w K mg ⟨e0,e0,e0,e3,e0,e0,e0,e0,e0,e0,e0,e0⟩:=⟨⟨aV X G cn0,aV X G cn3,Xc.mk' cl0 ck0 cs0 cg0 ch0 cc0 `O,Xc.mk' cl3 ck3 cs3 cg3 ch3 cc3 (.inr ⟨_,rfl⟩)⟩,ip3,bN X G z0,bN X G z1,bN X G z2,bN X G z3,bN X G z4,bN X G z5,bN X G z6,bN X G z7,bN X G z8,bN X G z9,bN X G z10,bN X G z11,bN X G z12,bN X G z13,bN X G z14,⟨g0,aV X G y0,Ti [(dh0x0,"add",dt0x0,2,du0x0),(dh0x1,"sub",dt0x1,2,du0x1),(dh0x2,"mul",dt0x2,2,du0x2),(dh0x3,"neg",dt0x3,1,du0x3)] x0 ha0 (by intro e he;simp only[aam,aac,or_false] at he;rcases he with rfl | rfl | rfl | rfl <;> assumption) (by show abj ([aP "add",aP "sub",aP "mul",aP "neg"]:List Key);decide+kernel)⟩,⟨g1,aV X G y1,λH=>.inr ⟨_,_,_,x1,rfl,rfl,(by show (4:Nat)≤sizeLine;decide),(.cons ⟨_,rfl⟩ (.cons ⟨_,rfl⟩ (.cons ⟨_,rfl⟩ (.cons ⟨_,rfl⟩ .nil))))⟩⟩⟩;have F0:=bg (st:=zc) l0 c0 k0;have D0:Def K mg "_law_draw" zc ["script","k"]:=⟨f0,_,F0,F0.binds (ps:=["script","k"]) (λ_ _ _ _ _ _ us hl=>by refine us2 (P:=λus=>bJ _ ⟨us,[]⟩=pure `w) hl ?_;intros;rfl),aV X G a0⟩;have F1:=bg (st:=zh) l1 c1 k1;have D1:Def K mg "_law_word" zh ["script","i"]:=⟨f1,_,F1,F1.binds (ps:=["script","i"]) (λ_ _ _ _ _ _ us hl=>by refine us2 (P:=λus=>bJ _ ⟨us,[]⟩=pure `w) hl ?_;intros;rfl),aV X G a1⟩;have F2:=bg (st:=yb) l2 c2 k2;have D2:Def K mg "_law_number" yb ["draw"]:=⟨f2,_,F2,F2.binds (ps:=["draw"]) (λ_ _ _ _ _ _ us hl=>by refine us1 (P:=λus=>bJ _ ⟨us,[]⟩=pure `w) hl ?_;intros;rfl),aV X G a2⟩;have F3:=bg (st:=ky) l3 c3 k3;have D3:Def K mg "_law_price" ky ["draw"]:=⟨f3,_,F3,F3.binds (ps:=["draw"]) (λ_ _ _ _ _ _ us hl=>by refine us1 (P:=λus=>bJ _ ⟨us,[]⟩=pure `w) hl ?_;intros;rfl),aV X G a3⟩;have F4:=bg (st:=qo) l4 c4 k4;have D4:Def K mg "_law_leaf" qo ["draw","kinds","seen","box"]:=⟨f4,_,F4,F4.binds (ps:=["draw","kinds","seen","box"]) (λ_ _ _ _ _ _ us hl=>by refine us4 (P:=λus=>bJ _ ⟨us,[]⟩=pure `w) hl ?_;intros;rfl),aV X G a4⟩;have F5:=bg (st:=lg) l5 c5 k5;have D5:Def K mg "_law_shape" lg ["draw","more","kinds"]:=⟨f5,_,F5,F5.binds (ps:=["draw","more","kinds"]) (λ_ _ _ _ _ _ us hl=>by refine us3 (P:=λus=>bJ _ ⟨us,[]⟩=pure `w) hl ?_;intros;rfl),aV X G a5⟩;have F6:=bg (st:=qp) l6 c6 k6;have D6:Def K mg "_law_more" qp ["script","kinds"]:=⟨f6,_,F6,F6.binds (ps:=["script","kinds"]) (λ_ _ _ _ _ _ us hl=>by refine us2 (P:=λus=>bJ _ ⟨us,[]⟩=pure `w) hl ?_;intros;rfl),aV X G a6⟩;have F7:=bg (st:=qb) l7 c7 k7;have D7:Def K mg "_law_book" qb ["script"]:=⟨f7,_,F7,F7.binds (ps:=["script"]) (λ_ _ _ _ _ _ us hl=>by refine us1 (P:=λus=>bJ _ ⟨us,[]⟩=pure `w) hl ?_;intros;rfl),aV X G a7⟩;have F8:=bg (st:=qk) l8 c8 k8;have D8:Def K mg "_law_term" qk ["script","at","limit"]:=⟨f8,_,F8,F8.binds (ps:=["script","at","limit"]) (λ_ _ _ _ _ _ us hl=>by refine us3 (P:=λus=>bJ _ ⟨us,[]⟩=pure `w) hl ?_;intros;rfl),aV X G a8⟩;have F9:=bg (st:=yj) l9 c9 k9;have D9:Def K mg "_law_end" yj ["words","place"]:=⟨f9,_,F9,F9.binds (ps:=["words","place"]) (λ_ _ _ _ _ _ us hl=>by refine us2 (P:=λus=>bJ _ ⟨us,[]⟩=pure `w) hl ?_;intros;rfl),aV X G a9⟩;have F10:=bg (st:=yk) l10 c10 k10;have D10:Def K mg "_law_fit" yk ["kinds","shape","words","place"]:=⟨f10,_,F10,F10.binds (ps:=["kinds","shape","words","place"]) (λ_ _ _ _ _ _ us hl=>by refine us4 (P:=λus=>bJ _ ⟨us,[]⟩=pure `w) hl ?_;intros;rfl),aV X G a10⟩;have F11:=bg (st:=ku) l11 c11 k11;have D11:Def K mg "_law_kinds" ku ["book","rule"]:=⟨f11,_,F11,F11.binds (ps:=["book","rule"]) (λ_ _ _ _ _ _ us hl=>by refine us2 (P:=λus=>bJ _ ⟨us,[]⟩=pure `w) hl ?_;intros;rfl),aV X G a11⟩;have F12:=bg (st:=lr) l12 c12 k12;have D12:Def K mg "_law_fitted" lr ["book","words","place","kind","ranks"]:=⟨f12,_,F12,F12.binds (ps:=["book","words","place","kind","ranks"]) (λ_ _ _ _ _ _ us hl=>by refine us5 (P:=λus=>bJ _ ⟨us,[]⟩=pure `w) hl ?_;intros;rfl),aV X G a12⟩;have F13:=bg (st:=kb) l13 c13 k13;have D13:Def K mg "_law_ranks" kb ["book","words"]:=⟨f13,_,F13,F13.binds (ps:=["book","words"]) (λ_ _ _ _ _ _ us hl=>by refine us2 (P:=λus=>bJ _ ⟨us,[]⟩=pure `w) hl ?_;intros;rfl),aV X G a13⟩;have F14:=bg (st:=kf) l14 c14 k14;have D14:Def K mg "_law_cover" kf ["script","at","book","words","ranks","kind"]:=⟨f14,_,F14,F14.binds (ps:=["script","at","book","words","ranks","kind"]) (λ_ _ _ _ _ _ us hl=>by refine us6 (P:=λus=>bJ _ ⟨us,[]⟩=pure `w) hl ?_;intros;rfl),aV X G a14⟩;have F15:=bg (st:=rh) l15 c15 k15;have D15:Def K mg "_law_rule" rh ["book","name"]:=⟨f15,_,F15,F15.binds (ps:=["book","name"]) (λ_ _ _ _ _ _ us hl=>by refine us2 (P:=λus=>bJ _ ⟨us,[]⟩=pure `w) hl ?_;intros;rfl),aV X G a15⟩;have F16:=bg (st:=pj) l16 c16 k16;have D16:Def K mg "_law_case" pj ["script","limit"]:=⟨f16,_,F16,F16.binds (ps:=["script","limit"]) (λ_ _ _ _ _ _ us hl=>by refine us2 (P:=λus=>bJ _ ⟨us,[]⟩=pure `w) hl ?_;intros;rfl),aV X G a16⟩;have F17:=bg (st:=G5) l17 c17 k17;have D17:Def K mg "how_many_below" G5 ["word"]:=⟨f17,_,F17,F17.binds (ps:=["word"]) (λ_ _ _ _ _ _ us hl=>by refine us1 (P:=λus=>bJ _ ⟨us,[]⟩=pure `w) hl ?_;intros;rfl),aV X G a17⟩;have F18:=bg (st:=kj) l18 c18 k18;have D18:Def K mg "place_behind" kj ["words","place"]:=⟨f18,_,F18,F18.binds (ps:=["words","place"]) (λ_ _ _ _ _ _ us hl=>by refine us2 (P:=λus=>bJ _ ⟨us,[]⟩=pure `w) hl ?_;intros;rfl),aV X G a18⟩;have F19:=bg (st:=yq) l19 c19 k19;have D19:Def K mg "leaf_letter" yq ["word","kinds"]:=⟨f19,_,F19,F19.binds (ps:=["word","kinds"]) (λ_ _ _ _ _ _ us hl=>by refine us2 (P:=λus=>bJ _ ⟨us,[]⟩=pure `w) hl ?_;intros;rfl),aV X G a19⟩;have F20:=bg (st:=zj) l20 c20 k20;have D20:Def K mg "lies_upon" zj ["letter","shape_word","word"]:=⟨f20,_,F20,F20.binds (ps:=["letter","shape_word","word"]) (λ_ _ _ _ _ _ us hl=>by refine us3 (P:=λus=>bJ _ ⟨us,[]⟩=pure `w) hl ?_;intros;rfl),aV X G a20⟩;have F21:=bg (st:=ya) l21 c21 k21;have D21:Def K mg "laid" ya ["shape","kinds","words","place"]:=⟨f21,_,F21,F21.binds (ps:=["shape","kinds","words","place"]) (λ_ _ _ _ _ _ us hl=>by refine us4 (P:=λus=>bJ _ ⟨us,[]⟩=pure `w) hl ?_;intros;rfl),aV X G a21⟩;have F22:=bg (st:=la) l22 c22 k22;have D22:Def K mg "holes_under" la ["shape","kinds","under"]:=⟨f22,_,F22,F22.binds (ps:=["shape","kinds","under"]) (λ_ _ _ _ _ _ us hl=>by refine us3 (P:=λus=>bJ _ ⟨us,[]⟩=pure `w) hl ?_;intros;rfl),aV X G a22⟩;have F23:=bg (st:=xx) l23 c23 k23;have D23:Def K mg "last_hole_first" xx ["book","step"]:=⟨f23,_,F23,F23.binds (ps:=["book","step"]) (λ_ _ _ _ _ _ us hl=>by refine us2 (P:=λus=>bJ _ ⟨us,[]⟩=pure `w) hl ?_;intros;rfl),aV X G a23⟩;have F24:=bg (st:=qy) l24 c24 k24;have D24:Def K mg "laid_rule" qy ["book","name","words","place","kind"]:=⟨f24,_,F24,F24.binds (ps:=["book","name","words","place","kind"]) (λ_ _ _ _ _ _ us hl=>by refine us5 (P:=λus=>bJ _ ⟨us,[]⟩=pure `w) hl ?_;intros;rfl),aV X G a24⟩;have F25:=bg (st:=j8) l25 c25 k25;have D25:Def K mg "laid_cover" j8 ["book","words","place","kind","cover"]:=⟨f25,_,F25,F25.binds (ps:=["book","words","place","kind","cover"]) (λ_ _ _ _ _ _ us hl=>by refine us5 (P:=λus=>bJ _ ⟨us,[]⟩=pure `w) hl ?_;intros;rfl),aV X G a25⟩;have F26:=bg (st:=ki) l26 c26 k26;have D26:Def K mg "boxes_named" ki ["rule"]:=⟨f26,_,F26,F26.binds (ps:=["rule"]) (λ_ _ _ _ _ _ us hl=>by refine us1 (P:=λus=>bJ _ ⟨us,[]⟩=pure `w) hl ?_;intros;rfl),aV X G a26⟩;have F27:=bg (st:=lj) l27 c27 k27;have D27:Def K mg "steps_below" lj ["steps"]:=⟨f27,_,F27,F27.binds (ps:=["steps"]) (λ_ _ _ _ _ _ us hl=>by refine us1 (P:=λus=>bJ _ ⟨us,[]⟩=pure `w) hl ?_;intros;rfl),aV X G a27⟩;have F28:=bg (st:=lb) l28 c28 k28;have D28:Def K mg "holes_ahead" lb ["holes"]:=⟨f28,_,F28,F28.binds (ps:=["holes"]) (λ_ _ _ _ _ _ us hl=>by refine us1 (P:=λus=>bJ _ ⟨us,[]⟩=pure `w) hl ?_;intros;rfl),aV X G a28⟩;have F29:=bg (st:=i9) l29 c29 k29;have D29:Def K mg "counted_boxes" i9 ["steps","order"]:=⟨f29,_,F29,F29.binds (ps:=["steps","order"]) (λ_ _ _ _ _ _ us hl=>by refine us2 (P:=λus=>bJ _ ⟨us,[]⟩=pure `w) hl ?_;intros;rfl),aV X G a29⟩;have F30:=bg (st:=qw) l30 c30 k30;have D30:Def K mg "meanings" qw ["step","results","boxes"]:=⟨f30,_,F30,F30.binds (ps:=["step","results","boxes"]) (λ_ _ _ _ _ _ us hl=>by refine us3 (P:=λus=>bJ _ ⟨us,[]⟩=pure `w) hl ?_;intros;rfl),aV X G a30⟩;have F31:=bg (st:=qi) l31 c31 k31;have D31:Def K mg "deed_rows" qi ["step","results","boxes"]:=⟨f31,_,F31,F31.binds (ps:=["step","results","boxes"]) (λ_ _ _ _ _ _ us hl=>by refine us3 (P:=λus=>bJ _ ⟨us,[]⟩=pure `w) hl ?_;intros;rfl),aV X G a31⟩;have F32:=bg (st:=qd) l32 c32 k32;have D32:Def K mg "rows_in_order" qd ["steps","holes","order","boxes"]:=⟨f32,_,F32,F32.binds (ps:=["steps","holes","order","boxes"]) (λ_ _ _ _ _ _ us hl=>by refine us4 (P:=λus=>bJ _ ⟨us,[]⟩=pure `w) hl ?_;intros;rfl),aV X G a32⟩;have F33:=bg (st:=kg) l33 c33 k33;have D33:Def K mg "rows_of" kg ["book","words","kind","cover"]:=⟨f33,_,F33,F33.binds (ps:=["book","words","kind","cover"]) (λ_ _ _ _ _ _ us hl=>by refine us4 (P:=λus=>bJ _ ⟨us,[]⟩=pure `w) hl ?_;intros;rfl),aV X G a33⟩;have F34:=bg (st:=qm) l34 c34 k34;have D34:Def K mg "_law_used" qm ["rule"]:=⟨f34,_,F34,F34.binds (ps:=["rule"]) (λ_ _ _ _ _ _ us hl=>by refine us1 (P:=λus=>bJ _ ⟨us,[]⟩=pure `w) hl ?_;intros;rfl),aV X G a34⟩;have F35:=bg (st:=pz) l35 c35 k35;have D35:Def K mg "_law_thing" pz ["word","boxes","found"]:=⟨f35,_,F35,F35.binds (ps:=["word","boxes","found"]) (λ_ _ _ _ _ _ us hl=>by refine us3 (P:=λus=>bJ _ ⟨us,[]⟩=pure `w) hl ?_;intros;rfl),aV X G a35⟩;have F36:=bg (st:=qe) l36 c36 k36;have D36:Def K mg "_law_same" qe ["found","rows","box"]:=⟨f36,_,F36,F36.binds (ps:=["found","rows","box"]) (λ_ _ _ _ _ _ us hl=>by refine us3 (P:=λus=>bJ _ ⟨us,[]⟩=pure `w) hl ?_;intros;rfl),aV X G a36⟩;have F37:=bg (st:=qc) l37 c37 k37;have D37:Def K mg "_law_rows" qc ["book","words","place","cover","at","rows","count"]:=⟨f37,_,F37,F37.binds (ps:=["book","words","place","cover","at","rows","count"]) (λ_ _ _ _ _ _ us hl=>by refine us7 (P:=λus=>bJ _ ⟨us,[]⟩=pure `w) hl ?_;intros;rfl),aV X G a37⟩;have F38:=bg (st:=Dh) l38 c38 k38;refine ⟨aW "law" "law" (ax Dh) (au Dh) (af Dh) .none kV38 dc38 pm38 an38 cd38 ct38,λs v=>.of_eq rfl,λbase _ _=>?_⟩;have H0:Has l.prog w K mg base 1 "_law_draw" ["script","k"] (lp K):=Rv (k:=0) G0   D0;have H1:Has l.prog w K mg base 2 "_law_word" ["script","i"] (yd K):=U1 (k:=1) G0 (H0.up `a)  D1;have H2:Has l.prog w K mg base 1 "_law_number" ["draw"] zi:=Sh (k:=0) G0   D2;have H3:Has l.prog w K mg base 1 "_law_price" ["draw"] sj:=K0 (k:=0) G0   D3;have H4:Has l.prog w K mg base 1 "_law_leaf" ["draw","kinds","seen","box"] wm:=N9 (k:=0) G0   D4;have H5:Has l.prog w K mg base 2 "_law_shape" ["draw","more","kinds"] ui:=Lj (k:=1) G0 (H4.up `a)  D5;have H6:Has l.prog w K mg base 2 "_law_more" ["script","kinds"] (xi K):=Mt (k:=1) G0 (H0.up `a)  D6;have H7:Has l.prog w K mg base 3 "_law_book" ["script"] (xh K):=Rb (k:=2) G0 (H0.up `a) (H6.up `a) (H2.up `a) (H3.up `a) (H5.up `a) (H1.up `a)  D7;have H8:Has l.prog w K mg base 3 "_law_term" ["script","at","limit"] (wz K):=Nz (k:=2) G0 (H0.up `a) (H2.up `a) (H1.up `a)  D8;have H9:Has l.prog w K mg base 1 "_law_end" ["words","place"] Dn:=Ri (k:=0) G0   D9;have H10:Has l.prog w K mg base 2 "_law_fit" ["kinds","shape","words","place"] ph:=Uk (k:=1) G0 (H9.up `a)  D10;have H11:Has l.prog w K mg base 1 "_law_kinds" ["book","rule"] tm:=L6 (k:=0) G0   D11;have H12:Has l.prog w K mg base 3 "_law_fitted" ["book","words","place","kind","ranks"] mr:=Lf (k:=2) G0 (H10.up `a) (H11.up `a)  D12;have H13:Has l.prog w K mg base 4 "_law_ranks" ["book","words"] sx:=K5 (k:=3) G0 (H12.up `a)  D13;have H14:Has l.prog w K mg base 4 "_law_cover" ["script","at","book","words","ranks","kind"] (si K):=La (k:=3) G0 (H0.up `a) (H12.up `a)  D14;have H15:Has l.prog w K mg base 1 "_law_rule" ["book","name"] nj:=Ra (k:=0) G0   D15;have H16:Has l.prog w K mg base 5 "_law_case" ["script","limit"] (wo K):=Oo (k:=4) G0 (H7.up `a) (H14.up `a) (H0.up `a) (H13.up `a) (H8.up `a)  D16;have H17:Has l.prog w K mg base 1 "how_many_below" ["word"] xk:=hasHow (k:=0) G0   D17;have H18:Has l.prog w K mg base 2 "place_behind" ["words","place"] (y9 K):=Mf (k:=1) G0 (H17.up `a)  D18;have H19:Has l.prog w K mg base 1 "leaf_letter" ["word","kinds"] (kz K):=Td (k:=0) G0   D19;have H20:Has l.prog w K mg base 2 "lies_upon" ["letter","shape_word","word"] Cm:=R1 (k:=1) G0 (H17.up `a)  D20;have H21:Has l.prog w K mg base 3 "laid" ["shape","kinds","words","place"] (Cp K):=Sm (k:=2) G0 (H19.up `a) (H20.up `a) (H18.up `a)  D21;have H22:Has l.prog w K mg base 2 "holes_under" ["shape","kinds","under"] (rq K):=Mi (k:=1) G0 (H19.up `a)  D22;have H23:Has l.prog w K mg base 3 "last_hole_first" ["book","step"] Cs:=Rj (k:=2) G0 (H22.up `a)  D23;have H24:rb l.prog w K mg base 4 "laid_rule" ["book","name","words","place","kind"] (t6 (Cl.mk e0 e0 e0 e3 e0 e0 e0 e0 e0 e0 e0 e0)):=N3 (k:=3) G0 (H21.up `a)  D24;have H25:rb l.prog w K mg base 5 "laid_cover" ["book","words","place","kind","cover"] (oo (Cl.mk e0 e0 e0 e3 e0 e0 e0 e0 e0 e0 e0 e0)):=L0 (k:=4) G0 (H24.up `a) (H23.up `a)  D25;have H26:Has l.prog w K mg base 1 "boxes_named" ["rule"] my:=Lu (k:=0) G0   D26;have H27:Has l.prog w K mg base 1 "steps_below" ["steps"] sv:=Mp (k:=0) G0   D27;have H28:Has l.prog w K mg base 1 "holes_ahead" ["holes"] uf:=Kr (k:=0) G0   D28;have H29:Has l.prog w K mg base 2 "counted_boxes" ["steps","order"] n6:=Ih (k:=1) G0 (H26.up `a)  D29;have H30:Has l.prog w K mg base 2 "meanings" ["step","results","boxes"] wc:=Pg (k:=1) G0 (H26.up `a)  D30;have H31:Has l.prog w K mg base 3 "deed_rows" ["step","results","boxes"] xa:=Pe (k:=2) G0 (H30.up `a)  D31;have H32:Has l.prog w K mg base 4 "rows_in_order" ["steps","holes","order","boxes"] wj:=Pf (k:=3) G0 (H31.up `a)  D32;have H33:rb l.prog w K mg base 6 "rows_of" ["book","words","kind","cover"] (sd (Cl.mk e0 e0 e0 e3 e0 e0 e0 e0 e0 e0 e0 e0)):=Mn (k:=5) G0 (H29.up `a) (H28.up `a) (H25.up `a) (H32.up `a) (H27.up `a)  D33;have H34:Has l.prog w K mg base 1 "_law_used" ["rule"] oj:=Ow (k:=0) G0   D34;have H35:Has l.prog w K mg base 1 "_law_thing" ["word","boxes","found"] oh:=Ol (k:=0) G0   D35;have H36:Has l.prog w K mg base 1 "_law_same" ["found","rows","box"] wg:=Qf (k:=0) G0   D36;have H37:Has l.prog w K mg base 203 "_law_rows" ["book","words","place","cover","at","rows","count"] (jd 200):=Nd (k:=2) G0 (H10.up `a) (H15.up `a) (H35.up `a) (H34.up `a)  D37;exact hasLaw (k:=203) G0 (H16.up `a) (H37.up `a) (H36.up `a) (H33.up `a)  F38
theorem walk {l:jT} {q:aU} {loose:List Str} {XP:(Str→Option Value)→Heap→Prop} {YP:bA→Heap→Prop} {d:DefRec} {K:Params→aF} (hn:l.most=aA 63) (hdf:d.params.defaults=[])
  (hY:∀(w:bA) (h:Heap),YP w h→(K w.params).In h)
  (F:∀(w:bA) (mg:Str→Option Value) (fa:Addr) (h:Heap),(K w.params).In h→h.Ns aK mg→mg d.name=aA (.ref fa)→
   ∃fd:cP,(∀(s:aE) (u:Value),lB s fd ⟨[u],[]⟩ [("script",u)])∧∀base:Heap,(K w.params).In base→base.Ns aK mg→ox l.prog w (K w.params) mg base CX0 204 fa fd ["script"] (Kl (K w.params))):
  PySem.W.WalkO q loose XP YP l.row.toRowW d [] (λf vs=>oD f vs):=
 L2.Vc (n:=63) (k:=204) (x:="script") (CX:=λ_=>CX0) (sp:=λw=>Kl (K w.params)) hn `a hdf ⟨rfl,by decide,by decide⟩ hY F (λ_ _ a ns hl _ hS=>⟨a,ns,rfl,hS,hl,λ_=>rfl⟩) λ_ _ _ _ _ z=>z
end K61
namespace PySem.W.Fast
def tw2263462036455427996:=()
def tw2854522129692528907:=()
def tw14347372002269216481:=()
def tw9805752619055520758:=()
def tw2891923477888230011:=()
def tw17912480711369985555:=()
def tw2126153559499565480:=()
def tw18157047750836484302:=()
def tw13013756828226827305:=()
def tw7306495451851323458:=()
def tw6916404948281074830:=()
def tw6499611111926939184:=()
def tw5178316786275794065:=()
def tw1788802802120551619:=()
def tw17566902044888500686:=()
def tw15725057158061007952:=()
def tw11515644920118558556:=()
def tw14927572176638548172:=()
def tw17603943475151001411:=()
def tw10337544010137022327:=()
def tw16326037789465914671:=()
def tw7743034235565913250:=()
def tw8693017407785410344:=()
def tw1546487956932533398:=()
def tw1441290319000704596:=()
def tw7422915297265526304:=()
def tw4501048331211677978:=()
def tw14887519493831209979:=()
def tw11509573755308262604:=()
def tw10052556650640681705:=()
def tw7528525967624907467:=()
def tw5418816738074482444:=()
def tw3814784358982262540:=()
def tw7865230781083801110:=()
def tw10644768936387893423:=()
def tw16198890486579539000:=()
def tw13733353299552496106:=()
def tw12443494832648416086:=()
def tw479360940838576694:=()
def tw6874731338723021558:=()
def tw9362558698477305815:=()
def tw18214085867055490408:=()
def tw6792005522183178013:=()
def tw8928271699317289752:=()
def tw5525956702856736131:=()
def tw16560209906855356754:=()
def tw266322946882988447:=()
def tw146524088574057437:=()
def tw1050331150031107411:=()
def tw11092346995384136331:=()
def tw17538383338508870154:=()
def tw6621443923104117746:=()
def tw2515991317903975474:=()
def tw4835894935040727031:=()
def tw14834823384594221215:=()
def tw18022904378067083581:=()
def tw12443142595169920619:=()
def tw11707690117627663177:=()
def tw531099168383412689:=()
def tw3744487626148322304:=()
def tw13835113132993044682:=()
def tw7939398454422011097:=()
def tw8917497613075054063:=()
def tw12346086217316162151:=()
def tw7501826051359815590:=()
def tw13369259763105938463:=()
def tw16342394093836126086:=()
def tw12027873060237034489:=()
def tw8392312823317412887:=()
def tw8300839889778469373:=()
def tw11294325383756518612:=()
def tw10222191009846982705:=()
def tw18305492340402653744:=()
def tw16060850518417938705:=()
def tw13343758565118999805:=()
def tw7929391005279995345:=()
def tw4526275054686354384:=()
def tw5059588239567440462:=()
def tw17134486182835022832:=()
def tw17705733136672956157:=()
def tw6692232837518481896:=()
def tw14203995862885468814:=()
def tw11228927689289713176:=()
def tw11451541987098529489:=()
def tw4772803249904975232:=()
def tw13729712719122852584:=()
def tw15698202244701506144:=()
def tw12139007457112990854:=()
def tw375215566641300443:=()
def tw8742254052522555840:=()
def tw14167732240880456359:=()
def tw856288798854186541:=()
def tw5905320720649468955:=()
def tw9742380147845212936:=()
def tw7588190748883137707:=()
def tw1423488397488406301:=()
def tw5475291555610366474:=()
def tw10538728810833391770:=()
def tw2332827959729513289:=()
def tw6415795344646016948:=()
def tw2869207505083575158:=()
def tw6013440518397479624:=()
def tw7812643427748530010:=()
def tw17394779945278403788:=()
def tw12886018866991620786:=()
def tw1677150125884333463:=()
def tw17069981583491608011:=()
def tw3049804259274986185:=()
def tw13144245600743469946:=()
def tw3644867236779695634:=()
def tw6923686294021479213:=()
def tw10967423096795456129:=()
def tw11335985851398605383:=()
def tw11327726148835433047:=()
def tw9188001479677061981:=()
def tw3030514894195724951:=()
def tw448884619287831517:=()
def tw7600460673282073239:=()
def tw2799334853453860274:=()
def tw604620101364026141:=()
def tw17075547890332712493:=()
def tw8339621504900269202:=()
def tw12092639428715367662:=()
def tw13781001909271400078:=()
def tw5581030202364461235:=()
def tw15286695457251310944:=()
def tw10455453594992881924:=()
def tw12076870918493313443:=()
def tw640623152564205708:=()
def tw533885705246343551:=()
def tw10457304671341670396:=()
def tw17931126816651529026:=()
def tw7110603927951612530:=()
def tw8432228527261823674:=()
def tw2866392014414811047:=()
def tw9619778941365687465:=()
def tw13340785930341634641:=()
def tw15944228405771178457:=()
def tw11706227374064981193:=()
def tw7160461946930457182:=()
def tw6561694744608948268:=()
def tw6014121239196032963:=()
def tw14339884403868136261:=()
def tw9682515102631150162:=()
def tw3235592435322935543:=()
def tw552741404648910295:=()
def tw11734071188632959664:=()
def tw16443704893392700978:=()
def tw5682754514701445947:=()
def tw13779130336824858064:=()
def tw15453161164054305583:=()
def tw14777432122336339154:=()
def tw14442509403906469551:=()
def tw10611103713138866880:=()
def tw8483960446100032389:=()
def tw2206741679121036363:=()
def tw17171295657456254863:=()
def tw7345423284405343955:=()
def tw2783806071679250659:=()
def tw1900993321032713012:=()
def tw3036269030982803119:=()
def tw10141979674945938311:=()
def tw17906712522986618035:=()
def tw12041757915066592483:=()
def tw4628654724771905751:=()
def tw7750712828537554705:=()
def tw3386654655586927234:=()
def tw8150819364108790846:=()
def tw8564738390958840841:=()
def tw12089784969002963844:=()
def tw17123542405221756313:=()
def tw14628347952918047925:=()
def tw2988229242761091166:=()
def tw3751480294669280773:=()
def tw7971837303148427356:=()
def tw5747865693854584248:=()
def tw13448257676380799388:=()
def tw6273839945011618790:=()
def tw16376987557566035559:=()
def tw6178521377416132203:=()
def tw8621893207802611754:=()
def tw2942379418183140938:=()
def tw14522240098783575297:=()
def tw14554648331959625174:=()
def tw2460334509188251676:=()
def tw12259502552152127060:=()
def tw14825919340327381864:=()
def tw18282688377715423458:=()
def tw4688181470938794174:=()
def tw14125426457832930089:=()
def tw2489356757104381490:=()
def tw12999825883631378768:=()
def tw4070798627943016300:=()
def tw2451919699483121693:=()
def tw12099857123070701262:=()
def tw5737983988739102404:=()
def tw15430877395630326572:=()
def tw11669557421562525536:=()
def tw2855374289418923508:=()
def tw14285422306680634188:=()
def tw10742556089264609410:=()
def tw16522243415878592323:=()
def tw5434489224723581446:=()
def tw15537280471258245974:=()
def tw4255289096310319921:=()
def tw13754222020785395065:=()
def tw13821173958416402441:=()
def tw9523658274507715356:=()
def tw16941699799467301328:=()
def tw8304986495667420308:=()
def tw6766629418995449482:=()
def tw16161993275358236130:=()
def tw9102951672840573113:=()
def tw3202182305611573735:=()
def tw5231585272140212129:=()
def tw8510767909029050929:=()
def tw13357477886969531000:=()
def tw11564993842501048427:=()
def tw7698300203267209953:=()
def tw9410042942864945020:=()
def tw13497861519400662384:=()
def tw6962215707141242675:=()
def tw1778440370389670739:=()
def tw4063130805021158307:=()
def tw8784305494094221758:=()
def tw11991387662882929541:=()
def tw1422984490815768415:=()
def tw15150732913437706456:=()
def tw9241206928138761320:=()
def tw4176134459028798269:=()
def tw13514927501590118496:=()
def tw3037232783677397817:=()
def tw2008334665494568955:=()
def tw6353866078545453006:=()
def tw8616152719577263188:=()
def tw244823060946595761:=()
def tw11578932709963990009:=()
def tw11135988901929500364:=()
def tw3578733639078164483:=()
def tw8568218027926463506:=()
def tw10573621278767252499:=()
def tw9353263653261848864:=()
def tw11412231361222661391:=()
def tw7010774656322010220:=()
def tw16306222030313867454:=()
def tw17297904306438605804:=()
def tw7587435929127280680:=()
def tw17210117267052826272:=()
def tw16304500262331279282:=()
def tw2115983361659321160:=()
def tw14098379156903820974:=()
def tw1305345228505075016:=()
def tw17815904641366296868:=()
def tw1037145052976936295:=()
def tw491138211181927715:=()
def tw2037845122334797335:=()
def tw12161085092453822745:=()
def tw4985926955748786538:=()
end PySem.W.Fast
open PySem PySem.W PyProof.Rows
set_option maxRecDepth 100000 in
set_option maxHeartbeats 0 in
theorem PySem.Challenge.cw_pricecover_k61_rows_of_a_cover_holds : PySem.Challenge.rw_pricecover_k61_rows_of_a_cover.Holds := by
 w_on;o_law;k_head;(case hw=>w_witness2)
 k_fill
 refine K61.walk (l:=PySem.Challenge.rw_pricecover_k61_rows_of_a_cover) rfl rfl (fun w h Y=>PySem.W.kIn_of Y) ?F
 case F=>
  intro w mg fa h KX G hmg
  refine' K61.all_mk KX G hmg ?a0 ?l0 ?c0 ?k0 ?a1 ?l1 ?c1 ?k1 ?a2 ?l2 ?c2 ?k2 ?a3 ?l3 ?c3 ?k3 ?a4 ?l4 ?c4 ?k4 ?a5 ?l5 ?c5 ?k5 ?a6 ?l6 ?c6 ?k6 ?a7 ?l7 ?c7 ?k7 ?a8 ?l8 ?c8 ?k8 ?a9 ?l9 ?c9 ?k9 ?a10 ?l10 ?c10 ?k10 ?a11 ?l11 ?c11 ?k11 ?a12 ?l12 ?c12 ?k12 ?a13 ?l13 ?c13 ?k13 ?a14 ?l14 ?c14 ?k14 ?a15 ?l15 ?c15 ?k15 ?a16 ?l16 ?c16 ?k16 ?a17 ?l17 ?c17 ?k17 ?a18 ?l18 ?c18 ?k18 ?a19 ?l19 ?c19 ?k19 ?a20 ?l20 ?c20 ?k20 ?a21 ?l21 ?c21 ?k21 ?a22 ?l22 ?c22 ?k22 ?a23 ?l23 ?c23 ?k23 ?a24 ?l24 ?c24 ?k24 ?a25 ?l25 ?c25 ?k25 ?a26 ?l26 ?c26 ?k26 ?a27 ?l27 ?c27 ?k27 ?a28 ?l28 ?c28 ?k28 ?a29 ?l29 ?c29 ?k29 ?a30 ?l30 ?c30 ?k30 ?a31 ?l31 ?c31 ?k31 ?a32 ?l32 ?c32 ?k32 ?a33 ?l33 ?c33 ?k33 ?a34 ?l34 ?c34 ?k34 ?a35 ?l35 ?c35 ?k35 ?a36 ?l36 ?c36 ?k36 ?a37 ?l37 ?c37 ?k37 ?a38 ?l38 ?c38 ?k38 ?z0 ?z1 ?z2 ?z3 ?z4 ?z5 ?z6 ?z7 ?z8 ?z9 ?z10 ?z11 ?z12 ?z13 ?z14 ?y0 ?x0 ?hh0x0 ?hh0x1 ?hh0x2 ?hh0x3 ?ha0 ?y1 ?x1 ?cn0 ?cl0 ?ck0 ?cs0 ?cg0 ?ch0 ?cc0 ?cn3 ?cl3 ?ck3 ?cs3 ?cg3 ?ch3 ?cc3 ?ip3
  (case a0=>k_is)
  (case l0=>k_is)
  (case c0=>k_is)
  (case k0=>k_is)
  (case a1=>k_is)
  (case l1=>k_is)
  (case c1=>k_is)
  (case k1=>k_is)
  (case a2=>k_is)
  (case l2=>k_is)
  (case c2=>k_is)
  (case k2=>k_is)
  (case a3=>k_is)
  (case l3=>k_is)
  (case c3=>k_is)
  (case k3=>k_is)
  (case a4=>k_is)
  (case l4=>k_is)
  (case c4=>k_is)
  (case k4=>k_is)
  (case a5=>k_is)
  (case l5=>k_is)
  (case c5=>k_is)
  (case k5=>k_is)
  (case a6=>k_is)
  (case l6=>k_is)
  (case c6=>k_is)
  (case k6=>k_is)
  (case a7=>k_is)
  (case l7=>k_is)
  (case c7=>k_is)
  (case k7=>k_is)
  (case a8=>k_is)
  (case l8=>k_is)
  (case c8=>k_is)
  (case k8=>k_is)
  (case a9=>k_is)
  (case l9=>k_is)
  (case c9=>k_is)
  (case k9=>k_is)
  (case a10=>k_is)
  (case l10=>k_is)
  (case c10=>k_is)
  (case k10=>k_is)
  (case a11=>k_is)
  (case l11=>k_is)
  (case c11=>k_is)
  (case k11=>k_is)
  (case a12=>k_is)
  (case l12=>k_is)
  (case c12=>k_is)
  (case k12=>k_is)
  (case a13=>k_is)
  (case l13=>k_is)
  (case c13=>k_is)
  (case k13=>k_is)
  (case a14=>k_is)
  (case l14=>k_is)
  (case c14=>k_is)
  (case k14=>k_is)
  (case a15=>k_is)
  (case l15=>k_is)
  (case c15=>k_is)
  (case k15=>k_is)
  (case a16=>k_is)
  (case l16=>k_is)
  (case c16=>k_is)
  (case k16=>k_is)
  (case a17=>k_is)
  (case l17=>k_is)
  (case c17=>k_is)
  (case k17=>k_is)
  (case a18=>k_is)
  (case l18=>k_is)
  (case c18=>k_is)
  (case k18=>k_is)
  (case a19=>k_is)
  (case l19=>k_is)
  (case c19=>k_is)
  (case k19=>k_is)
  (case a20=>k_is)
  (case l20=>k_is)
  (case c20=>k_is)
  (case k20=>k_is)
  (case a21=>k_is)
  (case l21=>k_is)
  (case c21=>k_is)
  (case k21=>k_is)
  (case a22=>k_is)
  (case l22=>k_is)
  (case c22=>k_is)
  (case k22=>k_is)
  (case a23=>k_is)
  (case l23=>k_is)
  (case c23=>k_is)
  (case k23=>k_is)
  (case a24=>k_is)
  (case l24=>k_is)
  (case c24=>k_is)
  (case k24=>k_is)
  (case a25=>k_is)
  (case l25=>k_is)
  (case c25=>k_is)
  (case k25=>k_is)
  (case a26=>k_is)
  (case l26=>k_is)
  (case c26=>k_is)
  (case k26=>k_is)
  (case a27=>k_is)
  (case l27=>k_is)
  (case c27=>k_is)
  (case k27=>k_is)
  (case a28=>k_is)
  (case l28=>k_is)
  (case c28=>k_is)
  (case k28=>k_is)
  (case a29=>k_is)
  (case l29=>k_is)
  (case c29=>k_is)
  (case k29=>k_is)
  (case a30=>k_is)
  (case l30=>k_is)
  (case c30=>k_is)
  (case k30=>k_is)
  (case a31=>k_is)
  (case l31=>k_is)
  (case c31=>k_is)
  (case k31=>k_is)
  (case a32=>k_is)
  (case l32=>k_is)
  (case c32=>k_is)
  (case k32=>k_is)
  (case a33=>k_is)
  (case l33=>k_is)
  (case c33=>k_is)
  (case k33=>k_is)
  (case a34=>k_is)
  (case l34=>k_is)
  (case c34=>k_is)
  (case k34=>k_is)
  (case a35=>k_is)
  (case l35=>k_is)
  (case c35=>k_is)
  (case k35=>k_is)
  (case a36=>k_is)
  (case l36=>k_is)
  (case c36=>k_is)
  (case k36=>k_is)
  (case a37=>k_is)
  (case l37=>k_is)
  (case c37=>k_is)
  (case k37=>k_is)
  (case a38=>k_is)
  (case l38=>k_is)
  (case c38=>k_is)
  (case k38=>k_is)
  (case z0=>k_is)
  (case z1=>k_is)
  (case z2=>k_is)
  (case z3=>k_is)
  (case z4=>k_is)
  (case z5=>k_is)
  (case z6=>k_is)
  (case z7=>k_is)
  (case z8=>k_is)
  (case z9=>k_is)
  (case z10=>k_is)
  (case z11=>k_is)
  (case z12=>k_is)
  (case z13=>k_is)
  (case z14=>k_is)
  (case y0=>k_is)
  (case x0=>k_is)
  (case hh0x0=>first | rfl | k_is)
  (case hh0x1=>first | rfl | k_is)
  (case hh0x2=>first | rfl | k_is)
  (case hh0x3=>first | rfl | k_is)
  (case ha0=>first | rfl | decide | k_is)
  (case y1=>k_is)
  (case x1=>k_is)
  (case cn0=>k_is)
  (case cl0=>k_is)
  (case ck0=>k_is)
  (case cs0=>k_is)
  (case cg0=>k_is)
  (case ch0=>k_is)
  (case cc0=>k_is)
  (case cn3=>k_is)
  (case cl3=>k_is)
  (case ck3=>k_is)
  (case cs3=>k_is)
  (case cg3=>k_is)
  (case ch3=>k_is)
  (case cc3=>k_is)
  (case ip3=>k_is)
#print axioms PySem.Challenge.cw_pricecover_k61_rows_of_a_cover_holds
